import PyProof.Rows.All
import Wide.All
import OpenK.AllK
import Wide.FinOn
import HandS.Base
import HandS.Call
import HandS.List
import HandS.Comp
import HandS.Words
import HandS.TupAny
import HandS.IsInst
import HandS.Conv
import HandS.Iter
import HandS.SortInts
import HandS.ExcOwn
import HandS.Sort
import HandS.Text
import PyProof.TupleOfSeq
import HandS.TupLe
import HandS.WideBits
import HandS.Dict
import HandS.TupSets
import HandS.Exc
import HandS.ExcInit
import HandS.WordsExc
import HandS.TryMany
import HandS.ExcIs
import HandS.ExcField
import KE.KExcIs
import HandS.ClsMeth
import HandS.Property
import HandS.DictComp
import HandS.DictTup
import HandS.SetKeys
import KE.GoesMore
import PyProof.Draws
import HandS.SortOrd
import PySem.Challenge.RW_neveralone_k13_ring_books
set_option Elab.async false
set_option linter.all false
set_option maxRecDepth 100000
/-! The data layer: what a def makes of its arguments as plain data, apart from where the data lie. -/
namespace DL
open PySem PySem.Spec PyProof.Rows L2

/-! ### data -/
/-- what stands under a global name; class and dict of the error that a suite holds -/
structure Gm where
  mg : Str → Option Value
  xc : Addr → Option (Addr × Addr)
instance : CoeFun Gm (fun _ => Str → Option Value) := ⟨Gm.mg⟩
abbrev g0 (mg : Str → Option Value) : Gm := ⟨mg, fun _ => none⟩
inductive D where
  | non | bl (b : Bool) | int (i : Int) | str (x : Str)
  | lst (ds : List D) | tup (ds : List D) | scr (ns : List Int) | rng (lo hi : Int) | ty (n : String)
  /-- a class of one's own; an object of it, its attributes; a dict by ints and texts, by tuples of them -/
  | cls (n : Str) | obj (n : Str) (ks : List Str) (ds : List D) | dk (ks : List Key) (ds : List D) | dt (ks : List (List Key)) (ds : List D)
  /-- an error that a suite holds -/
  | exc (n : Str) (ks : List Str) (ds : List D)
  deriving Inhabited
mutual
inductive Rep (K : PySem.W.Frag) (mg : Gm) (I : Hp) : V → D → Prop
  | non : Rep K mg I .non .non
  | bl (b : Bool) : Rep K mg I (.bl b) (.bl b)
  | int (i : Int) : Rep K mg I (.int i) (.int i)
  | str (x : Str) : Rep K mg I (.str x) (.str x)
  | lst {a : Addr} {vs : List V} {ds : List D} : I a = some (.lst vs) → Reps K mg I vs ds → Rep K mg I (.ref a) (.lst ds)
  | tup {a : Addr} {vs : List V} {ds : List D} : I a = some (.tup vs) → Reps K mg I vs ds → Rep K mg I (.ref a) (.tup ds)
  | scr {a : Addr} {ns : List Int} : SqL K I a (ns.map V.int) → Rep K mg I (.ref a) (.scr ns)
  | rng {a : Addr} {lo hi : Int} : I a = some (.rng lo hi) → Rep K mg I (.ref a) (.rng lo hi)
  | ty (n : String) : Rep K mg I (.ty n) (.ty n)
  | cls {n : Str} {C : Addr} : mg n = some (.ref C) → Rep K mg I (.ref C) (.cls n)
  | obj {a C dx : Addr} {n : Str} {fs : List (Str × V)} {ds : List D} : I a = some (.ins C dx fs) → mg n = some (.ref C) → Reps K mg I (fs.map (·.2)) ds → Rep K mg I (.ref a) (.obj n (fs.map (·.1)) ds)
  | dk {a : Addr} {kvs : List (Key × V)} {ds : List D} : Rd I a (.dK kvs) → Reps K mg I (kvs.map (·.2)) ds → Rep K mg I (.ref a) (.dk (kvs.map (·.1)) ds)
  | dt {a : Addr} {kvs : List (List Key × V)} {ds : List D} : Rd I a (.dT kvs) → Reps K mg I (kvs.map (·.2)) ds → Rep K mg I (.ref a) (.dt (kvs.map (·.1)) ds)
  | exc {a C d : Addr} {n : Str} {fs : List (Str × V)} {ds : List D} : mg.xc a = some (C, d) → mg n = some (.ref C) → I d = some (.xd fs) → Reps K mg I (fs.map (·.2)) ds → Rep K mg I (.ref a) (.exc n (fs.map (·.1)) ds)
inductive Reps (K : PySem.W.Frag) (mg : Gm) (I : Hp) : List V → List D → Prop
  | nil : Reps K mg I [] []
  | cons {v : V} {vs : List V} {d : D} {ds : List D} : Rep K mg I v d → Reps K mg I vs ds → Reps K mg I (v :: vs) (d :: ds)
end
theorem same_rd {H H' : Hp} {a : Addr} {o : HO} (e : Same H H') (h : Rd H a o) : Rd H' a o := by
  rcases h with h | ⟨u, h⟩
  · exact .inl (e _ _ h)
  · exact .inr ⟨u, e _ _ h⟩
theorem same_t {K : PySem.W.Frag} {H H' : Hp} {a : Addr} {xs : List V} (e : Same H H') (h : SqT K H a xs) : SqT K H' a xs := by
  rcases h with (h | ⟨o, h⟩) | h
  · exact .inl (.inl (e _ _ h))
  · exact .inl (.inr ⟨o, e _ _ h⟩)
  · exact .inr h
section
variable {K : PySem.W.Frag} {mg : Gm} {I I' H H' I2 H2 : Hp}
mutual
theorem Rep.mono (e : Same I I') : ∀ {v : V} {d : D}, Rep K mg I v d → Rep K mg I' v d
  | _, _, .non => .non
  | _, _, .bl b => .bl b
  | _, _, .int i => .int i
  | _, _, .str x => .str x
  | _, _, .lst h r => .lst (e _ _ h) (Reps.mono e r)
  | _, _, .tup h r => .tup (e _ _ h) (Reps.mono e r)
  | _, _, .scr h => .scr (e.seq h)
  | _, _, .rng h => .rng (e _ _ h)
  | _, _, .ty n => .ty n
  | _, _, .cls h => .cls h
  | _, _, .obj h c r => .obj (e _ _ h) c (Reps.mono e r)
  | _, _, .dk h r => .dk (same_rd e h) (Reps.mono e r)
  | _, _, .dt h r => .dt (same_rd e h) (Reps.mono e r)
  | _, _, .exc x n h r => .exc x n (e _ _ h) (Reps.mono e r)
theorem Reps.mono (e : Same I I') : ∀ {vs : List V} {ds : List D}, Reps K mg I vs ds → Reps K mg I' vs ds
  | _, _, .nil => .nil
  | _, _, .cons h r => .cons (Rep.mono e h) (Reps.mono e r)
end
theorem Reps.len : ∀ {vs : List V} {ds : List D}, Reps K mg I vs ds → vs.length = ds.length
  | _, _, .nil => rfl
  | _, _, .cons _ r => congrArg (· + 1) (Reps.len r)
theorem Reps.get : ∀ {vs : List V} {ds : List D} {i : Nat} {d : D}, Reps K mg I vs ds → ds[i]? = some d → ∃ v, vs[i]? = some v ∧ Rep K mg I v d
  | _, _, _, _, .nil, h => by simp at h
  | _, _, 0, _, .cons h r, e => by
    have e : _ = _ := Option.some.inj e
    subst e
    exact ⟨_, rfl, h⟩
  | _, _, i + 1, _, .cons h r, e => Reps.get (i := i) r e
theorem Reps.get' : ∀ {vs : List V} {ds : List D} {i : Nat} {v : V}, Reps K mg I vs ds → vs[i]? = some v → ∃ d, ds[i]? = some d ∧ Rep K mg I v d
  | _, _, _, _, .nil, h => by simp at h
  | _, _, 0, _, .cons h r, e => by
    have e : _ = _ := Option.some.inj e
    subst e
    exact ⟨_, rfl, h⟩
  | _, _, i + 1, _, .cons h r, e => Reps.get' (i := i) r e
theorem Reps.app : ∀ {vs ws : List V} {ds es : List D}, Reps K mg I vs ds → Reps K mg I ws es → Reps K mg I (vs ++ ws) (ds ++ es)
  | _, _, _, _, .nil, s => s
  | _, _, _, _, .cons h r, s => .cons h (Reps.app r s)
theorem Reps.take : ∀ {vs : List V} {ds : List D} (n : Nat), Reps K mg I vs ds → Reps K mg I (vs.take n) (ds.take n)
  | _, _, 0, _ => .nil
  | _, _, _ + 1, .nil => .nil
  | _, _, n + 1, .cons h r => .cons h (Reps.take n r)
theorem Reps.drop : ∀ {vs : List V} {ds : List D} (n : Nat), Reps K mg I vs ds → Reps K mg I (vs.drop n) (ds.drop n)
  | _, _, 0, r => r
  | _, _, _ + 1, .nil => .nil
  | _, _, n + 1, .cons _ r => Reps.drop n r
theorem Reps.set {v : V} {d : D} (h : Rep K mg I v d) : ∀ {vs : List V} {ds : List D} (i : Nat), Reps K mg I vs ds → Reps K mg I (vs.set i v) (ds.set i d)
  | _, _, _, .nil => .nil
  | _, _, 0, .cons _ r => .cons h r
  | _, _, i + 1, .cons q r => .cons q (Reps.set h i r)
theorem Reps.erase : ∀ {vs : List V} {ds : List D} (i : Nat), Reps K mg I vs ds → Reps K mg I (vs.eraseIdx i) (ds.eraseIdx i)
  | _, _, _, .nil => .nil
  | _, _, 0, .cons _ r => r
  | _, _, i + 1, .cons q r => .cons q (Reps.erase i r)
theorem Reps.rev {vs : List V} {ds : List D} (h : Reps K mg I vs ds) : Reps K mg I vs.reverse ds.reverse := by
  induction vs generalizing ds with
  | nil =>
    cases h
    exact .nil
  | cons v vs ih =>
    cases h with
    | cons a r =>
      rw [List.reverse_cons, List.reverse_cons]
      exact (ih r).app (.cons a .nil)
theorem Reps.ints {ns : List Int} : Reps K mg I (ns.map V.int) (ns.map D.int) := by
  induction ns with
  | nil => exact .nil
  | cons n ns ih => exact .cons (.int n) ih

/-! ### a step: nothing that stood is changed; what the data lie in grows by new objects alone -/
def TupO : HO → Prop
  | .tup _ => True
  | _ => False
/-- new; or a tuple -/
def Fr (H : Hp) (a : Addr) (o : HO) : Prop := H a = none ∨ TupO o
structure Stp (I H I' H' : Hp) : Prop where
  i : Same I I'
  h : Same H H'
  e : Same I' H'
  f : ∀ a o, I' a = some o → I a = some o ∨ Fr H a o
theorem Stp.refl (e : Same I H) : Stp I H I H := ⟨.refl _, .refl _, e, fun _ _ h => .inl h⟩
theorem Stp.trans (s : Stp I H I' H') (t : Stp I' H' I2 H2) : Stp I H I2 H2 := ⟨s.i.trans t.i, s.h.trans t.h, t.e, fun a o h => by
  rcases t.f a o h with h | h | h
  · exact s.f a o h
  · exact .inr (.inl (s.h.free h))
  · exact .inr (.inr h)⟩
/-- a new object -/
theorem Stp.new {p : Addr} {o : HO} (e : Same I H) (h : H p = none) : Stp I H (upd I p o) (upd H p o) := by
  have hi : I p = none := e.free h
  refine ⟨fun b u q => ?_, fun b u q => ?_, fun b u q => ?_, fun b u q => ?_⟩
  · rw [upd_ne (ne_of_none q hi)]
    exact q
  · rw [upd_ne (ne_of_none q h)]
    exact q
  · by_cases hb : b = p
    · subst hb
      rw [upd_same] at q ⊢
      exact q
    · rw [upd_ne hb] at q ⊢
      exact e _ _ q
  · by_cases hb : b = p
    · subst hb
      exact .inr (.inl h)
    · rw [upd_ne hb] at q
      exact .inl q
/-- an object of H alone, new -/
theorem Stp.side {p : Addr} {o : HO} (e : Same I H) (h : H p = none) : Stp I H I (upd H p o) := by
  have q : Same H (upd H p o) := fun b u q => by
    rw [upd_ne (ne_of_none q h)]
    exact q
  exact ⟨.refl _, q, e.trans q, fun b u q => .inl q⟩
end

/-! ### results -/
inductive R (α : Type) where
  | ok (a : α) | err (nm : Str) (ds : List D) | stuck
def R.bind {α β : Type} : R α → (α → R β) → R β
  | .ok a, f => f a
  | .err n ds, _ => .err n ds
  | .stuck, _ => .stuck
instance : Monad R where
  pure := R.ok
  bind := R.bind
@[simp] theorem ok_bind {α β : Type} (a : α) (f : α → R β) : (R.ok a >>= f) = f a := rfl
@[simp] theorem err_bind {α β : Type} (n : Str) (ds : List D) (f : α → R β) : ((R.err n ds : R α) >>= f) = .err n ds := rfl
@[simp] theorem stuck_bind {α β : Type} (f : α → R β) : ((R.stuck : R α) >>= f) = .stuck := rfl
@[simp] theorem pure_ok {α : Type} (a : α) : (pure a : R α) = .ok a := rfl
abbrev Env := List (Option D)
def get (ρ : Env) (i : Nat) : R D := match ρ[i]? with
  | some (some d) => .ok d
  | _ => .stuck

/-! ### the wishes: of a value, of an exception -/
/-- an exception of the class nm whose fields are ds -/
structure XRep (K : PySem.W.Frag) (mg : Gm) (I H : Hp) (nm : Str) (ds : List D) (C : Value) (od : Option Addr) : Prop where
  c : mg nm = some C ∧ ∃ C0, C = .ref C0
  d : ∃ d fs es, od = some d ∧ I d = some (.xd fs) ∧ ds = [.obj nm (fs.map (·.1)) es] ∧ Reps K mg I (fs.map (·.2)) es
def Out (K : PySem.W.Frag) (mg : Gm) (E : XK) {α β : Type} (rp : Hp → β → α → Prop) (I H : Hp) (r : R α) (Q : β → Hp → Prop) : Prop := match r with
  | .ok d => ∀ v I' H', Stp I H I' H' → rp I' v d → Q v H'
  | .err nm ds => ∀ C od I' H', Stp I H I' H' → XRep K mg I' H' nm ds C od → E C od H'
  | .stuck => False
/-- the slots' values -/
structure RE (K : PySem.W.Frag) (mg : Gm) (I : Hp) (σ : L2.St) (ρ : Env) : Prop where
  len : σ.length = ρ.length
  at_ : ∀ (i : Nat) (d : D), ρ[i]? = some (some d) → ∃ v, σ[i]? = some (some v) ∧ Rep K mg I v d
abbrev rB : Hp → Bool → Bool → Prop := fun _ v d => v = d
abbrev rO : Hp → Option Int → Option Int → Prop := fun _ v d => v = d
/-- an iterator whose items are ds -/
def ItOk (K : PySem.W.Frag) (mg : Gm) (I : Hp) (J : It) (ds : List D) : Prop :=
  ∀ I1 H, Same I I1 → Same I1 H → (∀ (i : Nat) d, ds[i]? = some d → J.go i H ∧ ∀ x H', J.yld i H x H' → ∃ I2, Stp I1 H I2 H' ∧ Rep K mg I2 x d) ∧ J.stop ds.length H
section
variable {K : PySem.W.Frag} {mg : Gm} {E : XK} {I I' H H' : Hp} {σ : L2.St} {ρ : Env} {α β α' β' : Type} {rp : Hp → β → α → Prop} {rp' : Hp → β' → α' → Prop} {Q : β → Hp → Prop} {r : R α}
theorem RE.mono (h : RE K mg I σ ρ) (e : Same I I') : RE K mg I' σ ρ := ⟨h.len, fun i d q => by
  obtain ⟨v, a, b⟩ := h.at_ i d q
  exact ⟨v, a, b.mono e⟩⟩
theorem ItOk.mono {J : It} {ds : List D} (h : ItOk K mg I J ds) (e : Same I I') : ItOk K mg I' J ds := fun I1 H a b => h I1 H (e.trans a) b
theorem Out.mono (s : Stp I H I' H') (h : Out K mg E rp I H r Q) : Out K mg E rp I' H' r Q := by
  cases r with
  | ok d => exact fun v I2 H2 t q => h v I2 H2 (s.trans t) q
  | err nm ds => exact fun C od I2 H2 t q => h C od I2 H2 (s.trans t) q
  | stuck => exact h
/-- a wish by the slots' values -/
abbrev XS := L2.St → XK
def Sn (K : PySem.W.Frag) (mg : Gm) (E : XS) {α β : Type} (rp : Hp → β → α → Prop) (te : L2.St → Hp → (β → Hp → Prop) → Prop) (m : Env → R α) : Prop :=
  ∀ (σ : L2.St) (I H : Hp) (ρ : Env) (Q : β → Hp → Prop), RE K mg I σ ρ → Same I H → Out K mg (E σ) rp I H (m ρ) Q → te σ H Q
theorem Sn.run {E : XS} {te : L2.St → Hp → (β → Hp → Prop) → Prop} {m : Env → R α} {k : α → R α'} {P : β → Hp → Prop} {Q : β' → Hp → Prop} (h : Sn K mg E rp te m) (re : RE K mg I σ ρ) (ex : Same I H) (hq : Out K mg (E σ) rp' I H (m ρ >>= k) Q)
    (hk : ∀ d v I' H', m ρ = .ok d → Stp I H I' H' → rp I' v d → Out K mg (E σ) rp' I' H' (k d) Q → P v H') : te σ H P := by
  refine h σ I H ρ P re ex ?_
  cases e : m ρ with
  | ok d =>
    rw [e] at hq
    exact fun v I' H' s q => hk d v I' H' e s q (Out.mono s hq)
  | err nm ds =>
    rw [e] at hq
    exact hq
  | stuck =>
    rw [e] at hq
    exact hq
theorem Out.here {d : α} {v : β} (h : Out K mg E rp I H (.ok d) Q) (e : Same I H) (r : rp I v d) : Q v H := h v I H (.refl e) r
theorem Out.there {d : α} {v : β} (h : Out K mg E rp I H (.ok d) Q) (e : Stp I H I' H') (r : rp I' v d) : Q v H' := h v I' H' e r
end
end DL
namespace DL
open PySem PySem.Spec L2

/-! ### judgements: a piece of syntax and what it makes of the slots' data -/
/-- the wish of an error, by the slots; the errors that are held -/
structure Wh where
  e : XS
  x : Addr → Option (Addr × Addr)
abbrev kE (E : XK) : Wh := ⟨fun _ => E, fun _ => none⟩
abbrev Wh.calm (E : Wh) : Wh := ⟨fun _ => E0, E.x⟩
abbrev gm (X : Cx) (E : Wh) : Gm := ⟨X.mg, E.x⟩
structure ME (X : Cx) (E : Wh) (e : Expr) (t : TE) (m : Env → R D) : Prop where
  pe : PE X e t
  sn : Sn X.K (gm X E) E.e (Rep X.K (gm X E)) t m
structure MT (X : Cx) (E : Wh) (e : Expr) (t : TT) (m : Env → R Bool) : Prop where
  pe : PT X e t
  sn : Sn X.K (gm X E) E.e rB t m
structure MW (X : Cx) (E : Wh) (e : Expr) (t : TT) (m : Env → R Bool) : Prop where
  pe : PW X e t
  sn : Sn X.K (gm X E) E.e rB t m
structure MTs (X : Cx) (E : Wh) (es : List Expr) (t : TT) (m : Env → R Bool) : Prop where
  pe : PTs X es t
  sn : Sn X.K (gm X E) E.e rB t m
structure MA (X : Cx) (E : Wh) (es : List Expr) (t : TA) (m : Env → R (List D)) : Prop where
  pe : PA X es t
  sn : Sn X.K (gm X E) E.e (Reps X.K (gm X E)) t m
structure MO (X : Cx) (E : Wh) (e : Option Expr) (t : TO) (m : Env → R (Option Int)) : Prop where
  pe : PO X e t
  sn : Sn X.K (gm X E) E.e rO t m
structure MI (X : Cx) (E : Wh) (tg e : Expr) (t : TI) (m : Env → R (List D)) : Prop where
  pe : PI X tg e t
  sn : Sn X.K (gm X E) E.e (ItOk X.K (gm X E)) t m
theorem MW.mt {X : Cx} {E : Wh} {e : Expr} {t : TT} {m : Env → R Bool} (h : MW X E e t m) : MT X E e t m := by
  obtain ⟨a, b⟩ := h
  exact ⟨a.pt, b⟩

/-! ### rules by values -/
def RSn (K : PySem.W.Frag) (mg : Gm) (r : R2) (f : D → D → R D) : Prop :=
  ∀ (x y : V) (I H : Hp) (dx dy d : D) (Q : VK), Same I H → Rep K mg I x dx → Rep K mg I y dy → f dx dy = .ok d → (∀ v I' H', Stp I H I' H' → Rep K mg I' v d → Q v H') → r x y H Q
def USn (K : PySem.W.Frag) (mg : Gm) (r : V → Hp → VK → Prop) (f : D → R D) : Prop :=
  ∀ (x : V) (I H : Hp) (dx d : D) (Q : VK), Same I H → Rep K mg I x dx → f dx = .ok d → (∀ v I' H', Stp I H I' H' → Rep K mg I' v d → Q v H') → r x H Q
def CSn (K : PySem.W.Frag) (mg : Gm) (r : List V → Hp → VK → Prop) (f : List D → R D) : Prop :=
  ∀ (xs : List V) (I H : Hp) (ds : List D) (d : D) (Q : VK), Same I H → Reps K mg I xs ds → f ds = .ok d → (∀ v I' H', Stp I H I' H' → Rep K mg I' v d → Q v H') → r xs H Q
/-- an error of a built-in is none that we speak of -/
def calm {α : Type} : R α → R α
  | .ok a => .ok a
  | _ => .stuck
@[simp] theorem calm_ok {α : Type} (a : α) : calm (R.ok a) = .ok a := rfl
@[simp] theorem calm_stuck {α : Type} : calm (R.stuck : R α) = .stuck := rfl
theorem calm_of {α : Type} {r : R α} {a : α} (h : calm r = .ok a) : r = .ok a := by
  cases r with
  | ok b => exact h
  | err _ _ => cases h
  | stuck => cases h

/-! ### the parts of what a text makes -/
def o2 (f : D → D → R D) (a b : R D) : R D := a >>= fun x => b >>= fun y => calm (f x y)
def o1 (f : D → R D) (a : R D) : R D := a >>= fun x => calm (f x)
def asB : D → R Bool
  | .bl b => .ok b
  | _ => .stuck
@[simp] theorem asB_bl (b : Bool) : asB (.bl b) = .ok b := rfl
def tst (a : R D) : R Bool := a >>= asB
def tnot (a : R Bool) : R Bool := a >>= fun k => .ok (!k)
def ifv {α : Type} (c : R Bool) (a b : R α) : R α := c >>= fun k => if k = true then a else b
def tand (a b : R Bool) : R Bool := a >>= fun k => if k = true then b else .ok false
def tor (a b : R Bool) : R Bool := a >>= fun k => if k = true then .ok true else b
def vand (a b : R D) : R D := a >>= fun k => asB k >>= fun k => if k = true then b else .ok (.bl false)
def vor (a b : R D) : R D := a >>= fun k => asB k >>= fun k => if k = true then .ok (.bl true) else b
def vnot (a : R D) : R D := a >>= fun k => asB k >>= fun k => .ok (.bl !k)
def acons (a : R D) (r : R (List D)) : R (List D) := a >>= fun d => r >>= fun ds => .ok (d :: ds)
def cbf (f : List D → R D) (r : R (List D)) : R D := r >>= fun ds => calm (f ds)
def call_ (n : Nat) (g : List D → R D) (r : R (List D)) : R D := r >>= fun ds => if ds.length = n then g ds else .stuck
def asI : D → R (Option Int)
  | .int i => .ok (some i)
  | _ => .stuck
def toI (a : R D) : R (Option Int) := a >>= asI
def o3 (f : D → Option Int → Option Int → R D) (a : R D) (l u : R (Option Int)) : R D := a >>= fun d => l >>= fun l => u >>= fun u => calm (f d l u)
@[simp] theorem o2_ok (f : D → D → R D) (x y : D) : o2 f (.ok x) (.ok y) = calm (f x y) := rfl
@[simp] theorem o1_ok (f : D → R D) (x : D) : o1 f (.ok x) = calm (f x) := rfl
@[simp] theorem tst_ok (b : Bool) : tst (.ok (.bl b)) = .ok b := rfl
@[simp] theorem tnot_ok (b : Bool) : tnot (.ok b) = .ok (!b) := rfl
@[simp] theorem ifv_ok {α : Type} (k : Bool) (a b : R α) : ifv (.ok k) a b = if k = true then a else b := rfl
@[simp] theorem tand_ok (k : Bool) (b : R Bool) : tand (.ok k) b = if k = true then b else .ok false := rfl
@[simp] theorem tor_ok (k : Bool) (b : R Bool) : tor (.ok k) b = if k = true then .ok true else b := rfl
@[simp] theorem vand_ok (k : Bool) (b : R D) : vand (.ok (.bl k)) b = if k = true then b else .ok (.bl false) := rfl
@[simp] theorem vor_ok (k : Bool) (b : R D) : vor (.ok (.bl k)) b = if k = true then .ok (.bl true) else b := rfl
@[simp] theorem vnot_ok (k : Bool) : vnot (.ok (.bl k)) = .ok (.bl !k) := rfl
@[simp] theorem acons_ok (d : D) (ds : List D) : acons (.ok d) (.ok ds) = .ok (d :: ds) := rfl
@[simp] theorem cbf_ok (f : List D → R D) (ds : List D) : cbf f (.ok ds) = calm (f ds) := rfl
@[simp] theorem call_ok (n : Nat) (g : List D → R D) (ds : List D) : call_ n g (.ok ds) = if ds.length = n then g ds else .stuck := rfl
@[simp] theorem toI_ok (i : Int) : toI (.ok (.int i)) = .ok (some i) := rfl
@[simp] theorem o3_ok (f : D → Option Int → Option Int → R D) (d : D) (l u : Option Int) : o3 f (.ok d) (.ok l) (.ok u) = calm (f d l u) := rfl

section
variable {X : Cx} {E : Wh} {K : PySem.W.Frag} {mg : Gm} {I I' H H' : Hp} {σ : L2.St} {ρ : Env} {a b c e : Expr} {es : List Expr} {pos p : Pos} {ma mb mc m : Env → R D} {mt mu : Env → R Bool} {ms : Env → R (List D)} {x : Str} {ta tb t : TE} {tt tu : TT} {tas tr : TA} {tl th : TO}

theorem out_calm {E : XK} {α β : Type} {rp : Hp → β → α → Prop} {r : R α} {Q : β → Hp → Prop} (h : Out K mg E rp I H (calm r) Q) : ∃ d, r = .ok d ∧ ∀ v I' H', Stp I H I' H' → rp I' v d → Q v H' := by
  cases r with
  | ok d => exact ⟨d, rfl, h⟩
  | err _ _ => exact h.elim
  | stuck => exact h.elim

theorem me_var (i : Nat) (hN : X.N[i]? = some x := by rfl) (hv : Vis X.env.scope x := by first | exact Or.inl rfl | exact Or.inr (Or.inl rfl) | exact Or.inr (Or.inr rfl)) (hd : (x == ("__debug__" : Str)) = false := by decide)
    (hcd : (x == ("__classdict__" : Str)) = false := by decide) : ME X E (.Name x pos) (tVar i) (fun ρ => get ρ i) := ⟨pe_var (i := i) hN hv hd hcd, fun σ I H ρ Q re ex h => by
  have h : Out X.K (gm X E) (E.e σ) (Rep X.K (gm X E)) I H (match ρ[i]? with | some (some d) => R.ok d | _ => .stuck) Q := h
  cases q : ρ[i]? with
  | none =>
    rw [q] at h
    exact h.elim
  | some o =>
    rw [q] at h
    cases o with
    | none => exact h.elim
    | some d =>
      obtain ⟨v, h1, h2⟩ := re.at_ i d q
      exact ⟨v, h1, h.here ex h2⟩⟩
theorem me_int {i : Int} {j} : ME X E (.Constant (.int i) j pos) (tC (.int i)) (fun _ => .ok (.int i)) := ⟨pe_int, fun _ _ _ _ _ _ ex h => h.here ex (.int i)⟩
theorem me_bl {i : Bool} {j} : ME X E (.Constant (.bool i) j pos) (tC (.bl i)) (fun _ => .ok (.bl i)) := ⟨pe_bl, fun _ _ _ _ _ _ ex h => h.here ex (.bl i)⟩
theorem me_non {j} : ME X E (.Constant .none j pos) (tC .non) (fun _ => .ok .non) := ⟨pe_non, fun _ _ _ _ _ _ ex h => h.here ex .non⟩
theorem me_str {i : Str} {j} : ME X E (.Constant (.str i) j pos) (tC (.str i)) (fun _ => .ok (.str i)) := ⟨pe_str, fun _ _ _ _ _ _ ex h => h.here ex (.str i)⟩

theorem me_op {op : Operator} {r : R2} {f : D → D → R D} (ho : OpR X (binaryOp op) r) (hs : RSn X.K (gm X E) r f) (ha : ME X E a ta ma) (hb : ME X E b tb mb) : ME X E (.BinOp a op b pos) (tOp r ta tb) (fun ρ => o2 f (ma ρ) (mb ρ)) := by
  obtain ⟨pa, sa⟩ := ha
  obtain ⟨pb, sb⟩ := hb
  refine ⟨pe_op ho pa pb, fun σ I H ρ Q re ex h => ?_⟩
  refine sa.run re ex h fun d v I1 H1 _ st rx h => ?_
  refine sb.run (re.mono st.i) st.e h fun d2 v2 I2 H2 _ st2 ry h => ?_
  obtain ⟨z, hz, h⟩ := out_calm h
  exact hs v v2 I2 H2 d d2 z Q st2.e (rx.mono st2.i) ry hz h
theorem me_un {op : UnaryOp} {r : V → Hp → VK → Prop} {f : D → R D} (ho : UnR X (unaryOp op) r) (hs : USn X.K (gm X E) r f) (ha : ME X E a ta ma) : ME X E (.UnaryOp op a pos) (tUn r ta) (fun ρ => o1 f (ma ρ)) := by
  obtain ⟨pa, sa⟩ := ha
  refine ⟨pe_un ho pa, fun σ I H ρ Q re ex h => ?_⟩
  refine sa.run re ex h fun d v I1 H1 _ st rx h => ?_
  obtain ⟨z, hz, h⟩ := out_calm h
  exact hs v I1 H1 d z Q st.e rx hz h
theorem me_cmp {op : CmpOp} {r : R2} {f : D → D → R D} (ho : OpR X (compareOp op) r) (hs : RSn X.K (gm X E) r f) (ha : ME X E a ta ma) (hb : ME X E b tb mb) (hm : behindInMarks op b = false := by first | exact nomark _ | rfl) :
    ME X E (.Compare a [op] [b] pos) (tOp r ta tb) (fun ρ => o2 f (ma ρ) (mb ρ)) := by
  obtain ⟨pa, sa⟩ := ha
  obtain ⟨pb, sb⟩ := hb
  refine ⟨pe_cmpR ho pa pb hm, fun σ I H ρ Q re ex h => ?_⟩
  refine sa.run re ex h fun d v I1 H1 _ st rx h => ?_
  refine sb.run (re.mono st.i) st.e h fun d2 v2 I2 H2 _ st2 ry h => ?_
  obtain ⟨z, hz, h⟩ := out_calm h
  exact hs v v2 I2 H2 d d2 z Q st2.e (rx.mono st2.i) ry hz h
/-- o[i] -/
theorem me_ix {r : R2} {f : D → D → R D} (ho : IxR X r) (hs : RSn X.K (gm X E) r f) (ha : ME X E a ta ma) (hb : ME X E b tb mb) (hp : PlainIx b := by exact fun _ _ => rfl) : ME X E (.Subscript a b pos) (tOp r ta tb) (fun ρ => o2 f (ma ρ) (mb ρ)) := by
  obtain ⟨pa, sa⟩ := ha
  obtain ⟨pb, sb⟩ := hb
  refine ⟨pe_ix ho pa pb hp, fun σ I H ρ Q re ex h => ?_⟩
  refine sa.run re ex h fun d v I1 H1 _ st rx h => ?_
  refine sb.run (re.mono st.i) st.e h fun d2 v2 I2 H2 _ st2 ry h => ?_
  obtain ⟨z, hz, h⟩ := out_calm h
  exact hs v v2 I2 H2 d d2 z Q st2.e (rx.mono st2.i) ry hz h

/-! ### tests -/
theorem mt_val (h : ME X E e t m) (he : ∀ whole, isTrue e X.env whole = (do let v ← whole; standAt e.pos; holding [v] (truthy v)) := by intro _; rfl) : MT X E e (tB t) (fun ρ => tst (m ρ)) := by
  obtain ⟨pt, st⟩ := h
  refine ⟨pt_val pt he, fun σ I H ρ Q re ex h => ?_⟩
  refine st.run re ex h fun d v I1 H1 _ st rx h => ?_
  cases rx with
  | bl k => exact ⟨k, rfl, h.here st.e rfl⟩
  | _ => exact h.elim
theorem mt_cmp {op : CmpOp} {r : R2} {f : D → D → R D} (ho : OpR X (compareOp op) r) (hs : RSn X.K (gm X E) r f) (ha : ME X E a ta ma) (hb : ME X E b tb mb) (hm : behindInMarks op b = false := by first | exact nomark _ | rfl) :
    MT X E (.Compare a [op] [b] pos) (tTest (tOp r ta tb)) (fun ρ => tst (o2 f (ma ρ) (mb ρ))) := by
  obtain ⟨pa, sa⟩ := ha
  obtain ⟨pb, sb⟩ := hb
  refine ⟨pt_cmpR ho pa pb hm, fun σ I H ρ Q re ex h => ?_⟩
  have h : Out X.K (gm X E) (E.e σ) rB I H (ma ρ >>= fun x => (mb ρ >>= fun y => calm (f x y)) >>= asB) Q := by
    have h : Out X.K (gm X E) (E.e σ) rB I H (tst (o2 f (ma ρ) (mb ρ))) Q := h
    cases e : ma ρ with
    | ok x =>
      rw [e] at h
      exact h
    | err _ _ =>
      rw [e] at h
      exact h
    | stuck =>
      rw [e] at h
      exact h
  refine sa.run re ex h fun d v I1 H1 _ st rx h => ?_
  have h : Out X.K (gm X E) (E.e σ) rB I1 H1 (mb ρ >>= fun y => calm (f d y) >>= asB) Q := by
    cases e : mb ρ with
    | ok x =>
      rw [e] at h
      exact h
    | err _ _ =>
      rw [e] at h
      exact h
    | stuck =>
      rw [e] at h
      exact h
  refine sb.run (re.mono st.i) st.e h fun d2 v2 I2 H2 _ st2 ry h => ?_
  cases hz : f d d2 with
  | err _ _ =>
    rw [hz] at h
    exact h.elim
  | stuck =>
    rw [hz] at h
    exact h.elim
  | ok z =>
    rw [hz] at h
    refine hs v v2 I2 H2 d d2 z _ st2.e (rx.mono st2.i) ry hz fun v3 I3 H3 st3 r3 => ?_
    cases r3 with
    | bl k => exact ⟨k, rfl, h.there st3 rfl⟩
    | _ => exact h.elim
theorem mt_not (h : MT X E a tt mt) : MT X E (.UnaryOp .Not a pos) (tNot tt) (fun ρ => tnot (mt ρ)) := by
  obtain ⟨pt, st⟩ := h
  refine ⟨pt_not pt, fun σ I H ρ Q re ex h => ?_⟩
  refine st.run re ex h fun d v I1 H1 _ st rx h => ?_
  cases rx
  exact h.here st.e rfl
theorem mw_and1 (h : MT X E a tt mt) : MW X E (.BoolOp .And [a] pos) tt mt := by
  obtain ⟨pt, st⟩ := h
  exact ⟨pw_and1 pt, st⟩
theorem mw_or1 (h : MT X E a tt mt) : MW X E (.BoolOp .Or [a] pos) tt mt := by
  obtain ⟨pt, st⟩ := h
  exact ⟨pw_or1 pt, st⟩
theorem mw_and {rest : List Expr} (h : MT X E a tt mt) (h2 : MW X E (.BoolOp .And (b :: rest) pos) tu mu) : MW X E (.BoolOp .And (a :: b :: rest) pos) (tAnd tt tu) (fun ρ => tand (mt ρ) (mu ρ)) := by
  obtain ⟨pt, st⟩ := h
  obtain ⟨pt2, st2⟩ := h2
  refine ⟨pw_and pt pt2, fun σ I H ρ Q re ex h => ?_⟩
  refine st.run re ex h fun d v I1 H1 _ st rx h => ?_
  cases rx
  cases d with
  | true => exact st2 σ I1 H1 ρ Q (re.mono st.i) st.e h
  | false => exact h.here st.e rfl
theorem mw_or {rest : List Expr} (h : MT X E a tt mt) (h2 : MW X E (.BoolOp .Or (b :: rest) pos) tu mu) : MW X E (.BoolOp .Or (a :: b :: rest) pos) (tOr tt tu) (fun ρ => tor (mt ρ) (mu ρ)) := by
  obtain ⟨pt, st⟩ := h
  obtain ⟨pt2, st2⟩ := h2
  refine ⟨pw_or pt pt2, fun σ I H ρ Q re ex h => ?_⟩
  refine st.run re ex h fun d v I1 H1 _ st rx h => ?_
  cases rx
  cases d with
  | true => exact h.here st.e rfl
  | false => exact st2 σ I1 H1 ρ Q (re.mono st.i) st.e h
/-- and, or, not as values -/
theorem me_one {op} (h : ME X E a ta ma) : ME X E (.BoolOp op [a] pos) ta ma := by
  obtain ⟨pt, st⟩ := h
  exact ⟨pe_one pt, st⟩
theorem me_and {rest : List Expr} (h : ME X E a ta ma) (h2 : ME X E (.BoolOp .And (b :: rest) pos) tb mb) : ME X E (.BoolOp .And (a :: b :: rest) pos) (tAndV ta tb) (fun ρ => vand (ma ρ) (mb ρ)) := by
  obtain ⟨pt, st⟩ := h
  obtain ⟨pt2, st2⟩ := h2
  refine ⟨pe_and pt pt2, fun σ I H ρ Q re ex h => ?_⟩
  refine st.run re ex h fun d v I1 H1 _ st rx h => ?_
  cases rx with
  | bl k =>
    refine ⟨k, rfl, ?_⟩
    cases k with
    | true => exact st2 σ I1 H1 ρ Q (re.mono st.i) st.e h
    | false => exact h.here st.e (.bl false)
  | _ => exact h.elim
theorem me_or {rest : List Expr} (h : ME X E a ta ma) (h2 : ME X E (.BoolOp .Or (b :: rest) pos) tb mb) : ME X E (.BoolOp .Or (a :: b :: rest) pos) (tOrV ta tb) (fun ρ => vor (ma ρ) (mb ρ)) := by
  obtain ⟨pt, st⟩ := h
  obtain ⟨pt2, st2⟩ := h2
  refine ⟨pe_or pt pt2, fun σ I H ρ Q re ex h => ?_⟩
  refine st.run re ex h fun d v I1 H1 _ st rx h => ?_
  cases rx with
  | bl k =>
    refine ⟨k, rfl, ?_⟩
    cases k with
    | true => exact h.here st.e (.bl true)
    | false => exact st2 σ I1 H1 ρ Q (re.mono st.i) st.e h
  | _ => exact h.elim
theorem me_not (h : ME X E a ta ma) : ME X E (.UnaryOp .Not a pos) (tNotV ta) (fun ρ => vnot (ma ρ)) := by
  obtain ⟨pt, st⟩ := h
  refine ⟨pe_not pt, fun σ I H ρ Q re ex h => ?_⟩
  refine st.run re ex h fun d v I1 H1 _ st rx h => ?_
  cases rx with
  | bl k => exact ⟨k, rfl, h.here st.e (.bl _)⟩
  | _ => exact h.elim
theorem me_if (hc : MT X E c tt mt) (ha : ME X E a ta ma) (hb : ME X E b tb mb) : ME X E (.IfExp c a b pos) (tIf tt ta tb) (fun ρ => ifv (mt ρ) (ma ρ) (mb ρ)) := by
  obtain ⟨pt, st⟩ := hc
  obtain ⟨pa, sa⟩ := ha
  obtain ⟨pb, sb⟩ := hb
  refine ⟨pe_ifExp pt pa pb, fun σ I H ρ Q re ex h => ?_⟩
  refine st.run re ex h fun d v I1 H1 _ st rx h => ?_
  have rx : v = d := rx
  subst rx
  cases v with
  | true => exact sa σ I1 H1 ρ Q (re.mono st.i) st.e h
  | false => exact sb σ I1 H1 ρ Q (re.mono st.i) st.e h
theorem mts_nil : MTs X E [] tYes (fun _ => .ok true) := ⟨pts_nil, fun σ I H ρ Q re ex h => h.here ex rfl⟩
theorem mts_one (h : MT X E c tt mt) : MTs X E [c] tt mt := by
  obtain ⟨pt, st⟩ := h
  exact ⟨pts_one pt, st⟩

/-! ### arguments, displays -/
theorem ma_nil : MA X E [] tNil (fun _ => .ok []) := ⟨pa_nil, fun σ I H ρ Q re ex h => h.here ex .nil⟩
theorem ma_cons (ha : ME X E e ta ma) (hr : MA X E es tr ms) (hs : starEach (e :: es) X.env = (false, eval e X.env) :: starEach es X.env := by rfl) : MA X E (e :: es) (tCons ta tr) (fun ρ => acons (ma ρ) (ms ρ)) := by
  obtain ⟨pt, st⟩ := ha
  obtain ⟨pt2, st2⟩ := hr
  refine ⟨pa_cons pt pt2 hs, fun σ I H ρ Q re ex h => ?_⟩
  refine st.run re ex h fun d v I1 H1 _ st rx h => ?_
  refine st2.run (re.mono st.i) st.e h fun ds vs I2 H2 _ st2 rs h => ?_
  exact h.here st2.e (.cons (rx.mono st2.i) rs)
def LIM : Nat := 1000000
theorem lim_ok {n : Nat} (h : n ≤ LIM) : n ≤ sizeLine := Nat.le_trans h (by decide)
theorem lim_lt {n : Nat} (h : n ≤ LIM) : n < sizeLine := Nat.lt_of_le_of_lt h (by decide)
theorem upd_rep {p : Addr} {o : HO} {vs : List V} {ds : List D} (e : Same I H) (h : H p = none) (r : Reps K mg I vs ds) : Reps K mg (upd I p o) vs ds := r.mono (Stp.new e h).i
theorem new_lst {p : Addr} {vs : List V} {ds : List D} (e : Same I H) (h : H p = none) (r : Reps K mg I vs ds) : Rep K mg (upd I p (.lst vs)) (.ref p) (.lst ds) := .lst upd_same (upd_rep e h r)
theorem new_tup {p : Addr} {vs : List V} {ds : List D} (e : Same I H) (h : H p = none) (r : Reps K mg I vs ds) : Rep K mg (upd I p (.tup vs)) (.ref p) (.tup ds) := .tup upd_same (upd_rep e h r)
def lstD (ds : List D) : R D := if ds.length ≤ LIM then .ok (.lst ds) else .stuck
def tupD (ds : List D) : R D := if ds.length ≤ LIM then .ok (.tup ds) else .stuck
def dsp {α : Type} (f : List D → R α) (r : R (List D)) : R α := r >>= f
@[simp] theorem dsp_ok {α : Type} (f : List D → R α) (ds : List D) : dsp f (.ok ds) = f ds := rfl
theorem out_if {E : XK} {α β : Type} {rp : Hp → β → α → Prop} {c : Prop} [Decidable c] {r : R α} {Q : β → Hp → Prop} (h : Out K mg E rp I H (if c then r else .stuck) Q) : c ∧ Out K mg E rp I H r Q := by
  by_cases hc : c
  · rw [if_pos hc] at h
    exact ⟨hc, h⟩
  · rw [if_neg hc] at h
    exact h.elim
theorem me_tup {x1} (h : MA X E es tas ms) : ME X E (.Tuple es x1 pos) (tTup tas) (fun ρ => dsp tupD (ms ρ)) := by
  obtain ⟨pt, st⟩ := h
  refine ⟨pe_tup pt, fun σ I H ρ Q re ex h => ?_⟩
  refine st.run re ex h fun ds vs I1 H1 _ st rx h => ?_
  obtain ⟨hl, h⟩ := out_if h
  exact ⟨lim_ok (by rw [rx.len]; exact hl), fun p hp => h.there (.new st.e hp) (new_tup st.e hp rx)⟩
theorem me_lst (h : MA X E es tas ms) : ME X E (.List es pos) (tLst tas) (fun ρ => dsp lstD (ms ρ)) := by
  obtain ⟨pt, st⟩ := h
  refine ⟨pe_lst pt, fun σ I H ρ Q re ex h => ?_⟩
  refine st.run re ex h fun ds vs I1 H1 _ st rx h => ?_
  obtain ⟨hl, h⟩ := out_if h
  exact ⟨lim_ok (by rw [rx.len]; exact hl), fun p hp => h.there (.new st.e hp) (new_lst st.e hp rx)⟩

/-! ### calls of built-ins -/
theorem me_callB {id : String} {r : List V → Hp → VK → Prop} {f : List D → R D} (hc : CallR X (.builtin id) r) (hs : CSn X.K (gm X E) r f) (hg : Gl X x) (hm : X.mg x = none) (hv : bootBuiltins x = some (.builtin id)) (ha : MA X E (e :: es) tas ms) (hn : x ≠ "__name__" := by decide) (hdb : (x == ("__debug__" : Str)) = false := by decide)
    (he : starEach (e :: es) X.env = (false, eval e X.env) :: starEach es X.env := by rfl) (hpl : (backTo pos (starEach es X.env)).any (·.1) = false := by rfl) : ME X E (.Call (.Name x p) (e :: es) [] pos) (tCB r tas) (fun ρ => cbf f (ms ρ)) := by
  obtain ⟨pt, st⟩ := ha
  refine ⟨pe_callB hc hg hm hv pt hn hdb he hpl, fun σ I H ρ Q re ex h => ?_⟩
  refine st.run re ex h fun ds vs I1 H1 _ st rx h => ?_
  obtain ⟨z, hz, h⟩ := out_calm h
  exact hs vs I1 H1 ds z Q st.e rx hz h
theorem me_callTy {T : String} {r : List V → Hp → VK → Prop} {f : List D → R D} (hc : CallR X (.type T) r) (hs : CSn X.K (gm X E) r f) (hg : Gl X x) (hm : X.mg x = none) (hv : bootBuiltins x = some (.type T)) (ha : MA X E (e :: es) tas ms) (hn : x ≠ "__name__" := by decide) (hdb : (x == ("__debug__" : Str)) = false := by decide)
    (he : starEach (e :: es) X.env = (false, eval e X.env) :: starEach es X.env := by rfl) (hpl : (backTo pos (starEach es X.env)).any (·.1) = false := by rfl) : ME X E (.Call (.Name x p) (e :: es) [] pos) (tCB r tas) (fun ρ => cbf f (ms ρ)) := by
  obtain ⟨pt, st⟩ := ha
  refine ⟨pe_callTy hc hg hm hv pt hn hdb he hpl, fun σ I H ρ Q re ex h => ?_⟩
  refine st.run re ex h fun ds vs I1 H1 _ st rx h => ?_
  obtain ⟨z, hz, h⟩ := out_calm h
  exact hs vs I1 H1 ds z Q st.e rx hz h

/-! ### calls of one's own -/
/-- what a def promises: f of the arguments' data -/
def spOf (K : PySem.W.Frag) (mg : Gm) (n : Nat) (f : List D → R D) : Sp := fun vs H Q E => ∃ I ds, ds.length = n ∧ Same I H ∧ Reps K mg I vs ds ∧ Out K mg E (Rep K mg) I H (f ds) Q
theorem spOf.len {E : XK} {n : Nat} {f : List D → R D} {vs : List V} {Q : VK} (h : spOf K mg n f vs H Q E) : vs.length = n := by
  obtain ⟨I, ds, hl, _, r, _⟩ := h
  exact r.len.trans hl
theorem me_call {CX : CXT} {k n : Nat} {f : Addr} {fd : FuncData} {ps : List Str} {g : List D → R D} (F : FnOk X.prog X.w X.K X.mg X.base CX k f fd ps (spOf X.K (g0 X.mg) n g)) (hr : Room k X.A) (hg : Gl X x) (hm : X.mg x = some (.ref f)) (hk : PySem.W.keepIn X.K (.ref f) = true) (hb : Binds X.K fd ps []) (hx : ∀ σ, PassesAt CX X σ (E.e σ)) (h0 : E.x = fun _ => none)
    (ha : MA X E (e :: es) tas ms) (hdb : (x == ("__debug__" : Str)) = false := by decide) (he : starEach (e :: es) X.env = (false, eval e X.env) :: starEach es X.env := by rfl) (hpl : (backTo pos (starEach es X.env)).any (·.1) = false := by rfl) :
    ME X E (.Call (.Name x p) (e :: es) [] pos) (tCallS (spOf X.K (g0 X.mg) n g) E.e tas) (fun ρ => call_ n g (ms ρ)) := by
  obtain ⟨E1, E2⟩ := E
  have h0 : E2 = fun _ => none := h0
  subst h0
  obtain ⟨pt, st⟩ := ha
  refine ⟨pe_callS F hr hg hm hk hb hx pt hdb he hpl, fun σ I H ρ Q re ex h => ?_⟩
  refine st.run re ex h fun ds vs I1 H1 _ st rx h => ?_
  obtain ⟨hl, h⟩ := out_if h
  exact ⟨I1, ds, hl, st.e, rx, h⟩

/-! ### slices -/
theorem mo_none : MO X E none tNoPart (fun _ => .ok none) := ⟨po_none, fun σ I H ρ Q re ex h => h.here ex rfl⟩
theorem mo_some (h : ME X E e t m) : MO X E (some e) (tPart t) (fun ρ => toI (m ρ)) := by
  obtain ⟨pt, st⟩ := h
  refine ⟨po_some pt, fun σ I H ρ Q re ex h => ?_⟩
  refine st.run re ex h fun d v I1 H1 _ st rx h => ?_
  cases rx with
  | int i => exact ⟨i, rfl, h.here st.e rfl⟩
  | _ => exact h.elim
def SSn (K : PySem.W.Frag) (mg : Gm) (r : V → Option Int → Option Int → Hp → VK → Prop) (f : D → Option Int → Option Int → R D) : Prop :=
  ∀ (x : V) (lo hi : Option Int) (I H : Hp) (dx d : D) (Q : VK), Same I H → Rep K mg I x dx → f dx lo hi = .ok d → (∀ v I' H', Stp I H I' H' → Rep K mg I' v d → Q v H') → r x lo hi H Q
theorem me_slice {lo hi : Option Expr} {p2 : Pos} {r : V → Option Int → Option Int → Hp → VK → Prop} {f : D → Option Int → Option Int → R D} {ml mh : Env → R (Option Int)} (hr : SlR X r) (hs : SSn X.K (gm X E) r f) (ha : ME X E a ta ma) (hl : MO X E lo tl ml) (hh : MO X E hi th mh) :
    ME X E (.Subscript a (.Slice lo hi none p2) pos) (tSl r ta tl th) (fun ρ => o3 f (ma ρ) (ml ρ) (mh ρ)) := by
  obtain ⟨pt, st⟩ := ha
  obtain ⟨pl, sl⟩ := hl
  obtain ⟨ph, sh⟩ := hh
  refine ⟨pe_slice hr pt pl ph, fun σ I H ρ Q re ex h => ?_⟩
  refine st.run re ex h fun d v I1 H1 _ s1 rx h => ?_
  refine sl.run (re.mono s1.i) s1.e h fun l l' I2 H2 _ s2 e1 h => ?_
  cases e1
  refine sh.run ((re.mono s1.i).mono s2.i) s2.e h fun u u' I3 H3 _ s3 e2 h => ?_
  cases e2
  obtain ⟨z, hz, h⟩ := out_calm h
  exact hs v _ _ I3 H3 d z Q s3.e ((rx.mono s2.i).mono s3.i) hz h
end
end DL
namespace DL
open PySem PySem.Spec L2

/-! ### data as the library's data, for == -/
mutual
def D.py : D → PyData
  | .non => .none
  | .bl b => .bool b
  | .int i => .int i
  | .str x => .str x
  | .lst ds => .list (D.pys ds)
  | .tup ds => .tuple (D.pys ds)
  | .scr _ => .none
  | .rng _ _ => .none
  | .ty _ => .none
  | .cls _ => .none
  | .obj _ _ _ => .none
  | .dk _ _ => .none
  | .dt _ _ => .none
  | .exc _ _ _ => .none
def D.pys : List D → List PyData
  | [] => []
  | d :: ds => D.py d :: D.pys ds
end
/-- of at most that depth, no script in it, short texts -/
def D.fine : Nat → D → Bool
  | _, .non => true
  | _, .bl _ => true
  | _, .int _ => true
  | _, .str x => PyData.canLay0 (.str x)
  | 0, .lst ds => ds.isEmpty
  | 0, .tup ds => ds.isEmpty
  | n + 1, .lst ds => ds.all (D.fine n)
  | n + 1, .tup ds => ds.all (D.fine n)
  | _, .scr _ => false
  | _, .rng _ _ => false
  | _, .ty _ => false
  | _, .cls _ => false
  | _, .obj _ _ _ => false
  | _, .dk _ _ => false
  | _, .dt _ _ => false
  | _, .exc _ _ _ => false
mutual
theorem D.fine_lay : ∀ (n : Nat) (d : D), d.fine n = true → PyData.canLay0 d.py = true ∧ PyData.depth d.py ≤ n + 1
  | n, .non, _ => ⟨rfl, Nat.zero_le _⟩
  | n, .bl _, _ => ⟨rfl, Nat.zero_le _⟩
  | n, .int _, _ => ⟨rfl, Nat.zero_le _⟩
  | n, .str x, h => ⟨by
      have h : PyData.canLay0 (.str x) = true := by cases n <;> exact h
      exact h, Nat.zero_le _⟩
  | 0, .lst [], h => ⟨rfl, Nat.le_refl _⟩
  | 0, .lst (_ :: _), h => nomatch h
  | 0, .tup [], h => ⟨rfl, Nat.le_refl _⟩
  | 0, .tup (_ :: _), h => nomatch h
  | n + 1, .lst ds, h => by
    obtain ⟨a, b⟩ := D.fine_lays n ds h
    exact ⟨a, Nat.succ_le_succ b⟩
  | n + 1, .tup ds, h => by
    obtain ⟨a, b⟩ := D.fine_lays n ds h
    exact ⟨a, Nat.succ_le_succ b⟩
  | n, .scr _, h => by cases n <;> cases h
  | n, .rng _ _, h => by cases n <;> cases h
  | n, .ty _, h => by cases n <;> cases h
  | n, .cls _, h => by cases n <;> cases h
  | n, .obj _ _ _, h => by cases n <;> cases h
  | n, .dk _ _, h => by cases n <;> cases h
  | n, .dt _ _, h => by cases n <;> cases h
  | n, .exc _ _ _, h => by cases n <;> cases h
theorem D.fine_lays : ∀ (n : Nat) (ds : List D), ds.all (D.fine n) = true → PyData.canLayAll0 (D.pys ds) = true ∧ PyData.depthAll (D.pys ds) ≤ n + 1
  | n, [], _ => ⟨rfl, Nat.zero_le _⟩
  | n, d :: ds, h => by
    rw [List.all_cons, Bool.and_eq_true] at h
    obtain ⟨a, b⟩ := D.fine_lay n d h.1
    obtain ⟨a', b'⟩ := D.fine_lays n ds h.2
    refine ⟨?_, ?_⟩
    · show (PyData.canLay0 d.py && PyData.canLayAll0 (D.pys ds)) = true
      rw [a, a']
      rfl
    · show max (PyData.depth d.py) (PyData.depthAll (D.pys ds)) ≤ n + 1
      exact Nat.max_le.mpr ⟨b, b'⟩
end
theorem D.fine_shaped {d : D} (h : d.fine 60 = true) : SeqAt.shaped d.py = true := by
  obtain ⟨a, b⟩ := D.fine_lay 60 d h
  show (PyData.canLay0 d.py && decide (PyData.depth d.py ≤ 64)) = true
  rw [a, decide_eq_true (show PyData.depth d.py ≤ 64 by omega)]
  rfl
mutual
theorem Rep.dp {K : PySem.W.Frag} {mg : Gm} {H : Hp} : ∀ (n : Nat) {v : V} {d : D}, Rep K mg H v d → d.fine n = true → Dp K H v d.py
  | _, _, _, .non, _ => .non
  | _, _, _, .bl b, _ => .bl b
  | _, _, _, .int i, _ => .int i
  | _, _, _, .str x, _ => .str x
  | 0, _, .lst [], .lst h r, _ => .lst (SqL.of h) (by cases r; exact .nil)
  | 0, _, .lst (_ :: _), .lst h r, q => nomatch q
  | 0, _, .tup [], .tup h r, _ => .tup (SqT.of h) (by cases r; exact .nil)
  | 0, _, .tup (_ :: _), .tup h r, q => nomatch q
  | n + 1, _, .lst _, .lst h r, q => .lst (SqL.of h) (Reps.dp n r q)
  | n + 1, _, .tup _, .tup h r, q => .tup (SqT.of h) (Reps.dp n r q)
  | n, _, _, .scr h, q => by cases n <;> cases q
  | n, _, _, .rng h, q => by cases n <;> cases q
  | n, _, _, .ty _, q => by cases n <;> cases q
  | n, _, _, .cls _, q => by cases n <;> cases q
  | n, _, _, .obj _ _ _, q => by cases n <;> cases q
  | n, _, _, .dk _ _, q => by cases n <;> cases q
  | n, _, _, .dt _ _, q => by cases n <;> cases q
  | n, _, _, .exc _ _ _ _, q => by cases n <;> cases q
theorem Reps.dp {K : PySem.W.Frag} {mg : Gm} {H : Hp} : ∀ (n : Nat) {vs : List V} {ds : List D}, Reps K mg H vs ds → ds.all (D.fine n) = true → DpAll K H vs (D.pys ds)
  | _, _, _, .nil, _ => .nil
  | n, _, d :: ds, .cons a r, q => by
    rw [List.all_cons, Bool.and_eq_true] at q
    exact .cons (Rep.dp n a q.1) (Reps.dp n r q.2)
end

/-! ### operators -/
theorem OpR.or {X : Cx} {f : Value → Value → Sem Value} {r r' : R2} (h : OpR X f r) (h' : OpR X f r') : OpR X f (fun x y H Q => r x y H Q ∨ r' x y H Q) := by
  intro pins s σ H x y v u Q I rx ry q
  rcases q with q | q
  · exact h pins s σ H x y v u Q I rx ry q
  · exact h' pins s σ H x y v u Q I rx ry q
def gd (c : Prop) [Decidable c] (d : D) : R D := if c then .ok d else .stuck
theorem gd_of {c : Prop} [Decidable c] {d e : D} (h : gd c d = .ok e) : c ∧ d = e := by
  unfold gd at h
  by_cases hc : c
  · rw [if_pos hc] at h
    cases h
    exact ⟨hc, rfl⟩
  · rw [if_neg hc] at h
    cases h
theorem gd_ok {c : Prop} [Decidable c] {d : D} (h : c) : gd c d = .ok d := if_pos h

def addD : D → D → R D
  | .int i, .int j => .ok (.int (i + j))
  | .str x, .str y => gd (x.length + y.length ≤ LIM) (.str (x ++ y))
  | .lst xs, .lst ys => gd (xs.length + ys.length ≤ LIM) (.lst (xs ++ ys))
  | .tup xs, .tup ys => gd (xs.length + ys.length ≤ LIM) (.tup (xs ++ ys))
  | _, _ => .stuck
def rAddX (K : PySem.W.Frag) : R2 := fun x y H Q => rI0 (fun i j => .int (i + j)) x y H Q ∨ (rCat x y H Q ∨ (rCatA K x y H Q ∨ (∃ i j, x = .str i ∧ y = .str j ∧ i.length + j.length ≤ sizeLine ∧ Q (.str (i ++ j)) H)))
theorem op_addX {X : Cx} : OpR X (binaryOp .Add) (rAddX X.K) := OpR.or op_add (OpR.or op_cat (OpR.or op_catA op_add_str))
theorem rs_add {K : PySem.W.Frag} {mg : Gm} : RSn K mg (rAddX K) addD := by
  intro x y I H dx dy d Q ex rx ry h q
  cases rx with
  | int i =>
    cases ry with
    | int j =>
      cases h
      exact .inl ⟨i, j, rfl, rfl, q _ _ _ (.refl ex) (.int _)⟩
    | _ => cases h
  | str i =>
    cases ry with
    | str j =>
      obtain ⟨hl, rfl⟩ := gd_of h
      exact .inr (.inr (.inr ⟨i, j, rfl, rfl, lim_ok hl, q _ _ _ (.refl ex) (.str _)⟩))
    | _ => cases h
  | @lst a vs ds ha ra =>
    cases ry with
    | @lst b ws es hb rb =>
      obtain ⟨hl, rfl⟩ := gd_of h
      refine .inr (.inl ⟨a, b, vs, ws, rfl, rfl, ex _ _ ha, ex _ _ hb, lim_ok (by rw [ra.len, rb.len]; exact hl), fun p hp => q _ _ _ (.new ex hp) (new_lst ex hp (ra.app rb))⟩)
    | _ => cases h
  | @tup a vs ds ha ra =>
    cases ry with
    | @tup b ws es hb rb =>
      obtain ⟨hl, rfl⟩ := gd_of h
      refine .inr (.inr (.inl ⟨a, b, vs, ws, rfl, rfl, SqT.of (ex _ _ ha), SqT.of (ex _ _ hb), lim_ok (by rw [ra.len, rb.len]; exact hl), fun e => ?_, fun _ e => ?_, fun _ _ p hp => q _ _ _ (.new ex hp) (new_tup ex hp (ra.app rb))⟩))
      · subst e
        cases ra
        exact q _ _ _ (.refl ex) (.tup hb rb)
      · subst e
        cases rb
        rw [List.append_nil] at q
        exact q _ _ _ (.refl ex) (.tup ha ra)
    | _ => cases h
  | _ => cases h
def subD : D → D → R D
  | .int i, .int j => .ok (.int (i - j))
  | _, _ => .stuck
/-- a number or a list as the left one; one factor small -/
def mulD : D → D → R D
  | .int i, .int j => gd ((-(2 ^ 64) < i ∧ i < 2 ^ 64) ∨ (-(2 ^ 64) < j ∧ j < 2 ^ 64)) (.int (i * j))
  | .lst xs, .int k => gd (0 ≤ k ∧ k ≤ LIM ∧ xs.length * k.toNat ≤ LIM) (.lst (List.replicate k.toNat xs).flatten)
  | _, _ => .stuck
def modD : D → D → R D
  | .int i, .int j => gd (0 < j) (.int (i % j))
  | _, _ => .stuck
def fdivD : D → D → R D
  | .int i, .int j => gd (0 < j ∧ j < 1073741824) (.int (i / j))
  | _, _ => .stuck
def powD : D → D → R D
  | .int i, .int j => gd (0 ≤ j ∧ j ≤ 1000000 ∧ i.natAbs < 2 ^ 64) (.int (i ^ j.toNat))
  | _, _ => .stuck
def negD : D → R D
  | .int i => .ok (.int (-i))
  | _ => .stuck
theorem rs_I0 {K : PySem.W.Frag} {mg : Gm} {g : Int → Int → V} {gd' : Int → Int → D} {f : D → D → R D} (hg : ∀ I i j, Rep K mg I (g i j) (gd' i j)) (hf : ∀ i j, f (.int i) (.int j) = .ok (gd' i j)) (hn : ∀ dx dy d, f dx dy = .ok d → ∃ i j, dx = .int i ∧ dy = .int j) : RSn K mg (rI0 g) f := by
  intro x y I H dx dy d Q ex rx ry h q
  obtain ⟨i, j, rfl, rfl⟩ := hn _ _ _ h
  cases rx
  cases ry
  rw [hf] at h
  cases h
  exact ⟨i, j, rfl, rfl, q _ _ _ (.refl ex) (hg _ _ _)⟩
theorem rs_I {K : PySem.W.Frag} {mg : Gm} {C : Int → Int → Prop} {g : Int → Int → V} {gd' : Int → Int → D} {f : D → D → R D} (hg : ∀ I i j, Rep K mg I (g i j) (gd' i j)) (hf : ∀ i j d, f (.int i) (.int j) = .ok d → C i j ∧ d = gd' i j) (hn : ∀ dx dy d, f dx dy = .ok d → ∃ i j, dx = .int i ∧ dy = .int j) : RSn K mg (rI C g) f := by
  intro x y I H dx dy d Q ex rx ry h q
  obtain ⟨i, j, rfl, rfl⟩ := hn _ _ _ h
  cases rx
  cases ry
  obtain ⟨hc, rfl⟩ := hf _ _ _ h
  exact ⟨i, j, rfl, rfl, hc, q _ _ _ (.refl ex) (hg _ _ _)⟩
theorem rs_sub {K : PySem.W.Frag} {mg : Gm} : RSn K mg (rI0 fun i j => .int (i - j)) subD := rs_I0 (gd' := fun i j => .int (i - j)) (fun _ _ _ => .int _) (fun _ _ => rfl) fun dx dy d h => by
  cases dx <;> cases dy <;> first | exact ⟨_, _, rfl, rfl⟩ | cases h
def rMulX : R2 := fun x y H Q => rI CMul (fun i j => .int (i * j)) x y H Q ∨ rRep x y H Q
theorem op_mulX {X : Cx} : OpR X (binaryOp .Mult) rMulX := OpR.or op_mul op_rep
theorem Reps.rep {K : PySem.W.Frag} {mg : Gm} {I : Hp} {vs : List V} {ds : List D} (r : Reps K mg I vs ds) : ∀ n : Nat, Reps K mg I (List.replicate n vs).flatten (List.replicate n ds).flatten
  | 0 => .nil
  | n + 1 => by
    rw [List.replicate_succ, List.replicate_succ, List.flatten_cons, List.flatten_cons]
    exact r.app (Reps.rep r n)
theorem rs_mul {K : PySem.W.Frag} {mg : Gm} : RSn K mg rMulX mulD := by
  intro x y I H dx dy d Q ex rx ry h q
  cases rx with
  | int i =>
    cases ry with
    | int j =>
      obtain ⟨hl, rfl⟩ := gd_of h
      exact .inl ⟨i, j, rfl, rfl, hl, q _ _ _ (.refl ex) (.int _)⟩
    | _ => cases h
  | @lst a vs ds ha ra =>
    cases ry with
    | int k =>
      obtain ⟨⟨h0, h1, h2⟩, rfl⟩ := gd_of h
      have h1 : k ≤ 1000000 := h1
      exact .inr ⟨a, k, vs, rfl, rfl, ex _ _ ha, by omega, by omega, lim_ok (by rw [ra.len]; exact h2), fun p hp => q _ _ _ (.new ex hp) (new_lst ex hp (ra.rep _))⟩
    | _ => cases h
  | _ => cases h
theorem rs_mod {K : PySem.W.Frag} {mg : Gm} : RSn K mg (rI (fun _ j => 0 < j) fun i j => .int (i % j)) modD := rs_I (gd' := fun i j => .int (i % j)) (fun _ _ _ => .int _) (fun i j d h => (gd_of h).imp id Eq.symm) fun dx dy d h => by
  cases dx <;> cases dy <;> first | exact ⟨_, _, rfl, rfl⟩ | cases h
theorem rs_fdiv {K : PySem.W.Frag} {mg : Gm} : RSn K mg (rI CDiv fun i j => .int (i / j)) fdivD := rs_I (gd' := fun i j => .int (i / j)) (fun _ _ _ => .int _) (fun i j d h => (gd_of h).imp id Eq.symm) fun dx dy d h => by
  cases dx <;> cases dy <;> first | exact ⟨_, _, rfl, rfl⟩ | cases h
theorem rs_pow {K : PySem.W.Frag} {mg : Gm} : RSn K mg (rI CPow fun i j => .int (i ^ j.toNat)) powD := rs_I (gd' := fun i j => .int (i ^ j.toNat)) (fun _ _ _ => .int _) (fun i j d h => (gd_of h).imp id Eq.symm) fun dx dy d h => by
  cases dx <;> cases dy <;> first | exact ⟨_, _, rfl, rfl⟩ | cases h
theorem us_neg {K : PySem.W.Frag} {mg : Gm} : USn K mg (rU fun i => .int (-i)) negD := by
  intro x I H dx d Q ex rx h q
  cases rx with
  | int i =>
    cases h
    exact ⟨i, rfl, q _ _ _ (.refl ex) (.int _)⟩
  | _ => cases h

/-! ### comparisons -/
def lexI : List Int → List Int → Bool := HT.lexLt
def intsOf : List D → Option (List Int)
  | [] => some []
  | .int i :: ds => (intsOf ds).map (i :: ·)
  | _ :: _ => none
theorem intsOf_map (ns : List Int) : intsOf (ns.map D.int) = some ns := by
  induction ns with
  | nil => rfl
  | cons n ns ih => rw [List.map_cons, intsOf, ih]; rfl
theorem reps_ints {K : PySem.W.Frag} {mg : Gm} {I : Hp} : ∀ {vs : List V} {ds : List D} {ns : List Int}, Reps K mg I vs ds → intsOf ds = some ns → vs = ns.map V.int ∧ ds = ns.map D.int
  | _, _, ns, .nil, h => by
    cases h
    exact ⟨rfl, rfl⟩
  | _, _, ns, .cons (d := d) (ds := ds) a r, h => by
    cases a with
    | int i =>
      cases e : intsOf ds with
      | none =>
        rw [intsOf, e] at h
        cases h
      | some ms =>
        rw [intsOf, e] at h
        cases h
        obtain ⟨a, b⟩ := reps_ints r e
        rw [a, b]
        exact ⟨rfl, rfl⟩
    | _ => cases h
def ltD : D → D → R D
  | .int i, .int j => .ok (.bl (decide (i < j)))
  | .tup xs, .tup ys => match intsOf xs, intsOf ys with
    | some ns, some ms => .ok (.bl (HT.lexLt ns ms))
    | _, _ => .stuck
  | _, _ => .stuck
def leD : D → D → R D
  | .int i, .int j => .ok (.bl (decide (i ≤ j)))
  | _, _ => .stuck
def gtD : D → D → R D
  | .int i, .int j => .ok (.bl (decide (j < i)))
  | _, _ => .stuck
def geD : D → D → R D
  | .int i, .int j => .ok (.bl (decide (j ≤ i)))
  | _, _ => .stuck
theorem rs_le {K : PySem.W.Frag} {mg : Gm} : RSn K mg (rI0 fun i j => .bl (decide (i ≤ j))) leD := rs_I0 (gd' := fun i j => .bl (decide (i ≤ j))) (fun _ _ _ => .bl _) (fun _ _ => rfl) fun dx dy d h => by
  cases dx <;> cases dy <;> first | exact ⟨_, _, rfl, rfl⟩ | cases h
theorem rs_gt {K : PySem.W.Frag} {mg : Gm} : RSn K mg (rI0 fun i j => .bl (decide (j < i))) gtD := rs_I0 (gd' := fun i j => .bl (decide (j < i))) (fun _ _ _ => .bl _) (fun _ _ => rfl) fun dx dy d h => by
  cases dx <;> cases dy <;> first | exact ⟨_, _, rfl, rfl⟩ | cases h
theorem rs_ge {K : PySem.W.Frag} {mg : Gm} : RSn K mg (rI0 fun i j => .bl (decide (j ≤ i))) geD := rs_I0 (gd' := fun i j => .bl (decide (j ≤ i))) (fun _ _ _ => .bl _) (fun _ _ => rfl) fun dx dy d h => by
  cases dx <;> cases dy <;> first | exact ⟨_, _, rfl, rfl⟩ | cases h
def rLtX (K : PySem.W.Frag) : R2 := fun x y H Q => rI0 (fun i j => .bl (decide (i < j))) x y H Q ∨ rLtT K x y H Q
theorem op_ltX {X : Cx} {k : Nat} (hr : Room k X.A) : OpR X (compareOp .Lt) (rLtX X.K) := OpR.or op_lt (op_ltT hr.units0)
theorem rs_lt {K : PySem.W.Frag} {mg : Gm} : RSn K mg (rLtX K) ltD := by
  intro x y I H dx dy d Q ex rx ry h q
  cases rx with
  | int i =>
    cases ry with
    | int j =>
      cases h
      exact .inl ⟨i, j, rfl, rfl, q _ _ _ (.refl ex) (.bl _)⟩
    | _ => cases h
  | @tup a vs ds ha ra =>
    cases ry with
    | @tup b ws es hb rb =>
      have h : (match intsOf ds, intsOf es with | some ns, some ms => R.ok (.bl (HT.lexLt ns ms)) | _, _ => .stuck) = R.ok d := h
      cases e1 : intsOf ds with
      | none =>
        rw [e1] at h
        cases h
      | some ns =>
        cases e2 : intsOf es with
        | none =>
          rw [e1, e2] at h
          cases h
        | some ms =>
          rw [e1, e2] at h
          cases h
          obtain ⟨rfl, _⟩ := reps_ints ra e1
          obtain ⟨rfl, _⟩ := reps_ints rb e2
          exact .inr ⟨a, b, ns, ms, rfl, rfl, SqT.of (ex _ _ ha), SqT.of (ex _ _ hb), q _ _ _ (.refl ex) (.bl _)⟩
    | _ => cases h
  | _ => cases h
def eqD : D → D → R D
  | .int i, .int j => .ok (.bl (decide (i = j)))
  | .non, .non => .ok (.bl true)
  | d, e => gd (d.fine 60 = true ∧ e.fine 60 = true) (.bl (PyData.eqv d.py e.py))
def notD : R D → R D
  | .ok (.bl b) => .ok (.bl !b)
  | _ => .stuck
def neD (d e : D) : R D := notD (eqD d e)
theorem eqD_of {d e r : D} (h : eqD d e = .ok r) : d.fine 60 = true ∧ e.fine 60 = true ∧ r = .bl (PyData.eqv d.py e.py) := by
  unfold eqD at h
  split at h
  · cases h
    refine ⟨rfl, rfl, ?_⟩
    congr 1
  · cases h
    exact ⟨rfl, rfl, rfl⟩
  · obtain ⟨⟨a, b⟩, c⟩ := gd_of h
    exact ⟨a, b, c.symm⟩
theorem rs_eq {K : PySem.W.Frag} {mg : Gm} : RSn K mg (rEqD K) eqD := by
  intro x y I H dx dy d Q ex rx ry h q
  obtain ⟨a, b, rfl⟩ := eqD_of h
  exact ⟨_, _, (rx.mono ex).dp _ a, (ry.mono ex).dp _ b, D.fine_shaped a, D.fine_shaped b, q _ _ _ (.refl ex) (.bl _)⟩
theorem rs_ne {K : PySem.W.Frag} {mg : Gm} : RSn K mg (rNeD K) neD := by
  intro x y I H dx dy d Q ex rx ry h q
  unfold neD at h
  cases e : eqD dx dy with
  | ok r =>
    obtain ⟨a, b, rfl⟩ := eqD_of e
    rw [e] at h
    cases h
    exact ⟨_, _, (rx.mono ex).dp _ a, (ry.mono ex).dp _ b, D.fine_shaped a, D.fine_shaped b, q _ _ _ (.refl ex) (.bl _)⟩
  | err _ _ =>
    rw [e] at h
    cases h
  | stuck =>
    rw [e] at h
    cases h
end DL
namespace DL
open PySem PySem.Spec L2

/-! ### in -/
theorem cr_range1 {X : Cx} : CallR X (.type "range") (fun vs H Q => ∃ j, vs = [V.int j] ∧ ∀ p, H p = none → Q (.ref p) (upd H p (.rng 0 j))) := by
  intro pins s σ H vs us Q I r h
  obtain ⟨j, rfl, q⟩ := h
  obtain ⟨u1, rfl, rj⟩ := vals1 r
  obtain ⟨u, rfl⟩ := rj
  refine PySem.call_range_1 ⟨.ref s.heap.objs.size, upd H s.heap.objs.size (.rng 0 j), I.laid (t' := s.toks + 2) (fun b o e => Heap.get?_push_of_some _ e) (Nat.le_refl _) ?_, rfl, q _ (I.hok.fresh (Nat.le_refl _))⟩
  exact ⟨_, _, _, Heap.get?_push_size _ rfl⟩
theorem op_notIn_rng {X : Cx} : OpR X (compareOp .NotIn) (fun x y H Q => ∃ i a lo hi, x = V.int i ∧ y = V.ref a ∧ H a = some (.rng lo hi) ∧ Q (.bl (!decide (lo ≤ i ∧ i < hi))) H) := by
  intro pins s σ H x y v u Q I rx ry h
  obtain ⟨i, a, lo, hi, rfl, rfl, ha, q⟩ := h
  obtain ⟨k, rfl⟩ := rx
  obtain rfl : u = Value.ref a := ry
  obtain ⟨t1, t2, t3, ho⟩ := I.hok a _ ha
  show wpAny _ _ (do return Value.bool (!(← contains (Value.ref a) (Value.int i k)))) _ _ s
  refine wpAny_bind (wpAny_contains_slot (T := "range") ⟨_, ho, rfl⟩ F.slot_range_contains (call_meets F.slot_range_contains ⟨_, ho, rfl⟩ F.entry_range_contains (F.args_range_contains_2 _ _) (q_contains a lo hi i t1 t2 t3 k)
    ⟨ho, wpAny_truthy_bool (wpAny_pure ⟨.bl _, H, I, rfl, ?_⟩)⟩))
  rw [place1]
  exact q
def D.flat : D → Bool
  | .non => true
  | .bl _ => true
  | .int _ => true
  | .str _ => true
  | _ => false
def eqF : D → D → Bool
  | .non, .non => true
  | .bl a, .bl b => a == b
  | .bl a, .int b => (if a then 1 else 0) == b
  | .int a, .bl b => a == (if b then 1 else 0)
  | .int a, .int b => a == b
  | .str a, .str b => a == b
  | _, _ => false
def inB (x : D) (ds : List D) : Bool := ds.any fun y => eqF y x
def inD : D → D → R D
  | x, .lst ds => gd (x.flat = true ∧ ds.all D.flat = true) (.bl (inB x ds))
  | x, .tup ds => gd (x.flat = true ∧ ds.all D.flat = true) (.bl (inB x ds))
  | .int i, .rng lo hi => .ok (.bl (decide (lo ≤ i ∧ i < hi)))
  | _, _ => .stuck
def notInD (x y : D) : R D := notD (inD x y)
theorem Rep.flat {K : PySem.W.Frag} {mg : Gm} {I : Hp} {v : V} {d : D} (r : Rep K mg I v d) (h : d.flat = true) : flatV v = true := by
  cases r <;> first | rfl | cases h
theorem Rep.eqF {K : PySem.W.Frag} {mg : Gm} {I : Hp} {v w : V} {d e : D} (r : Rep K mg I v d) (q : Rep K mg I w e) (h : d.flat = true) (h2 : e.flat = true) : eqV v w = eqF d e := by
  cases r <;> cases q <;> first | rfl | cases h | cases h2
theorem Reps.flat {K : PySem.W.Frag} {mg : Gm} {I : Hp} : ∀ {vs : List V} {ds : List D}, Reps K mg I vs ds → ds.all D.flat = true → vs.all flatV = true
  | _, _, .nil, _ => rfl
  | _, _, .cons a r, h => by
    rw [List.all_cons, Bool.and_eq_true] at h
    rw [List.all_cons, a.flat h.1, Reps.flat r h.2]
    rfl
theorem Reps.inB {K : PySem.W.Frag} {mg : Gm} {I : Hp} {x : V} {d : D} (rx : Rep K mg I x d) (hx : d.flat = true) : ∀ {vs : List V} {ds : List D}, Reps K mg I vs ds → ds.all D.flat = true → inV x vs = inB d ds
  | _, _, .nil, _ => rfl
  | _, _, .cons (v := v) (vs := vs) (d := e) (ds := ds) a r, h => by
    rw [List.all_cons, Bool.and_eq_true] at h
    have ih := Reps.inB rx hx r h.2
    show (eqV v x || vs.any fun y => eqV y x) = (DL.eqF e d || ds.any fun y => DL.eqF y d)
    rw [a.eqF rx h.1 hx]
    exact congrArg _ ih
def rInX (K : PySem.W.Frag) : R2 := fun x y H Q => rIn K false x y H Q ∨ (∃ i a lo hi, x = V.int i ∧ y = V.ref a ∧ H a = some (.rng lo hi) ∧ Q (.bl (decide (lo ≤ i ∧ i < hi))) H)
def rNinX (K : PySem.W.Frag) : R2 := fun x y H Q => rIn K true x y H Q ∨ (∃ i a lo hi, x = V.int i ∧ y = V.ref a ∧ H a = some (.rng lo hi) ∧ Q (.bl (!decide (lo ≤ i ∧ i < hi))) H)
theorem op_inX {X : Cx} : OpR X (compareOp .In) (rInX X.K) := OpR.or op_in_seq op_in_rng
theorem op_ninX {X : Cx} : OpR X (compareOp .NotIn) (rNinX X.K) := OpR.or op_notIn_seq op_notIn_rng
theorem in_cases {x y d : D} (h : inD x y = .ok d) : (∃ ds, (y = .lst ds ∨ y = .tup ds) ∧ x.flat = true ∧ ds.all D.flat = true ∧ d = .bl (inB x ds)) ∨ (∃ i lo hi, x = .int i ∧ y = .rng lo hi ∧ d = .bl (decide (lo ≤ i ∧ i < hi))) := by
  unfold inD at h
  split at h
  · obtain ⟨⟨a, b⟩, rfl⟩ := gd_of h
    exact .inl ⟨_, .inl rfl, a, b, rfl⟩
  · obtain ⟨⟨a, b⟩, rfl⟩ := gd_of h
    exact .inl ⟨_, .inr rfl, a, b, rfl⟩
  · cases h
    exact .inr ⟨_, _, _, rfl, rfl, rfl⟩
  · cases h
theorem in_seq {K : PySem.W.Frag} {mg : Gm} {I H : Hp} {x y : V} {dx dy : D} {ds : List D} (ex : Same I H) (rx : Rep K mg I x dx) (ry : Rep K mg I y dy) (e : dy = .lst ds ∨ dy = .tup ds) (a : dx.flat = true) (b : ds.all D.flat = true) :
    ∃ p xs, y = .ref p ∧ (SqL K H p xs ∨ SqT K H p xs) ∧ flatV x = true ∧ xs.all flatV = true ∧ inV x xs = inB dx ds := by
  rcases e with e | e
  · subst e
    cases ry with
    | lst h r => exact ⟨_, _, rfl, .inl (SqL.of (ex _ _ h)), rx.flat a, r.flat b, Reps.inB rx a r b⟩
  · subst e
    cases ry with
    | tup h r => exact ⟨_, _, rfl, .inr (SqT.of (ex _ _ h)), rx.flat a, r.flat b, Reps.inB rx a r b⟩
theorem rs_in {K : PySem.W.Frag} {mg : Gm} : RSn K mg (rInX K) inD := by
  intro x y I H dx dy d Q ex rx ry h q
  rcases in_cases h with ⟨ds, e, a, b, rfl⟩ | ⟨i, lo, hi, rfl, rfl, rfl⟩
  · obtain ⟨p, xs, rfl, hs, fx, fa, eb⟩ := in_seq ex rx ry e a b
    refine .inl ⟨p, xs, rfl, hs, fx, fa, ?_⟩
    show Q (.bl (inV x xs)) H
    rw [eb]
    exact q _ _ _ (.refl ex) (.bl _)
  · cases rx
    cases ry with
    | rng hh => exact .inr ⟨_, _, _, _, rfl, rfl, ex _ _ hh, q _ _ _ (.refl ex) (.bl _)⟩
theorem rs_notIn {K : PySem.W.Frag} {mg : Gm} : RSn K mg (rNinX K) notInD := by
  intro x y I H dx dy d Q ex rx ry h q
  unfold notInD at h
  cases hi : inD dx dy with
  | ok r =>
    rw [hi] at h
    rcases in_cases hi with ⟨ds, e, a, b, rfl⟩ | ⟨i, lo, hi, rfl, rfl, rfl⟩
    · cases h
      obtain ⟨p, xs, rfl, hs, fx, fa, eb⟩ := in_seq ex rx ry e a b
      refine .inl ⟨p, xs, rfl, hs, fx, fa, ?_⟩
      show Q (.bl (!inV x xs)) H
      rw [eb]
      exact q _ _ _ (.refl ex) (.bl _)
    · cases h
      cases rx
      cases ry with
      | rng hh => exact .inr ⟨_, _, _, _, rfl, rfl, ex _ _ hh, q _ _ _ (.refl ex) (.bl _)⟩
  | err _ _ =>
    rw [hi] at h
    cases h
  | stuck =>
    rw [hi] at h
    cases h

/-! ### o[i], o[a:b] -/
def ixD : D → D → R D
  | .lst ds, .int i => match atI ds i with
    | some d => .ok d
    | none => .stuck
  | .tup ds, .int i => match atI ds i with
    | some d => .ok d
    | none => .stuck
  | .scr ns, .int i => match atI ns i with
    | some n => .ok (.int n)
    | none => .stuck
  | .str z, .int i => match atI z.cps.toList i with
    | some c => gd (z.length ≤ LIM) (.str ⟨#[c]⟩)
    | none => .stuck
  | _, _ => .stuck
theorem Reps.atI {K : PySem.W.Frag} {mg : Gm} {I : Hp} {vs : List V} {ds : List D} {i : Int} {d : D} (r : Reps K mg I vs ds) (h : atI ds i = some d) : ∃ v, L2.atI vs i = some v ∧ Rep K mg I v d := by
  unfold L2.atI at h ⊢
  rw [r.len]
  cases e : ixN ds.length i with
  | none =>
    rw [e] at h
    cases h
  | some j =>
    rw [e] at h
    obtain ⟨v, hv, rv⟩ := r.get h
    exact ⟨v, hv, rv⟩
theorem rs_ix {K : PySem.W.Frag} {mg : Gm} : RSn K mg (rIx K) ixD := by
  intro x y I H dx dy d Q ex rx ry h q
  cases ry with
  | int i =>
    cases rx with
    | @lst a vs ds ha ra =>
      have h : (match atI ds i with | some d => R.ok d | none => .stuck) = R.ok d := h
      cases e : atI ds i with
      | none =>
        rw [e] at h
        cases h
      | some z =>
        rw [e] at h
        cases h
        obtain ⟨v, hv, rv⟩ := ra.atI e
        exact .inl ⟨_, _, _, v, rfl, rfl, SqL.of (ex _ _ ha), hv, q _ _ _ (.refl ex) rv⟩
    | @tup a vs ds ha ra =>
      have h : (match atI ds i with | some d => R.ok d | none => .stuck) = R.ok d := h
      cases e : atI ds i with
      | none =>
        rw [e] at h
        cases h
      | some z =>
        rw [e] at h
        cases h
        obtain ⟨v, hv, rv⟩ := ra.atI e
        exact .inr (.inl ⟨_, _, _, v, rfl, rfl, SqT.of (ex _ _ ha), hv, q _ _ _ (.refl ex) rv⟩)
    | @scr a ns ha =>
      have h : (match atI ns i with | some n => R.ok (D.int n) | none => .stuck) = R.ok d := h
      cases e : atI ns i with
      | none =>
        rw [e] at h
        cases h
      | some z =>
        rw [e] at h
        cases h
        refine .inl ⟨_, _, _, .int z, rfl, rfl, ex.seq ha, ?_, q _ _ _ (.refl ex) (.int _)⟩
        unfold L2.atI at e ⊢
        rw [List.length_map]
        cases e1 : ixN ns.length i with
        | none =>
          rw [e1] at e
          cases e
        | some j =>
          rw [e1] at e
          have e : ns[j]? = some z := e
          show (ns.map V.int)[j]? = some (V.int z)
          rw [List.getElem?_map, e]
          rfl
    | str z =>
      have h : (match atI z.cps.toList i with | some c => gd (z.length ≤ LIM) (.str ⟨#[c]⟩) | none => .stuck) = R.ok d := h
      cases e : atI z.cps.toList i with
      | none =>
        rw [e] at h
        cases h
      | some c =>
        rw [e] at h
        obtain ⟨hl, rfl⟩ := gd_of h
        exact .inr (.inr ⟨_, _, c, rfl, rfl, lim_ok hl, e, q _ _ _ (.refl ex) (.str _)⟩)
    | _ => cases h
  | _ => cases rx <;> cases h
def cutD (xs : List D) (lo hi : Option Int) : List D := (xs.drop (HT.sIx xs.length 0 lo)).take (HT.sIx xs.length xs.length hi - HT.sIx xs.length 0 lo)
theorem Reps.cut {K : PySem.W.Frag} {mg : Gm} {I : Hp} {vs : List V} {ds : List D} (r : Reps K mg I vs ds) (lo hi : Option Int) : Reps K mg I (cutV vs lo hi) (cutD ds lo hi) := by
  unfold cutV cutD
  rw [r.len]
  exact (r.drop _).take _
def sliceD : D → Option Int → Option Int → R D
  | .lst ds, lo, hi => .ok (.lst (cutD ds lo hi))
  | .tup ds, lo, hi => .ok (.tup (cutD ds lo hi))
  | .str z, lo, hi => gd (z.length ≤ LIM) (.str (cutS z lo hi))
  | _, _, _ => .stuck
def rSlX (K : PySem.W.Frag) : V → Option Int → Option Int → Hp → VK → Prop := fun x lo hi H Q => rSlL K x lo hi H Q ∨ (rSlA K x lo hi H Q ∨ rSlS x lo hi H Q)
theorem sl_X {X : Cx} : SlR X (rSlX X.K) := SlR.or sl_list (SlR.or sl_tupA sl_str)
theorem ss_X {K : PySem.W.Frag} {mg : Gm} : SSn K mg (rSlX K) sliceD := by
  intro x lo hi I H dx d Q ex rx h q
  cases rx with
  | @lst a vs ds ha ra =>
    cases h
    exact .inl ⟨_, _, rfl, SqL.of (ex _ _ ha), fun p hp => q _ _ _ (.new ex hp) (new_lst ex hp (ra.cut lo hi))⟩
  | @tup a vs ds ha ra =>
    cases h
    refine .inr (.inl ⟨_, _, rfl, SqT.of (ex _ _ ha), fun e => ?_, fun _ p hp => q _ _ _ (.new ex hp) (new_tup ex hp (ra.cut lo hi))⟩)
    have ec : cutD ds lo hi = ds := by
      unfold cutD
      rw [← ra.len, e.1, e.2, List.drop_zero, Nat.sub_zero]
      exact List.take_of_length_le (Nat.le_of_eq ra.len.symm)
    rw [ec] at q
    exact q _ _ _ (.refl ex) (.tup ha ra)
  | str z =>
    obtain ⟨hl, rfl⟩ := gd_of h
    exact .inr (.inr ⟨_, rfl, lim_ok hl, q _ _ _ (.refl ex) (.str _)⟩)
  | _ => cases h

/-! ### built-ins -/
def lenD : List D → R D
  | [.lst ds] => .ok (.int ds.length)
  | [.tup ds] => .ok (.int ds.length)
  | [.scr ns] => .ok (.int ns.length)
  | _ => .stuck
def rLenX (K : PySem.W.Frag) : List V → Hp → VK → Prop := fun xs H Q => ∃ p ys, xs = [.ref p] ∧ (SqL K H p ys ∨ SqT K H p ys) ∧ Q (.int ys.length) H
theorem cr_lenX {X : Cx} : CallR X (.builtin "len") (rLenX X.K) := call_len_seq
theorem cs_len {K : PySem.W.Frag} {mg : Gm} : CSn K mg (rLenX K) lenD := by
  intro xs I H ds d Q ex rs h q
  cases rs with
  | nil => cases h
  | cons rx r =>
    cases r with
    | cons _ _ => cases rx <;> cases h
    | nil =>
      cases rx with
      | lst hh ra =>
        cases h
        refine ⟨_, _, rfl, .inl (SqL.of (ex _ _ hh)), ?_⟩
        rw [ra.len]
        exact q _ _ _ (.refl ex) (.int _)
      | tup hh ra =>
        cases h
        refine ⟨_, _, rfl, .inr (SqT.of (ex _ _ hh)), ?_⟩
        rw [ra.len]
        exact q _ _ _ (.refl ex) (.int _)
      | scr hh =>
        cases h
        refine ⟨_, _, rfl, .inl (ex.seq hh), ?_⟩
        rw [List.length_map]
        exact q _ _ _ (.refl ex) (.int _)
      | _ => cases h
def absD : List D → R D
  | [.int i] => .ok (.int (if i < 0 then -i else i))
  | _ => .stuck
theorem reps1 {K : PySem.W.Frag} {mg : Gm} {I : Hp} {xs : List V} {d : D} (r : Reps K mg I xs [d]) : ∃ v, xs = [v] ∧ Rep K mg I v d := by
  cases r with
  | cons a t =>
    cases t
    exact ⟨_, rfl, a⟩
theorem reps2 {K : PySem.W.Frag} {mg : Gm} {I : Hp} {xs : List V} {d e : D} (r : Reps K mg I xs [d, e]) : ∃ v w, xs = [v, w] ∧ Rep K mg I v d ∧ Rep K mg I w e := by
  cases r with
  | cons a t =>
    obtain ⟨w, rfl, b⟩ := reps1 t
    exact ⟨_, _, rfl, a, b⟩
theorem cs_abs {K : PySem.W.Frag} {mg : Gm} : CSn K mg (fun xs H Q => ∃ i, xs = [.int i] ∧ Q (.int (if i < 0 then -i else i)) H) absD := by
  intro xs I H ds d Q ex rs h q
  unfold absD at h
  split at h
  · cases h
    obtain ⟨v, rfl, r⟩ := reps1 rs
    cases r
    exact ⟨_, rfl, q _ _ _ (.refl ex) (.int _)⟩
  · cases h
def intD : List D → R D
  | [.int i] => .ok (.int i)
  | [.bl k] => .ok (.int (if k then 1 else 0))
  | _ => .stuck
theorem cs_int {K : PySem.W.Frag} {mg : Gm} : CSn K mg (fun xs H Q => (∃ i, xs = [.int i] ∧ Q (.int i) H) ∨ ∃ k, xs = [.bl k] ∧ Q (.int (if k then 1 else 0)) H) intD := by
  intro xs I H ds d Q ex rs h q
  unfold intD at h
  split at h
  · cases h
    obtain ⟨v, rfl, r⟩ := reps1 rs
    cases r
    exact .inl ⟨_, rfl, q _ _ _ (.refl ex) (.int _)⟩
  · cases h
    obtain ⟨v, rfl, r⟩ := reps1 rs
    cases r
    exact .inr ⟨_, rfl, q _ _ _ (.refl ex) (.int _)⟩
  · cases h
def max2D : List D → R D
  | [.int i, .int j] => .ok (.int (if j > i then j else i))
  | _ => .stuck
def min2D : List D → R D
  | [.int i, .int j] => .ok (.int (if j < i then j else i))
  | _ => .stuck
theorem cs_max2 {K : PySem.W.Frag} {mg : Gm} : CSn K mg (fun xs H Q => ∃ i j, xs = [.int i, .int j] ∧ Q (.int (if j > i then j else i)) H) max2D := by
  intro xs I H ds d Q ex rs h q
  unfold max2D at h
  split at h
  · cases h
    obtain ⟨v, w, rfl, r, r2⟩ := reps2 rs
    cases r
    cases r2
    exact ⟨_, _, rfl, q _ _ _ (.refl ex) (.int _)⟩
  · cases h
theorem cs_min2 {K : PySem.W.Frag} {mg : Gm} : CSn K mg (fun xs H Q => ∃ i j, xs = [.int i, .int j] ∧ Q (.int (if j < i then j else i)) H) min2D := by
  intro xs I H ds d Q ex rs h q
  unfold min2D at h
  split at h
  · cases h
    obtain ⟨v, w, rfl, r, r2⟩ := reps2 rs
    cases r
    cases r2
    exact ⟨_, _, rfl, q _ _ _ (.refl ex) (.int _)⟩
  · cases h
/-- list(xs), tuple(xs) -/
def listD : List D → R D
  | [.lst ds] => .ok (.lst ds)
  | [.tup ds] => .ok (.lst ds)
  | [.scr ns] => .ok (.lst (ns.map D.int))
  | _ => .stuck
def tupleD : List D → R D
  | [.lst ds] => .ok (.tup ds)
  | [.tup ds] => .ok (.tup ds)
  | [.scr ns] => .ok (.tup (ns.map D.int))
  | _ => .stuck
def rListOf (K : PySem.W.Frag) : List V → Hp → VK → Prop := fun xs H Q => ∃ p ys, xs = [.ref p] ∧ (SqL K H p ys ∨ SqT K H p ys) ∧ ∀ l, H l = none → Q (.ref l) (upd H l (.lst ys))
def rTupOf (K : PySem.W.Frag) : List V → Hp → VK → Prop := fun xs H Q => ∃ p ys, xs = [.ref p] ∧ ((SqL K H p ys ∧ ∀ l, H l = none → Q (.ref l) (upd H l (.tup ys))) ∨ (SqT K H p ys ∧ Q (.ref p) H))
theorem cr_listOf {X : Cx} : CallR X (.type "list") (rListOf X.K) := call_list_of
theorem cr_tupOf {X : Cx} : CallR X (.type "tuple") (rTupOf X.K) := call_tuple_of
theorem cs_list {K : PySem.W.Frag} {mg : Gm} : CSn K mg (rListOf K) listD := by
  intro xs I H ds d Q ex rs h q
  unfold listD at h
  split at h
  · cases h
    obtain ⟨v, rfl, r⟩ := reps1 rs
    cases r with
    | lst hh ra => exact ⟨_, _, rfl, .inl (SqL.of (ex _ _ hh)), fun p hp => q _ _ _ (.new ex hp) (new_lst ex hp ra)⟩
  · cases h
    obtain ⟨v, rfl, r⟩ := reps1 rs
    cases r with
    | tup hh ra => exact ⟨_, _, rfl, .inr (SqT.of (ex _ _ hh)), fun p hp => q _ _ _ (.new ex hp) (new_lst ex hp ra)⟩
  · cases h
    obtain ⟨v, rfl, r⟩ := reps1 rs
    cases r with
    | scr hh => exact ⟨_, _, rfl, .inl (ex.seq hh), fun p hp => q _ _ _ (.new ex hp) (new_lst ex hp .ints)⟩
  · cases h
theorem cs_tuple {K : PySem.W.Frag} {mg : Gm} : CSn K mg (rTupOf K) tupleD := by
  intro xs I H ds d Q ex rs h q
  unfold tupleD at h
  split at h
  · cases h
    obtain ⟨v, rfl, r⟩ := reps1 rs
    cases r with
    | lst hh ra => exact ⟨_, _, rfl, .inl ⟨SqL.of (ex _ _ hh), fun p hp => q _ _ _ (.new ex hp) (new_tup ex hp ra)⟩⟩
  · cases h
    obtain ⟨v, rfl, r⟩ := reps1 rs
    cases r with
    | tup hh ra => exact ⟨_, _, rfl, .inr ⟨SqT.of (ex _ _ hh), q _ _ _ (.refl ex) (.tup hh ra)⟩⟩
  · cases h
    obtain ⟨v, rfl, r⟩ := reps1 rs
    cases r with
    | scr hh => exact ⟨_, _, rfl, .inl ⟨ex.seq hh, fun p hp => q _ _ _ (.new ex hp) (new_tup ex hp .ints)⟩⟩
  · cases h
/-- range(..) as a value -/
def rng1D : List D → R D
  | [.int j] => .ok (.rng 0 j)
  | _ => .stuck
theorem cs_rng1 {K : PySem.W.Frag} {mg : Gm} : CSn K mg (fun vs H Q => ∃ j, vs = [V.int j] ∧ ∀ p, H p = none → Q (.ref p) (upd H p (.rng 0 j))) rng1D := by
  intro xs I H ds d Q ex rs h q
  unfold rng1D at h
  split at h
  · cases h
    obtain ⟨v, rfl, r⟩ := reps1 rs
    cases r
    exact ⟨_, rfl, fun p hp => q _ _ _ (.new ex hp) (.rng upd_same)⟩
  · cases h
/-- sorted(xs), ints -/
def insI (x : Int) : List Int → List Int
  | [] => [x]
  | y :: ys => if x ≤ y then x :: y :: ys else y :: insI x ys
def sortI : List Int → List Int
  | [] => []
  | x :: xs => insI x (sortI xs)
theorem insI_perm (x : Int) : ∀ ys : List Int, (insI x ys).Perm (x :: ys)
  | [] => .refl _
  | y :: ys => by
    unfold insI
    split
    · exact .refl _
    · exact ((insI_perm x ys).cons y).trans (.swap x y ys)
theorem sortI_perm : ∀ xs : List Int, (sortI xs).Perm xs
  | [] => .refl _
  | x :: xs => (insI_perm x _).trans ((sortI_perm xs).cons x)
theorem insI_srt (x : Int) : ∀ ys : List Int, ys.Pairwise (· ≤ ·) → (insI x ys).Pairwise (· ≤ ·)
  | [], _ => List.pairwise_singleton _ _
  | y :: ys, h => by
    unfold insI
    split
    · rename_i hxy
      refine List.pairwise_cons.mpr ⟨fun z hz => ?_, h⟩
      rcases List.mem_cons.mp hz with e | hz
      · rw [e]
        exact hxy
      · exact Int.le_trans hxy ((List.pairwise_cons.mp h).1 z hz)
    · rename_i hxy
      refine List.pairwise_cons.mpr ⟨fun z hz => ?_, insI_srt x ys (List.pairwise_cons.mp h).2⟩
      rcases List.mem_cons.mp ((insI_perm x ys).mem_iff.mp hz) with e | hz
      · rw [e]
        omega
      · exact (List.pairwise_cons.mp h).1 z hz
theorem sortI_srt : ∀ xs : List Int, (sortI xs).Pairwise (· ≤ ·)
  | [] => .nil
  | x :: xs => insI_srt x _ (sortI_srt xs)
theorem srt_uniq : ∀ {xs ys : List Int}, xs.Perm ys → xs.Pairwise (· ≤ ·) → ys.Pairwise (· ≤ ·) → xs = ys
  | [], ys, p, _, _ => (List.Perm.nil_eq p)
  | x :: xs, [], p, _, _ => (List.Perm.eq_nil p)
  | x :: xs, y :: ys, p, hx, hy => by
    have e : x = y := by
      have h1 : x ∈ y :: ys := p.mem_iff.mp List.mem_cons_self
      have h2 : y ∈ x :: xs := p.mem_iff.mpr List.mem_cons_self
      rcases List.mem_cons.mp h1 with e | h1
      · exact e
      · rcases List.mem_cons.mp h2 with e | h2
        · exact e.symm
        · have a := (List.pairwise_cons.mp hx).1 y h2
          have b := (List.pairwise_cons.mp hy).1 x h1
          omega
    subst e
    rw [srt_uniq (List.perm_cons x |>.mp p) (List.pairwise_cons.mp hx).2 (List.pairwise_cons.mp hy).2]
def sortedD : List D → R D
  | [.lst ds] => match intsOf ds with
    | some ns => .ok (.lst ((sortI ns).map D.int))
    | none => .stuck
  | [.tup ds] => match intsOf ds with
    | some ns => .ok (.lst ((sortI ns).map D.int))
    | none => .stuck
  | _ => .stuck
section
open PyProof.Rows SrtO
/-- sorted of a list or a tuple, under a strict weak order -/
theorem sorted_seqO {prog : Program} {w : World} {A : Around} {E : Value → Shared → Prop} {s : Shared} {l : Addr} {T : String} {o : Obj} {vs : List Value} {n : Nat} {ltv : Value → Value → Bool} {Q : Value → Shared → Prop} (O : Swo ltv) (hT : T = "list" ∨ T = "tuple")
    (ho : s.heap.get? l = some o) (hc : o.cls = .type T) (hd : o.data = .seq vs.toArray n) (hz : vs.length ≤ sizeLine)
    (hS : 2 ≤ vs.length → ∀ (h₁ : Heap) (a : Addr), h₁.get? a = some (seqObj "list" vs.toArray 0) → (∀ b o, s.heap.get? b = some o → b ≠ a ∧ h₁.get? b = some o) → SortableO prog w A.in1.in1 { s with heap := h₁ } a vs ltv)
    (h : ∀ (h' : Heap) (out : List Value), (∀ b o, s.heap.get? b = some o → h'.get? b = some o) → Srtd ltv out → Stb ltv out vs → Q (.ref h'.objs.size) { s with heap := sortedHeap (h'.push (seqObj "list" vs.toArray 0)) h'.objs.size vs out.toArray }) :
    wpAny (model prog w) A (call (.builtin "sorted") [.ref l]) Q E s := by
  refine Calls.call_function_entry kind_sorted plain_sorted entry_sorted (args_sorted1 _) ?_
  unfold Builtin.«sorted»
  refine wpAny_bind (m := checkCount "sorted" 1 1 _) (wpAny_pure ?_)
  refine wpAny_bind (wpAny_collect_seq l hT ho hc hd (fun h' hk => ?_) (by simpa using hz))
  refine wpAny_bind (wpAny_newList ?_ (by simpa using hz))
  have hoL : (h'.push (seqObj "list" vs.toArray 0)).get? h'.objs.size = some (seqObj "list" vs.toArray 0) := Heap.get?_push_size _ rfl
  have keep : ∀ b o, s.heap.get? b = some o → b ≠ h'.objs.size ∧ (h'.push (seqObj "list" vs.toArray 0)).get? b = some o := fun b o q =>
    ⟨Nat.ne_of_lt (Heap.lt_size (hk b o q)), Heap.get?_push_of_some _ (hk b o q)⟩
  refine wpAny_bind (wpAny_holding (wpAny_call_entry slot_list_sort ⟨_, hoL, rfl⟩ entry_list_sort (list_sort_ord O hoL hz (fun h2 => hS h2 _ _ hoL keep) fun out hs hb => ⟨_, rfl, ?_⟩) (args_list_sort _)))
  exact wpAny_pure ⟨_, rfl, h h' out hk hs hb⟩
end
def rSortedX (K : PySem.W.Frag) : List V → Hp → VK → Prop := fun vs H Q => ∃ (a : Addr) (ns : List Int), vs = [V.ref a] ∧ (SqL K H a (ns.map V.int) ∨ SqT K H a (ns.map V.int)) ∧
  ∀ (ns' : List Int) (p : Addr), ns'.Perm ns → ns'.Pairwise (· ≤ ·) → H p = none → Q (.ref p) (upd H p (.lst (ns'.map V.int)))
theorem cr_sortedX {X : Cx} : CallR X (.builtin "sorted") (rSortedX X.K) := by
  intro pins s σ H vs us Q I r h
  obtain ⟨a, ns, rfl, hs, q⟩ := h
  have hx : ∃ (T : String) (o : Obj) (its : List Value) (n : Nat), (T = "list" ∨ T = "tuple") ∧ s.heap.get? a = some o ∧ o.cls = .type T ∧ o.data = .seq its.toArray n ∧ Vals (ns.map V.int) its ∧ (ns.map V.int).length ≤ sizeLine := by
    rcases hs with hs | hs
    · obtain ⟨its, rv, ⟨o, n, ho, hc, _, hd⟩, hz⟩ := I.list hs
      exact ⟨_, o, its, n, .inl rfl, ho, hc, hd, rv, hz⟩
    · obtain ⟨its, rv, ⟨o, ho, hc, n, hd⟩, hz⟩ := I.tuple hs
      exact ⟨_, o, its, n, .inr rfl, ho, hc, hd, rv, hz⟩
  obtain ⟨T, o, its, n, hT, ho, hc, hd, rv, hz⟩ := hx
  rw [Vals.ref1 r]
  have hi := rv.ints
  refine sorted_seqO SrtO.swo_int hT ho hc hd (by rw [← rv.length]; exact hz) (fun h2 h₁ a' _ _ => SrtO.ints_sortable hi h2) fun h' out hk h1 h2 => ?_
  obtain ⟨k1, k2, k3⟩ := SrtO.ints_out hi h1 h2
  have I' : Inv X pins σ H { s with heap := h' } := I.kept (t' := s.toks) hk
  have hlen : ((out.map SrtO.iv).map V.int).length ≤ sizeLine := by
    rw [List.length_map, k2.length_eq]
    rw [List.length_map] at hz
    exact hz
  obtain ⟨ep, he'⟩ := PyProof.Rows.sortedHeap_at (vs := its) (out := out.toArray) (n := 0) (h := h'.push (PyProof.Rows.seqObj "list" its.toArray 0)) (a := h'.objs.size) (Heap.get?_push_size _ rfl)
  refine ⟨.ref _, upd H h'.objs.size (.lst ((out.map SrtO.iv).map V.int)), I'.laid (t' := s.toks) (fun b u e => ?_) (Nat.le_refl _) ⟨hlen, out, ep, vals_of_ints k1, he'⟩, rfl, q _ _ k2 k3 (I'.hok.fresh (Nat.le_refl _))⟩
  have hlt : b < h'.objs.size := Heap.lt_size e
  rw [PyProof.Rows.sortedHeap_old (Nat.ne_of_lt hlt) (by rw [PyProof.Rows.size_push']; exact Nat.lt_succ_of_lt hlt)]
  exact Heap.get?_push_of_some _ e
theorem cs_sorted {K : PySem.W.Frag} {mg : Gm} : CSn K mg (rSortedX K) sortedD := by
  intro xs I H ds d Q ex rs h q
  unfold sortedD at h
  have fin : ∀ (a : Addr) (es : List D) (vs : List V) (ns : List Int), intsOf es = some ns → Reps K mg I vs es → (SqL K H a vs ∨ SqT K H a vs) → (∀ v I' H', Stp I H I' H' → Rep K mg I' v (.lst ((sortI ns).map D.int)) → Q v H') → rSortedX K [.ref a] H Q := fun a es vs ns e r hs q => by
    obtain ⟨rfl, _⟩ := reps_ints r e
    refine ⟨a, ns, rfl, hs, fun ns' p hp hs' hn => ?_⟩
    have e2 : ns' = sortI ns := srt_uniq (hp.trans (sortI_perm ns).symm) hs' (sortI_srt ns)
    subst e2
    exact q _ _ _ (.new ex hn) (new_lst ex hn .ints)
  split at h
  · rename_i es
    obtain ⟨v, rfl, r⟩ := reps1 rs
    cases e : intsOf es with
    | none =>
      rw [e] at h
      cases h
    | some ns =>
      rw [e] at h
      cases h
      cases r with
      | lst hh ra => exact fin _ _ _ ns e ra (.inl (SqL.of (ex _ _ hh))) q
  · rename_i es
    obtain ⟨v, rfl, r⟩ := reps1 rs
    cases e : intsOf es with
    | none =>
      rw [e] at h
      cases h
    | some ns =>
      rw [e] at h
      cases h
      cases r with
      | tup hh ra => exact fin _ _ _ ns e ra (.inr (SqT.of (ex _ _ hh))) q
  · cases h
/-- any, all of a list of bools -/
def blsOf : List D → Option (List Bool)
  | [] => some []
  | .bl b :: ds => (blsOf ds).map (b :: ·)
  | _ :: _ => none
theorem blsOf_map (bs : List Bool) : blsOf (bs.map D.bl) = some bs := by
  induction bs with
  | nil => rfl
  | cons n ns ih => rw [List.map_cons, blsOf, ih]; rfl
theorem reps_bls {K : PySem.W.Frag} {mg : Gm} {I : Hp} : ∀ {vs : List V} {ds : List D} {bs : List Bool}, Reps K mg I vs ds → blsOf ds = some bs → vs = bs.map V.bl
  | _, _, ns, .nil, h => by
    cases h
    rfl
  | _, _, ns, .cons (d := d) (ds := ds) a r, h => by
    cases a with
    | bl i =>
      cases e : blsOf ds with
      | none =>
        rw [blsOf, e] at h
        cases h
      | some ms =>
        rw [blsOf, e] at h
        cases h
        rw [reps_bls r e]
        rfl
    | _ => cases h
def anyD : List D → R D
  | [.lst ds] => match blsOf ds with
    | some bs => .ok (.bl (bs.any id))
    | none => .stuck
  | _ => .stuck
def allD : List D → R D
  | [.lst ds] => match blsOf ds with
    | some bs => .ok (.bl (bs.all id))
    | none => .stuck
  | _ => .stuck
theorem cs_any {K : PySem.W.Frag} {mg : Gm} : CSn K mg (rAny K) anyD := by
  intro xs I H ds d Q ex rs h q
  unfold anyD at h
  split at h
  · rename_i es
    obtain ⟨v, rfl, r⟩ := reps1 rs
    cases e : blsOf es with
    | none =>
      rw [e] at h
      cases h
    | some bs =>
      rw [e] at h
      cases h
      cases r with
      | lst hh ra =>
        cases reps_bls ra e
        exact ⟨_, bs, rfl, SqL.of (ex _ _ hh), q _ _ _ (.refl ex) (.bl _)⟩
  · cases h
theorem cs_all {K : PySem.W.Frag} {mg : Gm} : CSn K mg (rAll K) allD := by
  intro xs I H ds d Q ex rs h q
  unfold allD at h
  split at h
  · rename_i es
    obtain ⟨v, rfl, r⟩ := reps1 rs
    cases e : blsOf es with
    | none =>
      rw [e] at h
      cases h
    | some bs =>
      rw [e] at h
      cases h
      cases r with
      | lst hh ra =>
        cases reps_bls ra e
        exact ⟨_, bs, rfl, SqL.of (ex _ _ hh), q _ _ _ (.refl ex) (.bl _)⟩
  · cases h
/-- isinstance of a built-in class -/
def tyOf : D → Option String
  | .non => some "NoneType"
  | .bl _ => some "bool"
  | .int _ => some "int"
  | .str _ => some "str"
  | .lst _ => some "list"
  | .tup _ => some "tuple"
  | _ => none
def isiD : List D → R D
  | [x, .ty n] => match tyOf x with
    | some t => match kitB t n with
      | some b => .ok (.bl b)
      | none => .stuck
    | none => .stuck
  | _ => .stuck
theorem Rep.tyx {K : PySem.W.Frag} {mg : Gm} {I : Hp} {v : V} {d : D} {t : String} (r : Rep K mg I v d) (h : tyOf d = some t) : TyX K I v (.type t) := by
  cases r with
  | non => cases h; exact .base .non
  | bl b => cases h; exact .base (.bl b)
  | int i => cases h; exact .base (.int i)
  | str x => cases h; exact .base (.str x)
  | lst hh _ => cases h; exact .base (.lst hh)
  | tup hh _ =>
    cases h
    exact .base (.tup hh)
  | _ => cases h
theorem cs_isi {K : PySem.W.Frag} {mg : Gm} : CSn K mg (rIsi K) isiD := by
  intro xs I H ds d Q ex rs h q
  unfold isiD at h
  split at h
  · rename_i x n
    obtain ⟨v, w, rfl, r, r2⟩ := reps2 rs
    cases e : tyOf x with
    | none =>
      rw [e] at h
      cases h
    | some t =>
      rw [e] at h
      have h : (match kitB t n with | some b => R.ok (D.bl b) | none => .stuck) = R.ok d := h
      cases e2 : kitB t n with
      | none =>
        rw [e2] at h
        cases h
      | some b =>
        rw [e2] at h
        cases h
        cases r2
        exact ⟨v, _, _, _, b, rfl, .ty n, (r.mono ex).tyx e, kit_ty e2, q _ _ _ (.refl ex) (.bl _)⟩
  · cases h
end DL
namespace DL
open PySem PySem.Spec L2

/-! ### what is walked -/
def itemsD : D → R (List D)
  | .lst ds => .ok ds
  | .tup ds => .ok ds
  | .scr ns => .ok (ns.map D.int)
  | _ => .stuck
def its (a : R D) : R (List D) := a >>= itemsD
@[simp] theorem its_ok (d : D) : its (.ok d) = itemsD d := rfl
def rangeD (lo c : Int) (n : Nat) : List D := (List.range n).map fun i => .int (lo + (i : Nat) * c)
theorem rangeD_len (lo c : Int) (n : Nat) : (rangeD lo c n).length = n := by unfold rangeD; rw [List.length_map, List.length_range]
theorem rangeD_get {lo c : Int} {n i : Nat} {d : D} (h : (rangeD lo c n)[i]? = some d) : i < n ∧ d = .int (lo + (i : Nat) * c) := by
  unfold rangeD at h
  rw [List.getElem?_map] at h
  cases e : (List.range n)[i]? with
  | none =>
    rw [e] at h
    cases h
  | some j =>
    rw [e] at h
    obtain ⟨h1, h2⟩ := List.getElem?_eq_some_iff.mp e
    rw [List.length_range] at h1
    rw [List.getElem_range] at h2
    subst h2
    exact ⟨h1, (Option.some.inj h).symm⟩
section
variable {X : Cx} {E : Wh} {K : PySem.W.Frag} {mg : Gm} {I I' H H' : Hp} {σ : L2.St} {ρ : Env} {a b c e tg : Expr} {es : List Expr} {pos p : Pos} {m : Env → R D} {ms : Env → R (List D)} {t : TE} {tas : TA}
theorem PI.or {w1 w2 : TI} (h : PI X tg e w1) (h' : PI X tg e w2) : PI X tg e (fun σ H Rr => w1 σ H Rr ∨ w2 σ H Rr) := ⟨fun pins s σ H Rr I q => by
  rcases q with q | q
  · exact h.run pins s σ H Rr I q
  · exact h'.run pins s σ H Rr I q⟩
theorem it_list {a : Addr} {vs : List V} {ds : List D} (h : SqL K I a vs) (r : Reps K mg I vs ds) : ItOk K mg I (Itl K a) ds := fun I1 H e1 e2 => ⟨fun i d hd => by
    obtain ⟨v, hv, rv⟩ := r.get hd
    exact ⟨⟨vs, v, (e1.trans e2).seq h, hv⟩, fun x H' y => by
      obtain ⟨rfl, y⟩ := y
      have e := y vs ((e1.trans e2).seq h)
      rw [hv] at e
      cases e
      exact ⟨I1, .refl e2, rv.mono e1⟩⟩, ⟨vs, (e1.trans e2).seq h, Nat.le_of_eq r.len⟩⟩
theorem it_tup {a : Addr} {vs : List V} {ds : List D} (h : SqT K I a vs) (r : Reps K mg I vs ds) : ItOk K mg I (Itt K a) ds := fun I1 H e1 e2 => ⟨fun i d hd => by
    obtain ⟨v, hv, rv⟩ := r.get hd
    exact ⟨⟨vs, v, same_t (e1.trans e2) h, hv⟩, fun x H' y => by
      obtain ⟨rfl, y⟩ := y
      have e := y vs (same_t (e1.trans e2) h)
      rw [hv] at e
      cases e
      exact ⟨I1, .refl e2, rv.mono e1⟩⟩, ⟨vs, same_t (e1.trans e2) h, Nat.le_of_eq r.len⟩⟩
theorem it_rng {lo : Int} {n : Nat} : ItOk K mg I (Itr lo n) (rangeD lo 1 n) := fun I1 H e1 e2 => ⟨fun i d hd => by
    obtain ⟨h1, rfl⟩ := rangeD_get hd
    exact ⟨h1, fun x H' y => by
      obtain ⟨rfl, rfl⟩ := y
      refine ⟨I1, .refl e2, ?_⟩
      rw [Int.mul_one]
      exact .int _⟩, Nat.le_of_eq (rangeD_len _ _ _).symm⟩
theorem it_rngC {lo c : Int} {n : Nat} : ItOk K mg I (Itc lo c n) (rangeD lo c n) := fun I1 H e1 e2 => ⟨fun i d hd => by
    obtain ⟨h1, rfl⟩ := rangeD_get hd
    exact ⟨h1, fun x H' y => by
      obtain ⟨rfl, rfl⟩ := y
      exact ⟨I1, .refl e2, .int _⟩⟩, Nat.le_of_eq (rangeD_len _ _ _).symm⟩
theorem mi_seq (K : PySem.W.Frag) (h : ME X E e t m) (hK : X.K = K := by rfl) : MI X E tg e (fun σ H Rr => iList K t σ H Rr ∨ iTup K t σ H Rr) (fun ρ => its (m ρ)) := by
  subst hK
  obtain ⟨pt, st⟩ := h
  refine ⟨PI.or (pi_list pt) (pi_tup pt), fun σ I H ρ Q re ex h => ?_⟩
  have h : Out X.K (gm X E) (E.e σ) (ItOk X.K (gm X E)) I H (m ρ >>= itemsD) Q := h
  have fin : ∀ d, m ρ = .ok d → ((∃ ds, d = .lst ds) ∨ (∃ ns, d = .scr ns)) ∨ (∃ ds, d = .tup ds) := fun d e => by
    rw [e] at h
    cases d with
    | lst ds => exact .inl (.inl ⟨_, rfl⟩)
    | tup ds => exact .inr ⟨_, rfl⟩
    | scr ns => exact .inl (.inr ⟨_, rfl⟩)
    | _ => exact h.elim
  have go1 : (∀ d, m ρ = .ok d → (∃ ds, d = .lst ds) ∨ (∃ ns, d = .scr ns)) → iList X.K t σ H Q := fun hd => by
    refine st.run re ex h fun d v I1 H1 e s1 rx h => ?_
    rcases hd d e with ⟨ds, rfl⟩ | ⟨ns, rfl⟩
    · cases rx with
      | lst hh ra => exact ⟨_, rfl, ⟨_, SqL.of (s1.e _ _ hh)⟩, h.here s1.e (it_list (SqL.of hh) ra)⟩
    · cases rx with
      | scr hh => exact ⟨_, rfl, ⟨_, s1.e.seq hh⟩, h.here s1.e (it_list hh .ints)⟩
  have go2 : (∀ d, m ρ = .ok d → ∃ ds, d = .tup ds) → iTup X.K t σ H Q := fun hd => by
    refine st.run re ex h fun d v I1 H1 e s1 rx h => ?_
    obtain ⟨ds, rfl⟩ := hd d e
    cases rx with
    | tup hh ra => exact ⟨_, rfl, ⟨_, SqT.of (s1.e _ _ hh)⟩, h.here s1.e (it_tup (SqT.of hh) ra)⟩
  cases e : m ρ with
  | ok d =>
    rcases fin d e with hd | hd
    · exact .inl (go1 fun d' e' => by
        rw [e] at e'
        cases e'
        exact hd)
    · exact .inr (go2 fun d' e' => by
        rw [e] at e'
        cases e'
        exact hd)
  | err _ _ => exact .inl (go1 fun d' e' => by
      rw [e] at e'
      cases e')
  | stuck => exact .inl (go1 fun d' e' => by
      rw [e] at e'
      cases e')
def rg1 : List D → R (List D)
  | [.int j] => if -(2 ^ 62) ≤ j ∧ j < 2 ^ 62 then .ok (rangeD 0 1 j.toNat) else .stuck
  | _ => .stuck
def rg2 : List D → R (List D)
  | [.int i, .int j] => if -(2 ^ 62) ≤ i ∧ i < 2 ^ 62 ∧ -(2 ^ 62) ≤ j ∧ j < 2 ^ 62 then .ok (rangeD i 1 (j - i).toNat) else .stuck
  | _ => .stuck
/-- a step of -1 -/
def rg3 : List D → R (List D)
  | [.int i, .int j, .int c] => if c = -1 ∧ -(2 ^ 62) ≤ i ∧ i < 2 ^ 62 ∧ -(2 ^ 62) ≤ j ∧ j < 2 ^ 62 then .ok (rangeD i (-1) (i - j).toNat) else .stuck
  | _ => .stuck
theorem mi_rng1 (hg : Gl X "range") (hm : X.mg "range" = none) (ha : MA X E [a] tas ms) (hs : starEach [a] X.env = [(false, eval a X.env)] := by rfl) : MI X E tg (.Call (.Name "range" p) [a] [] pos) (iRng1 tas) (fun ρ => dsp rg1 (ms ρ)) := by
  obtain ⟨pt, st⟩ := ha
  refine ⟨pi_range1 hg hm pt hs, fun σ I H ρ Q re ex h => ?_⟩
  refine st.run re ex h fun ds vs I1 H1 _ s1 rs h => ?_
  unfold rg1 at h
  split at h
  · obtain ⟨⟨h1, h2⟩, h⟩ := out_if h
    obtain ⟨v, rfl, r⟩ := reps1 rs
    cases r
    exact ⟨_, rfl, h1, h2, h.here s1.e it_rng⟩
  · exact h.elim
theorem mi_rng2 (hg : Gl X "range") (hm : X.mg "range" = none) (ha : MA X E [a, b] tas ms) (hs : starEach [a, b] X.env = [(false, eval a X.env), (false, eval b X.env)] := by rfl) (hs2 : starEach [b] X.env = [(false, eval b X.env)] := by rfl) : MI X E tg (.Call (.Name "range" p) [a, b] [] pos) (iRng2 tas) (fun ρ => dsp rg2 (ms ρ)) := by
  obtain ⟨pt, st⟩ := ha
  refine ⟨pi_range2 hg hm pt hs hs2, fun σ I H ρ Q re ex h => ?_⟩
  refine st.run re ex h fun ds vs I1 H1 _ s1 rs h => ?_
  unfold rg2 at h
  split at h
  · obtain ⟨h1, h⟩ := out_if h
    obtain ⟨v, w, rfl, r, r2⟩ := reps2 rs
    cases r
    cases r2
    exact ⟨_, _, rfl, h1, h.here s1.e it_rng⟩
  · exact h.elim
theorem mi_rng3 (hg : Gl X "range") (hm : X.mg "range" = none) (ha : MA X E [a, b, c] tas ms) (hi : ∀ t, PA X [a, b, c] t → PI X tg (.Call (.Name "range" p) [a, b, c] [] pos) (iRng3 t) := by intro t pt; exact pi_range3 (by assumption) (by assumption) pt) : MI X E tg (.Call (.Name "range" p) [a, b, c] [] pos) (iRng3 tas) (fun ρ => dsp rg3 (ms ρ)) := by
  obtain ⟨pt, st⟩ := ha
  refine ⟨hi _ pt, fun σ I H ρ Q re ex h => ?_⟩
  refine st.run re ex h fun ds vs I1 H1 _ s1 rs h => ?_
  unfold rg3 at h
  split at h
  · obtain ⟨⟨hc, h1, h2, h3, h4⟩, h9⟩ := out_if h
    subst hc
    cases rs with
    | cons r rs =>
      obtain ⟨v, w, rfl, r2, r3⟩ := reps2 rs
      cases r
      cases r2
      cases r3
      exact ⟨_, _, _, _, rfl, RgC.neg h1 h2 h3 h4, h9.here s1.e it_rngC⟩
  · exact h.elim

/-! ### targets: which slots are stored -/
abbrev As := List (Nat × D)
def setE (ρ : Env) : As → Env
  | [] => ρ
  | (i, d) :: as => setE (ρ.set i (some d)) as
def setS (σ : L2.St) : List (Nat × V) → L2.St
  | [] => σ
  | (i, v) :: as => setS (σ.set i (some v)) as
inductive AR (K : PySem.W.Frag) (mg : Gm) (I : Hp) : List (Nat × V) → As → Prop
  | nil : AR K mg I [] []
  | cons {i : Nat} {v : V} {d : D} {us : List (Nat × V)} {as : As} : Rep K mg I v d → AR K mg I us as → AR K mg I ((i, v) :: us) ((i, d) :: as)
theorem AR.app {K : PySem.W.Frag} {mg : Gm} {I : Hp} : ∀ {us ws : List (Nat × V)} {as bs : As}, AR K mg I us as → AR K mg I ws bs → AR K mg I (us ++ ws) (as ++ bs)
  | _, _, _, _, .nil, s => s
  | _, _, _, _, .cons h r, s => .cons h (AR.app r s)
theorem setS_app (σ : L2.St) : ∀ us ws : List (Nat × V), setS σ (us ++ ws) = setS (setS σ us) ws
  | [], _ => rfl
  | (i, v) :: us, ws => setS_app (σ.set i (some v)) us ws
theorem setE_app (ρ : Env) : ∀ us ws : As, setE ρ (us ++ ws) = setE (setE ρ us) ws
  | [], _ => rfl
  | (i, v) :: us, ws => setE_app (ρ.set i (some v)) us ws
theorem AR.slots {K : PySem.W.Frag} {mg : Gm} {I : Hp} : ∀ {us : List (Nat × V)} {as : As}, AR K mg I us as → us.map (·.1) = as.map (·.1)
  | _, _, .nil => rfl
  | _, _, .cons (i := i) h r => congrArg (i :: ·) (AR.slots r)
def SnG (K : PySem.W.Frag) (mg : Gm) (g : TG) (ag : D → R As) : Prop :=
  ∀ (x : V) (σ : L2.St) (I H : Hp) (d : D) (as : As) (Q : L2.St → Hp → Prop), Same I H → Rep K mg I x d → ag d = .ok as → (∀ us, AR K mg I us as → Q (setS σ us) H) → g x σ H Q
def SnGs (K : PySem.W.Frag) (mg : Gm) (g : TGs) (ag : List D → R As) : Prop :=
  ∀ (xs : List V) (σ : L2.St) (I H : Hp) (ds : List D) (as : As) (Q : L2.St → Hp → Prop), Same I H → Reps K mg I xs ds → ag ds = .ok as → (∀ us, AR K mg I us as → Q (setS σ us) H) → g xs σ H Q
structure MG (X : Cx) (tg : Expr) (g : TG) (ag : D → R As) : Prop where
  pe : PG X tg g
  sn : ∀ xc, SnG X.K ⟨X.mg, xc⟩ g ag
structure MGs (X : Cx) (tgs : List Expr) (g : TGs) (ag : List D → R As) : Prop where
  pe : PGs X tgs g
  sn : ∀ xc, SnGs X.K ⟨X.mg, xc⟩ g ag
def agV (i : Nat) : D → R As := fun d => .ok [(i, d)]
def agN : List D → R As
  | [] => .ok []
  | _ => .stuck
def agC (ag : D → R As) (bg : List D → R As) : List D → R As
  | d :: ds => ag d >>= fun as => bg ds >>= fun bs => .ok (as ++ bs)
  | [] => .stuck
theorem mg_name (i : Nat) {x : Str} (hN : X.N.Nodup) (hi : X.N[i]? = some x := by rfl) (hx : Loc X.env.scope x := by first | exact .inl rfl | exact .inr rfl) (hf : X.fn x = true ∨ X.env.scope.names.lookup x = some .local := by first | exact .inl rfl | exact .inr rfl) : MG X (.Name x pos) (gName i) (agV i) :=
  ⟨pg_name hN hi hx hf, fun xc x σ I H d as Q ex r h q => by
    cases h
    exact q [(i, x)] (.cons r .nil)⟩
theorem mgs_nil : MGs X [] gNil agN := ⟨pgs_nil, fun xc xs σ I H ds as Q ex r h q => by
  cases r with
  | nil =>
    cases h
    exact ⟨rfl, q [] .nil⟩
  | cons _ _ => cases h⟩
theorem mgs_cons {ag : D → R As} {bg : List D → R As} {es : List Expr} {g : TG} {gs : TGs} (h1 : MG X e g ag) (h2 : MGs X es gs bg) (hs : (assignEach (e :: es) X.env).map (·.2) = assign e X.env :: (assignEach es X.env).map (·.2) := by rfl) : MGs X (e :: es) (gCons g gs) (agC ag bg) := by
  obtain ⟨pg, sg⟩ := h1
  obtain ⟨pgs, sgs⟩ := h2
  refine ⟨pgs_cons pg pgs hs, fun xc xs σ I H ds as Q ex r h q => ?_⟩
  cases r with
  | nil => cases h
  | @cons v vs d ds rv rs =>
    have h : (ag d >>= fun as => bg ds >>= fun bs => R.ok (as ++ bs)) = .ok as := h
    cases e1 : ag d with
    | ok a1 =>
      cases e2 : bg ds with
      | ok a2 =>
        rw [e1, ok_bind, e2, ok_bind] at h
        cases h
        refine ⟨v, vs, rfl, sg xc v σ I H d a1 _ ex rv e1 fun us ar => ?_⟩
        refine sgs xc vs _ I H ds a2 _ ex rs e2 fun ws ar2 => ?_
        rw [← setS_app]
        exact q _ (ar.app ar2)
      | err _ _ =>
        rw [e1, ok_bind, e2] at h
        cases h
      | stuck =>
        rw [e1, ok_bind, e2] at h
        cases h
    | err _ _ =>
      rw [e1] at h
      cases h
    | stuck =>
      rw [e1] at h
      cases h
def tupAs (n : Nat) (ag : List D → R As) : D → R As
  | .tup ds => if ds.length = n then ag ds else .stuck
  | _ => .stuck
theorem mg_tup (K : PySem.W.Frag) {ag : List D → R As} {k n : Nat} {g : TGs} (h : MGs X es g ag) (hK : X.K = K := by rfl) (hc : X.calm = true := by rfl) (hn : (assignEach es X.env).length = n := by rfl) (hst : (assignEach es X.env).findIdx? (·.1) = none := by rfl) : MG X (.Tuple es k pos) (gTup K n g) (tupAs n ag) := by
  obtain ⟨pg, sg⟩ := h
  subst hK
  refine ⟨pg_tup hc pg hn hst, fun xc x σ I H d as Q ex r h q => ?_⟩
  cases r with
  | @tup a vs ds hh ra =>
    have h : (if ds.length = n then ag ds else .stuck) = R.ok as := h
    by_cases hl : ds.length = n
    · rw [if_pos hl] at h
      exact ⟨a, vs, rfl, SqT.of (ex _ _ hh), ra.len.trans hl, sg xc vs σ I H ds as Q ex ra h q⟩
    · rw [if_neg hl] at h
      cases h
  | _ => cases h
end
theorem set_of_lt {α : Type} {l : List (Option α)} {i j : Nat} {a b : α} (h : (l.set i (some a))[j]? = some (some b)) : (i = j ∧ a = b) ∨ (i ≠ j ∧ l[j]? = some (some b)) := by
  by_cases e : i = j
  · subst e
    by_cases hl : i < l.length
    · rw [List.getElem?_set_self hl] at h
      exact .inl ⟨rfl, Option.some.inj (Option.some.inj h)⟩
    · rw [List.getElem?_eq_none (by rw [List.length_set]; omega)] at h
      cases h
  · rw [List.getElem?_set_ne e] at h
    exact .inr ⟨e, h⟩
theorem RE.set {K : PySem.W.Frag} {mg : Gm} {I : Hp} {σ : L2.St} {ρ : Env} {i : Nat} {v : V} {d : D} (h : RE K mg I σ ρ) (r : Rep K mg I v d) : RE K mg I (σ.set i (some v)) (ρ.set i (some d)) := ⟨by rw [List.length_set, List.length_set, h.len], fun j e q => by
  have hl := h.len
  rcases set_of_lt q with ⟨rfl, rfl⟩ | ⟨hne, q⟩
  · have hi : i < ρ.length := by
      have := (List.getElem?_eq_some_iff.mp q).1
      rw [List.length_set] at this
      exact this
    exact ⟨v, by rw [List.getElem?_set_self (by omega)], r⟩
  · rw [List.getElem?_set_ne hne]
    exact h.at_ j e q⟩
theorem setS_len (σ : L2.St) : ∀ us : List (Nat × V), (setS σ us).length = σ.length
  | [] => rfl
  | (i, v) :: us => by
    unfold setS
    rw [setS_len _ us, List.length_set]
theorem setE_len (σ : Env) : ∀ us : As, (setE σ us).length = σ.length
  | [] => rfl
  | (i, v) :: us => by
    unfold setE
    rw [setE_len _ us, List.length_set]
theorem RE.setAll {K : PySem.W.Frag} {mg : Gm} {I : Hp} {us : List (Nat × V)} {as : As} {σ : L2.St} {ρ : Env} (ar : AR K mg I us as) (h : RE K mg I σ ρ) : RE K mg I (setS σ us) (setE ρ as) := by
  induction ar generalizing σ ρ with
  | nil => exact h
  | cons r _ ih => exact ih (h.set r)
theorem wipe_setS {vs : List Nat} : ∀ {us : List (Nat × V)} {σ : L2.St}, (∀ p ∈ us, p.1 ∈ vs) → wipe (setS σ us) vs = wipe σ vs
  | [], σ, _ => rfl
  | (i, v) :: us, σ, h => by
    unfold setS
    rw [wipe_setS fun p hp => h p (List.mem_cons_of_mem _ hp)]
    exact wipe_set (h (i, v) List.mem_cons_self)
where
  wipe_set {vs : List Nat} {σ : L2.St} {i : Nat} {o : Option V} (hi : i ∈ vs) : wipe (σ.set i o) vs = wipe σ vs := by
    apply List.ext_getElem?
    intro j
    have key : ∀ (τ : L2.St) (vs : List Nat), (wipe τ vs)[j]? = if j ∈ vs then (if j < τ.length then some none else none) else τ[j]? := fun τ vs => by
      induction vs with
      | nil => simp [wipe]
      | cons v vs ih =>
        unfold wipe
        by_cases e : v = j
        · subst e
          simp only [List.mem_cons_self, if_true]
          by_cases hl : v < τ.length
          · rw [List.getElem?_set_self (by rw [wipe_length]; exact hl), if_pos hl]
          · rw [if_neg hl, List.getElem?_eq_none (by rw [List.length_set, wipe_length]; omega)]
        · rw [List.getElem?_set_ne e, ih]
          have : (j ∈ v :: vs) = (j ∈ vs) := by
            simp only [List.mem_cons, eq_iff_iff]
            exact ⟨fun h => h.elim (fun z => absurd z.symm e) id, .inr⟩
          simp only [this]
    rw [key, key]
    by_cases hj : j ∈ vs
    · rw [if_pos hj, if_pos hj, List.length_set]
    · rw [if_neg hj, if_neg hj, List.getElem?_set_ne (fun e : i = j => hj (by rw [← e]; exact hi))]
def wipeE (ρ : Env) : List Nat → Env
  | [] => ρ
  | v :: vs => (wipeE ρ vs).set v none
theorem wipeE_len (ρ : Env) : ∀ vs : List Nat, (wipeE ρ vs).length = ρ.length
  | [] => rfl
  | v :: vs => by unfold wipeE; rw [List.length_set, wipeE_len ρ vs]
theorem RE.wipe {K : PySem.W.Frag} {mg : Gm} {I : Hp} {σ : L2.St} {ρ : Env} (h : RE K mg I σ ρ) (vs : List Nat) : RE K mg I (L2.wipe σ vs) (wipeE ρ vs) := by
  induction vs with
  | nil => exact h
  | cons v vs ih =>
    refine ⟨by rw [wipe_length, wipeE_len, h.len], fun i d q => ?_⟩
    unfold wipeE at q
    unfold L2.wipe
    by_cases e : v = i
    · subst e
      by_cases hl : v < (wipeE ρ vs).length
      · rw [List.getElem?_set_self hl] at q
        cases q
      · rw [List.getElem?_eq_none (by rw [List.length_set]; omega)] at q
        cases q
    · rw [List.getElem?_set_ne e] at q
      rw [List.getElem?_set_ne e]
      exact ih.at_ i d q
end DL
namespace DL
open PySem PySem.Spec L2

/-- where the stored slots lie -/
def AgIn (ag : D → R As) (P : Nat → Prop) : Prop := ∀ d as, ag d = .ok as → ∀ p ∈ as, P p.1
/-! ### comprehensions -/
theorem wipe_at (τ : L2.St) (j : Nat) : ∀ vs : List Nat, (wipe τ vs)[j]? = if j ∈ vs then (if j < τ.length then some none else none) else τ[j]? := fun vs => by
  induction vs with
  | nil => simp [wipe]
  | cons v vs ih =>
    unfold wipe
    by_cases e : v = j
    · subst e
      simp only [List.mem_cons_self, if_true]
      by_cases hl : v < τ.length
      · rw [List.getElem?_set_self (by rw [wipe_length]; exact hl), if_pos hl]
      · rw [if_neg hl, List.getElem?_eq_none (by rw [List.length_set, wipe_length]; omega)]
    · rw [List.getElem?_set_ne e, ih]
      have : (j ∈ v :: vs) = (j ∈ vs) := by
        simp only [List.mem_cons, eq_iff_iff]
        exact ⟨fun h => h.elim (fun z => absurd z.symm e) id, .inr⟩
      simp only [this]
theorem wipe_wipe (σ : L2.St) (vs : List Nat) : wipe (wipe σ vs) vs = wipe σ vs := by
  apply List.ext_getElem?
  intro j
  rw [wipe_at (wipe σ vs) j vs, wipe_at σ j vs, wipe_length]
  by_cases hj : j ∈ vs
  · rw [if_pos hj, if_pos hj]
  · rw [if_neg hj, if_neg hj]
def lcGo (ag : D → R As) (mt : Env → R Bool) (me : Env → R D) (ρ : Env) : List D → R (List D)
  | [] => .ok []
  | d :: ds => calm (ag d) >>= fun as => calm (mt (setE ρ as)) >>= fun b => if b = true then calm (me (setE ρ as)) >>= fun y => lcGo ag mt me ρ ds >>= fun r => .ok (y :: r) else lcGo ag mt me ρ ds
def lcM (vs : List Nat) (mi : Env → R (List D)) (ag : D → R As) (mt : Env → R Bool) (me : Env → R D) : Env → R D :=
  fun ρ => mi ρ >>= fun ds => if ds.length ≤ LIM then (calm (lcGo ag mt me (wipeE ρ vs) ds) >>= fun r => .ok (.lst r)) else .stuck
theorem bind_ok {α β : Type} {r : R α} {f : α → R β} {b : β} (h : (r >>= f) = .ok b) : ∃ a, r = .ok a ∧ f a = .ok b := by
  cases r with
  | ok a => exact ⟨a, rfl, h⟩
  | err _ _ => cases h
  | stuck => cases h
/-- the accumulated list ahead of a turn -/
structure LcAt (K : PySem.W.Frag) (mg : Gm) (I1 H1 : Hp) (D0 : Addr) (n : Nat) (accD : List D) (I2 H : Hp) : Prop where
  i : Same I1 I2
  e : Same I2 H
  z : I2 D0 = none
  h : Same H1 H
  f : ∀ a o, I2 a = some o → I1 a = some o ∨ Fr H1 a o
  l : ∃ vs, H D0 = some (.lst vs) ∧ Reps K mg I2 vs accD ∧ vs.length ≤ n
section
variable {K : PySem.W.Frag} {mg : Gm} {I1 H1 I2 H I3 H3 : Hp} {D0 : Addr} {n : Nat} {accD : List D} {y : V} {d : D}
theorem LcAt.start (ex : Same I1 H1) (hD : H1 D0 = none) : LcAt K mg I1 H1 D0 0 [] I1 (upd H1 D0 (.lst [])) :=
  ⟨.refl _, (Stp.side ex hD).e, ex.free hD, (Stp.side ex hD).h, fun _ _ h => .inl h, [], upd_same, .nil, Nat.le_refl _⟩
theorem LcAt.step (p : LcAt K mg I1 H1 D0 n accD I2 H) (s : Stp I2 H I3 H3) : LcAt K mg I1 H1 D0 n accD I3 H3 := by
  obtain ⟨vs, h1, h2, h3⟩ := p.l
  refine ⟨p.i.trans s.i, s.e, ?_, p.h.trans s.h, fun a o h => ?_, vs, s.h _ _ h1, h2.mono s.i, h3⟩
  · cases q : I3 D0 with
    | none => rfl
    | some o =>
      rcases s.f _ _ q with z | z | z
      · rw [p.z] at z
        cases z
      · rw [h1] at z
        cases z
      · have y := s.e _ _ q
        rw [s.h _ _ h1] at y
        cases y
        exact z.elim
  · rcases s.f a o h with z | z | z
    · exact p.f a o z
    · exact .inr (.inl (p.h.free z))
    · exact .inr (.inr z)
theorem LcAt.push (p : LcAt K mg I1 H1 D0 n accD I2 H) (hD : H1 D0 = none) (r : Rep K mg I2 y d) (hn : n < LIM) : ∃ acc, H D0 = some (.lst acc) ∧ acc.length < sizeLine ∧ LcAt K mg I1 H1 D0 (n + 1) (accD ++ [d]) I2 (upd H D0 (.lst (acc ++ [y]))) := by
  obtain ⟨vs, h1, h2, h3⟩ := p.l
  refine ⟨vs, h1, lim_lt (by omega), p.i, fun a o q => ?_, p.z, fun a o q => ?_, p.f, vs ++ [y], upd_same, h2.app (.cons r .nil), by rw [List.length_append, List.length_singleton]; omega⟩
  · rw [upd_ne (ne_of_none q p.z)]
    exact p.e _ _ q
  · rw [upd_ne (ne_of_none q hD)]
    exact p.h _ _ q
theorem LcAt.skip (p : LcAt K mg I1 H1 D0 n accD I2 H) : LcAt K mg I1 H1 D0 (n + 1) accD I2 H := by
  obtain ⟨vs, h1, h2, h3⟩ := p.l
  exact ⟨p.i, p.e, p.z, p.h, p.f, vs, h1, h2, by omega⟩
theorem LcAt.done (p : LcAt K mg I1 H1 D0 n accD I2 H) (hD : H1 D0 = none) : ∃ I', Stp I1 H1 I' H ∧ Rep K mg I' (.ref D0) (.lst accD) := by
  obtain ⟨vs, h1, h2, h3⟩ := p.l
  have k : Same I2 (upd I2 D0 (.lst vs)) := fun a o q => by
    rw [upd_ne (ne_of_none q p.z)]
    exact q
  refine ⟨upd I2 D0 (.lst vs), ⟨p.i.trans k, p.h, fun a o q => ?_, fun a o q => ?_⟩, .lst upd_same (h2.mono k)⟩
  · by_cases e : a = D0
    · subst e
      rw [upd_same] at q
      rw [h1]
      exact q
    · rw [upd_ne e] at q
      exact p.e _ _ q
  · by_cases e : a = D0
    · subst e
      exact .inr (.inl hD)
    · rw [upd_ne e] at q
      exact p.f _ _ q
end
section
variable {X : Cx} {E : Wh} {elt tg iter : Expr} {ifs : List Expr} {scope : Scope} {own : List (Str × Nat)} {pos : Pos} {wi : TI} {g : TG} {tt : TT} {te : TE} {mi : Env → R (List D)} {ag : D → R As} {mt : Env → R Bool} {me : Env → R D}
theorem lc_core {K : PySem.W.Frag} {mg : Gm} {E1 : XK} {vs : List Nat} {σ : L2.St} {ρ : Env} {I1 H1 : Hp} {ds : List D} {J : It} {Q : VK} (sg : SnG K mg g ag) (st : Sn K mg (fun _ => E0) rB tt mt) (se : Sn K mg (fun _ => E0) (Rep K mg) te me) (hv : ∀ d as, ag d = .ok as → ∀ p ∈ as, p.1 ∈ vs) (re : RE K mg I1 σ ρ) (ex : Same I1 H1) (it : ItOk K mg I1 J ds)
    (h : Out K mg E1 (Rep K mg) I1 H1 (if ds.length ≤ LIM then (calm (lcGo ag mt me (wipeE ρ vs) ds) >>= fun r => .ok (.lst r)) else .stuck) Q) : tLc (fun _ H R => R J H) g tt te vs σ H1 Q := by
  intro D0 hD
  obtain ⟨hl, h⟩ := out_if h
  cases eo : lcGo ag mt me (wipeE ρ vs) ds with
  | err _ _ =>
    rw [eo] at h
    exact h.elim
  | stuck =>
    rw [eo] at h
    exact h.elim
  | ok out =>
    rw [eo] at h
    refine ⟨fun i m H => m = ds.length - i ∧ i ≤ ds.length ∧ ∃ I2 accD r, LcAt K mg I1 H1 D0 i accD I2 H ∧ lcGo ag mt me (wipeE ρ vs) (ds.drop i) = .ok r ∧ accD ++ r = out, ⟨ds.length, by simp, Nat.zero_le _, I1, [], out, .start ex hD, eo, rfl⟩, ?_⟩
    rintro i m H2 ⟨rfl, hi, I2, accD, r, p, hr, ho⟩
    have hit := it I2 H2 p.i p.e
    by_cases hlt : i < ds.length
    · have hd : ds[i]? = some ds[i] := List.getElem?_eq_getElem hlt
      obtain ⟨hgo, hy⟩ := hit.1 i _ hd
      refine .inr ⟨hgo, fun H' => ∃ I2 accD r, LcAt K mg I1 H1 D0 (i + 1) accD I2 H' ∧ lcGo ag mt me (wipeE ρ vs) (ds.drop (i + 1)) = .ok r ∧ accD ++ r = out, fun H' hN => ⟨ds.length - (i + 1), by omega, rfl, hlt, hN⟩, fun x H' y => ?_⟩
      obtain ⟨I3, s3, rx⟩ := hy x H' y
      rw [List.drop_eq_getElem_cons hlt] at hr
      unfold lcGo at hr
      obtain ⟨as, ha, hr⟩ := bind_ok hr
      have ha := calm_of ha
      obtain ⟨b, hb, hr⟩ := bind_ok hr
      have hb := calm_of hb
      refine sg x _ I3 H' _ as _ s3.e rx ha fun us ar => ?_
      have hus : ∀ p ∈ us, p.1 ∈ vs := fun p hp => by
        have hm : p.1 ∈ as.map (·.1) := by
          rw [← ar.slots]
          exact List.mem_map_of_mem hp
        obtain ⟨q, hq, e⟩ := List.mem_map.mp hm
        rw [← e]
        exact hv _ _ ha q hq
      refine ⟨by rw [wipe_setS hus, wipe_wipe], ?_⟩
      have re3 : RE K mg I3 (setS (wipe σ vs) us) (setE (wipeE ρ vs) as) := RE.setAll ar ((re.mono (p.i.trans s3.i)).wipe vs)
      have p3 := p.step s3
      refine st _ I3 H' _ _ re3 s3.e ?_
      rw [hb]
      intro b' I4 H4 s4 eb
      have eb : b' = b := eb
      subst eb
      have p4 := p3.step s4
      cases b' with
      | true =>
        show te _ H4 _
        rw [if_pos rfl] at hr
        obtain ⟨yd, hyd, hr⟩ := bind_ok hr
        have hyd := calm_of hyd
        obtain ⟨r', hr', hr⟩ := bind_ok hr
        cases hr
        refine se _ I4 H4 _ _ (re3.mono s4.i) s4.e ?_
        rw [hyd]
        intro yv I5 H5 s5 ry
        obtain ⟨acc, h1, h2, p5⟩ := (p4.step s5).push hD ry (by omega)
        exact ⟨acc, h1, h2, I5, _, r', p5, hr', by rw [List.append_assoc]; exact ho⟩
      | false =>
        rw [if_neg (by decide)] at hr
        exact ⟨I4, accD, r, p4.skip, hr, ho⟩
    · have e : i = ds.length := by omega
      subst e
      rw [List.drop_length] at hr
      cases hr
      obtain ⟨I', s', r'⟩ := p.done hD
      rw [List.append_nil] at ho
      subst ho
      exact .inl ⟨hit.2, h.there s' r'⟩
theorem lc_snd {K : PySem.W.Frag} {mg : Gm} {vs : List Nat} (si : Sn K mg E.e (ItOk K mg) wi mi) (sg : SnG K mg g ag) (st : Sn K mg (fun _ => E0) rB tt mt) (se : Sn K mg (fun _ => E0) (Rep K mg) te me) (hv : ∀ d as, ag d = .ok as → ∀ p ∈ as, p.1 ∈ vs) :
    Sn K mg E.e (Rep K mg) (tLc wi g tt te vs) (lcM vs mi ag mt me) := fun σ I H ρ Q re ex h => by
  refine si.run re ex h fun ds J I1 H1 _ s1 it h => ?_
  exact lc_core sg st se hv (re.mono s1.i) s1.e it h
theorem me_lc (hc : X.calm = true) (hN : X.N.Nodup) (hi : MI X E tg iter wi mi) (ok : BlkOk X.N X.env.scope scope own)
    (hg : ∀ (s : Shared) (H : Hp) (C : Addr) (cl : List (Str × Addr)) (fp : List Addr), MG (X.blk s H scope (compEnvC scope cl C X.env) fp) tg g ag) (ht : ∀ (s : Shared) (H : Hp) (C : Addr) (cl : List (Str × Addr)) (fp : List Addr), MTs (X.blk s H scope (compEnvC scope cl C X.env) fp) E.calm ifs tt mt)
    (he : ∀ (s : Shared) (H : Hp) (C : Addr) (cl : List (Str × Addr)) (fp : List Addr), ME (X.blk s H scope (compEnvC scope cl C X.env) fp) E.calm elt te me) (hv : AgIn ag (· ∈ own.map (·.2))) (hs : ∀ x, foldedSetIterable iter X.env x = pure x := by intro _; rfl) :
    ME X E (.ListComp elt [⟨tg, iter, ifs, 0⟩] scope pos) (tLc wi g tt te (own.map (·.2))) (lcM (own.map (·.2)) mi ag mt me) :=
  ⟨pe_lc hc hN hi.pe ok (fun s H C cl fp => (hg s H C cl fp).pe) (fun s H C cl fp => (ht s H C cl fp).pe) (fun s H C cl fp => (he s H C cl fp).pe) hs,
    lc_snd hi.sn ((hg X.s_0 X.H_0 0 [] []).sn _) (ht X.s_0 X.H_0 0 [] []).sn (he X.s_0 X.H_0 0 [] []).sn hv⟩
end
end DL
namespace DL
open PySem PySem.Spec L2

/-! ### statements -/
inductive Fl where
  | nx (ρ : Env) | rt (d : D) | bk (ρ : Env) | ct (ρ : Env) | rf (ds : List D)
/-- a thing of one's own and what it is as data -/
inductive OwnR (K : PySem.W.Frag) (mg : Gm) (I : Hp) : HO → D → Prop
  | lst {vs : List V} {ds : List D} : Reps K mg I vs ds → OwnR K mg I (.lst vs) (.lst ds)
  | dk {kvs : List (Key × V)} {ds : List D} : Reps K mg I (kvs.map (·.2)) ds → OwnR K mg I (.dK kvs) (.dk (kvs.map (·.1)) ds)
  | dt {kvs : List (List Key × V)} {ds : List D} : Reps K mg I (kvs.map (·.2)) ds → OwnR K mg I (.dT kvs) (.dt (kvs.map (·.1)) ds)
  | ins {C dx : Addr} {n : Str} {fs : List (Str × V)} {ds : List D} : mg n = some (.ref C) → Reps K mg I (fs.map (·.2)) ds → OwnR K mg I (.ins C dx fs) (.obj n (fs.map (·.1)) ds)
theorem OwnR.mono {K : PySem.W.Frag} {mg : Gm} {I I' : Hp} (e : Same I I') {o : HO} {d : D} (h : OwnR K mg I o d) : OwnR K mg I' o d := by
  cases h with
  | lst r => exact .lst (r.mono e)
  | dk r => exact .dk (r.mono e)
  | dt r => exact .dt (r.mono e)
  | ins c r => exact .ins c (r.mono e)
theorem OwnR.noTup {K : PySem.W.Frag} {mg : Gm} {I : Hp} {o : HO} {d : D} (h : OwnR K mg I o d) : ¬ TupO o := fun t => by
  cases h <;> exact t
theorem OwnR.rep {K : PySem.W.Frag} {mg : Gm} {I : Hp} {o : HO} {d : D} {p : Addr} (h : OwnR K mg I o d) (hp : I p = some o) : Rep K mg I (.ref p) d := by
  cases h with
  | lst r => exact .lst hp r
  | dk r => exact .dk (.inl hp) r
  | dt r => exact .dt (.inl hp) r
  | ins c r => exact .obj hp c r
/-! ### what may be kept although things of one's own were read: data in which nothing is of their kind -/
def D.kind : D → Nat
  | .lst _ => 0
  | .dk _ _ => 1
  | .dt _ _ => 2
  | .obj _ _ _ => 3
  | _ => 4
mutual
def D.has (k : Nat) : D → Bool
  | .lst ds => k == 0 || D.hasAny k ds
  | .tup ds => D.hasAny k ds
  | .scr _ => k == 0
  | .obj _ _ ds => k == 3 || D.hasAny k ds
  | .dk _ ds => k == 1 || D.hasAny k ds
  | .dt _ ds => k == 2 || D.hasAny k ds
  | .exc _ _ ds => D.hasAny k ds
  | _ => false
def D.hasAny (k : Nat) : List D → Bool
  | [] => false
  | d :: ds => D.has k d || D.hasAny k ds
end
/-- the slot's thing holds lists of one's own: it stands twice -/
def deep (M : List Nat) (i : Nat) : Bool := decide (2 ≤ M.count i)
def keepOk (M : List Nat) (ρ : Env) (d : D) : Bool := M.all fun i => match ρ[i]? with
  | some (some d0) => !(d.has d0.kind) && (!(deep M i) || !(d.has 0))
  | _ => true
/-- an object of the heap of that kind -/
def HO.kd : HO → Nat
  | .lst _ => 0
  | .dK _ => 1
  | .dT _ => 2
  | .ins _ _ _ => 3
  | _ => 4
theorem OwnR.kd4 {K : PySem.W.Frag} {mg : Gm} {I : Hp} {o : HO} {d : D} (h : OwnR K mg I o d) : HO.kd o < 4 := by
  cases h with
  | lst _ => exact (by decide : 0 < 4)
  | dk _ => exact (by decide : 1 < 4)
  | dt _ => exact (by decide : 2 < 4)
  | ins _ _ => exact (by decide : 3 < 4)
theorem OwnR.kd {K : PySem.W.Frag} {mg : Gm} {I : Hp} {o : HO} {d : D} (h : OwnR K mg I o d) : HO.kd o = d.kind := by
  cases h <;> rfl
/-- the things that a thing holds -/
def hvals : HO → List V
  | .lst vs => vs
  | .dK kvs => kvs.map (·.2)
  | .dT kvs => kvs.map (·.2)
  | _ => []
/-- a list of one's own within a thing of one's own -/
def Kid (K : PySem.W.Frag) (mg : Gm) (I He H : Hp) (v : V) (d : D) : Prop := ∃ q ws es, v = .ref q ∧ d = .lst es ∧ I q = none ∧ He q = none ∧ H q = some (.lst ws) ∧ Reps K mg I ws es
inductive Kids (K : PySem.W.Frag) (mg : Gm) (I He H : Hp) : List V → List D → Prop
  | nil : Kids K mg I He H [] []
  | cons {v : V} {d : D} {vs : List V} {ds : List D} : Kid K mg I He H v d → Kids K mg I He H vs ds → Kids K mg I He H (v :: vs) (d :: ds)
inductive OwnD (K : PySem.W.Frag) (mg : Gm) (I He H : Hp) : HO → D → Prop
  | lst {vs : List V} {ds : List D} : Kids K mg I He H vs ds → OwnD K mg I He H (.lst vs) (.lst ds)
  | dk {kvs : List (Key × V)} {ds : List D} : Kids K mg I He H (kvs.map (·.2)) ds → OwnD K mg I He H (.dK kvs) (.dk (kvs.map (·.1)) ds)
  | dt {kvs : List (List Key × V)} {ds : List D} : Kids K mg I He H (kvs.map (·.2)) ds → OwnD K mg I He H (.dT kvs) (.dt (kvs.map (·.1)) ds)
def OwnX (K : PySem.W.Frag) (mg : Gm) (M : List Nat) (i : Nat) (I He H : Hp) (p : Addr) (o : HO) (d : D) : Prop := if deep M i = true then OwnD K mg I He H o d ∧ (hvals o).Nodup ∧ V.ref p ∉ (hvals o) else OwnR K mg I o d
/-- the addresses that are the slot's own -/
abbrev ownA (M : List Nat) (H : Hp) (i : Nat) (p a : Addr) : Prop := a = p ∨ (deep M i = true ∧ ∃ o, H p = some o ∧ V.ref a ∈ (hvals o))
/-- the slots of M hold lists of the def's own that nothing else holds; all other data lie in I, which is never changed -/
structure SE (K : PySem.W.Frag) (mg : Gm) (M : List Nat) (Ie : Hp × Addr) (He : Hp) (σ : L2.St) (I H : Hp) (ρ : Env) : Prop where
  st : Stp Ie.1 He I H
  len : σ.length = ρ.length
  imm : ∀ (i : Nat) (d : D), i ∉ M → ρ[i]? = some (some d) → ∃ v, σ[i]? = some (some v) ∧ Rep K mg I v d
  own_ : ∀ (i : Nat) (d : D), i ∈ M → ρ[i]? = some (some d) → ∃ p o, σ[i]? = some (some (.ref p)) ∧ I p = none ∧ He p = none ∧ H p = some o ∧ OwnX K mg M i I He H p o d
  dis : ∀ (i j : Nat) (p p' : Addr) (d e : D), i ∈ M → j ∈ M → i ≠ j → ρ[i]? = some (some d) → ρ[j]? = some (some e) → σ[i]? = some (some (.ref p)) → σ[j]? = some (some (.ref p')) → ∀ a, ownA M H i p a → ownA M H j p' a → False
  /-- an own object is the one that is being made -/
  slf : ∀ (i : Nat) (d : D) (p : Addr), i ∈ M → ρ[i]? = some (some d) → σ[i]? = some (some (.ref p)) → d.kind = 3 → p = Ie.2
/-- I0: what the data lay in at the start -/
def OutS (K : PySem.W.Frag) (mg : Gm) (E : XK) (Mb M : List Nat) (Ie : Hp × Addr) (He I0 : Hp) (D : Ends) (r : R Fl) : Prop := match r with
  | .ok (.nx ρ) => ∀ σ I H, SE K mg M Ie He σ I H ρ → Same I0 I → D.nx σ H
  | .ok (.bk ρ) => ∀ σ I H, SE K mg Mb Ie He σ I H ρ → Same I0 I → D.bk σ H
  | .ok (.ct ρ) => ∀ σ I H, SE K mg Mb Ie He σ I H ρ → Same I0 I → D.ct σ H
  | .ok (.rt d) => ∀ v I H, Stp Ie.1 He I H → Rep K mg I v d → D.rt v H
  | .ok (.rf ds) => ∀ p vs I H, Stp Ie.1 He I H → I p = none → He p = none → H p = some (.lst vs) → Reps K mg I vs ds → D.rt (.ref p) H
  | .err nm ds => ∀ C od I H, Stp Ie.1 He I H → XRep K mg I H nm ds C od → E C od H
  | .stuck => False
def SnS (K : PySem.W.Frag) (mg : Gm) (E : XK) (Mb M M' : List Nat) (ts : TS) (ms : Env → R Fl) : Prop :=
  ∀ (Ie : Hp × Addr) (He : Hp) (σ : L2.St) (I H : Hp) (ρ : Env) (D : Ends), SE K mg M Ie He σ I H ρ → OutS K mg E Mb M' Ie He I D (ms ρ) → ts D σ H
structure MS (X : Cx) (E : XK) (Mb M M' : List Nat) (s : Stmt) (ts : TS) (ms : Env → R Fl) : Prop where
  pe : PS X s ts
  sn : SnS X.K (g0 X.mg) E Mb M M' ts ms
structure MSs (X : Cx) (E : XK) (Mb M M' : List Nat) (s : List Stmt) (ts : TS) (ms : Env → R Fl) : Prop where
  pe : PSs X s ts
  sn : SnS X.K (g0 X.mg) E Mb M M' ts ms

section
variable {K : PySem.W.Frag} {mg : Gm} {E : XK} {Mb M M' : List Nat} {Ie : Hp × Addr} {He I H I' H' : Hp} {σ : L2.St} {ρ : Env} {v : V} {d : D} {vs0 : List V}
theorem wipeE_at (τ : Env) (j : Nat) : ∀ vs : List Nat, (wipeE τ vs)[j]? = if j ∈ vs then (if j < τ.length then some none else none) else τ[j]? := fun vs => by
  induction vs with
  | nil => simp [wipeE]
  | cons v vs ih =>
    unfold wipeE
    by_cases e : v = j
    · subst e
      simp only [List.mem_cons_self, if_true]
      by_cases hl : v < τ.length
      · rw [List.getElem?_set_self (by rw [wipeE_len]; exact hl), if_pos hl]
      · rw [if_neg hl, List.getElem?_eq_none (by rw [List.length_set, wipeE_len]; omega)]
    · rw [List.getElem?_set_ne e, ih]
      have : (j ∈ v :: vs) = (j ∈ vs) := by
        simp only [List.mem_cons, eq_iff_iff]
        exact ⟨fun h => h.elim (fun z => absurd z.symm e) id, .inr⟩
      simp only [this]
theorem wipeE_some {τ : Env} {j : Nat} {vs : List Nat} {d : D} (h : (wipeE τ vs)[j]? = some (some d)) : j ∉ vs ∧ τ[j]? = some (some d) := by
  rw [wipeE_at] at h
  by_cases hj : j ∈ vs
  · rw [if_pos hj] at h
    split at h <;> cases h
  · rw [if_neg hj] at h
    exact ⟨hj, h⟩
/-- what the slots beside M hold -/
theorem SE.re (s : SE K mg M Ie He σ I H ρ) : RE K mg I σ (wipeE ρ M) := ⟨by rw [wipeE_len]; exact s.len, fun i d q => by
  obtain ⟨h1, h2⟩ := wipeE_some q
  exact s.imm i d h1 h2⟩
theorem Kid.step (h : Kid K mg I He H v d) (t : Stp I H I' H') : Kid K mg I' He H' v d := by
  obtain ⟨q, ws, es, h1, h2, h3, h4, h5, h6⟩ := h
  refine ⟨q, ws, es, h1, h2, ?_, h4, t.h _ _ h5, h6.mono t.i⟩
  cases z : I' q with
  | none => rfl
  | some o =>
    rcases t.f _ _ z with y | y | y
    · rw [h3] at y
      cases y
    · rw [h5] at y
      cases y
    · have w := t.e _ _ z
      rw [t.h _ _ h5] at w
      cases w
      exact y.elim
theorem Kids.step (t : Stp I H I' H') : ∀ {vs : List V} {ds : List D}, Kids K mg I He H vs ds → Kids K mg I' He H' vs ds
  | _, _, .nil => .nil
  | _, _, .cons h r => .cons (h.step t) (Kids.step t r)
theorem OwnD.step {o : HO} {d : D} (h : OwnD K mg I He H o d) (t : Stp I H I' H') : OwnD K mg I' He H' o d := by
  cases h with
  | lst r => exact .lst (r.step t)
  | dk r => exact .dk (r.step t)
  | dt r => exact .dt (r.step t)
theorem OwnX.of {i : Nat} {p : Addr} {o : HO} {d : D} (h : OwnX K mg M i I He H p o d) (hd : deep M i = false) : OwnR K mg I o d := by
  unfold OwnX at h
  rw [hd] at h
  exact h
theorem OwnX.mk {i : Nat} {p : Addr} {o : HO} {d : D} (h : OwnR K mg I o d) (hd : deep M i = false) : OwnX K mg M i I He H p o d := by
  unfold OwnX
  rw [hd]
  exact h
theorem OwnX.ofD {i : Nat} {p : Addr} {o : HO} {d : D} (h : OwnX K mg M i I He H p o d) (hd : deep M i = true) : OwnD K mg I He H o d ∧ (hvals o).Nodup ∧ V.ref p ∉ (hvals o) := by
  unfold OwnX at h
  rw [if_pos hd] at h
  exact h
theorem OwnX.mkD {i : Nat} {p : Addr} {o : HO} {d : D} (h : OwnD K mg I He H o d ∧ (hvals o).Nodup ∧ V.ref p ∉ (hvals o)) (hd : deep M i = true) : OwnX K mg M i I He H p o d := by
  unfold OwnX
  rw [if_pos hd]
  exact h
theorem OwnX.noTup {i : Nat} {p : Addr} {o : HO} {d : D} (h : OwnX K mg M i I He H p o d) : ¬ TupO o := by
  cases hd : deep M i with
  | false => exact (h.of hd).noTup
  | true =>
    have h := (h.ofD hd).1
    intro y
    cases h <;> exact y
theorem OwnX.step {i : Nat} {p : Addr} {o : HO} {d : D} (h : OwnX K mg M i I He H p o d) (t : Stp I H I' H') : OwnX K mg M i I' He H' p o d := by
  cases hd : deep M i with
  | false => exact .mk ((h.of hd).mono t.i) hd
  | true =>
    obtain ⟨h1, h2, h3⟩ := h.ofD hd
    exact .mkD ⟨h1.step t, h2, h3⟩ hd
/-- which addresses are one's own does not change by a step -/
theorem ownA.step {i : Nat} {p a : Addr} {o : HO} (hp : H p = some o) (t : Same H H') (h : ownA M H' i p a) : ownA M H i p a := by
  rcases h with h | ⟨hd, o', ho, hm⟩
  · exact .inl h
  · rw [t _ _ hp] at ho
    cases ho
    exact .inr ⟨hd, o, hp, hm⟩
/-- nothing that stood is changed: the slots stand -/
theorem SE.step (s : SE K mg M Ie He σ I H ρ) (t : Stp I H I' H') : SE K mg M Ie He σ I' H' ρ where
  st := s.st.trans t
  len := s.len
  imm := fun i d hi q => by
    obtain ⟨v, a, b⟩ := s.imm i d hi q
    exact ⟨v, a, b.mono t.i⟩
  own_ := fun i d hi q => by
    obtain ⟨p, o, h2, h3, h4, h5, h6⟩ := s.own_ i d hi q
    refine ⟨p, o, h2, ?_, h4, t.h _ _ h5, h6.step t⟩
    cases z : I' p with
    | none => rfl
    | some o =>
      rcases t.f _ _ z with y | y | y
      · rw [h3] at y
        cases y
      · rw [h5] at y
        cases y
      · have w := t.e _ _ z
        rw [t.h _ _ h5] at w
        cases w
        exact (h6.noTup y).elim
  dis := fun i j p p' d e hi hj hne q1 q2 g1 g2 a a1 a2 => by
    obtain ⟨p1, o1, h2, _, _, h5, _⟩ := s.own_ i d hi q1
    obtain ⟨p2, o2, k2, _, _, k5, _⟩ := s.own_ j e hj q2
    rw [g1] at h2
    cases h2
    rw [g2] at k2
    cases k2
    exact s.dis i j p p' d e hi hj hne q1 q2 g1 g2 a (a1.step h5 t.h) (a2.step k5 t.h)
  slf := s.slf
theorem count_cons_ne {i j : Nat} (h : i ≠ j) : (i :: M).count j = M.count j := List.count_cons_of_ne (by simpa using h)
theorem deep_cons_ne {i j : Nat} (h : i ≠ j) : deep (i :: M) j = deep M j := by
  unfold deep
  rw [count_cons_ne h]
theorem deep_cons {i : Nat} (h : i ∈ M) : deep (i :: M) i = true := by
  unfold deep
  rw [List.count_cons_self]
  have := List.count_pos_iff.mpr h
  exact decide_eq_true (by omega)
theorem deep_not {i : Nat} (h : i ∉ M) : deep (i :: M) i = false := by
  unfold deep
  rw [List.count_cons_self, List.count_eq_zero_of_not_mem h]
  rfl
theorem Kids.at_ : ∀ {vs : List V} {ds : List D} {v : V}, Kids K mg I He H vs ds → v ∈ vs → ∃ d, Kid K mg I He H v d
  | _, _, _, .nil, h => by simp at h
  | _, _, v, .cons k r, h => by
    rcases List.mem_cons.mp h with rfl | h
    · exact ⟨_, k⟩
    · exact Kids.at_ r h
theorem OwnD.kids {o : HO} {d : D} (h : OwnD K mg I He H o d) {v : V} (hv : v ∈ (hvals o)) : ∃ d, Kid K mg I He H v d := by
  cases h with
  | lst r => exact r.at_ hv
  | dk r => exact r.at_ hv
  | dt r => exact r.at_ hv
theorem OwnD.kd {o : HO} {d : D} (h : OwnD K mg I He H o d) : HO.kd o = d.kind ∧ HO.kd o < 4 := by
  cases h with
  | lst _ => exact ⟨rfl, by show 0 < 4; decide⟩
  | dk _ => exact ⟨rfl, by show 1 < 4; decide⟩
  | dt _ => exact ⟨rfl, by show 2 < 4; decide⟩
/-- the lists within lie in I -/
theorem Kids.reps (hs : Same I I') (hk : ∀ q, V.ref q ∈ (vs0 : List V) → I' q = H q) : ∀ {vs : List V} {ds : List D}, (∀ v ∈ vs, v ∈ vs0) → Kids K mg I He H vs ds → Reps K mg I' vs ds
  | _, _, _, .nil => .nil
  | _, _, hm, .cons k r => by
    obtain ⟨q, ws, es, rfl, rfl, h3, h4, h5, h6⟩ := k
    refine .cons (.lst ((hk q (hm _ List.mem_cons_self)).trans h5) (h6.mono hs)) (Kids.reps hs hk (fun v hv => hm v (List.mem_cons_of_mem _ hv)) r)
theorem OwnD.flat {o : HO} {d : D} (h : OwnD K mg I He H o d) (hs : Same I I') (hk : ∀ q, V.ref q ∈ (hvals o) → I' q = H q) : OwnR K mg I' o d := by
  cases h with
  | lst r => exact .lst (r.reps hs hk fun _ h => h)
  | dk r => exact .dk (r.reps hs hk fun _ h => h)
  | dt r => exact .dt (r.reps hs hk fun _ h => h)
theorem OwnX.other {i : Nat} {p : Addr} {o : HO} {d : D} (h : OwnX K mg M i I He H p o d) (hp : H p = some o) (hs : Same I I') (hn : ∀ a, ownA M H i p a → I' a = none) : OwnX K mg M i I' He H p o d := by
  cases hd : deep M i with
  | false => exact .mk ((h.of hd).mono hs) hd
  | true =>
    obtain ⟨h1, h2, h3⟩ := h.ofD hd
    have kk : ∀ {vs : List V} {ds : List D}, (∀ v ∈ vs, v ∈ (hvals o)) → Kids K mg I He H vs ds → Kids K mg I' He H vs ds := by
      intro vs ds hm k
      induction k with
      | nil => exact .nil
      | cons k r ih =>
        obtain ⟨q, ws, es, rfl, rfl, g3, g4, g5, g6⟩ := k
        exact .cons ⟨q, ws, es, rfl, rfl, hn q (.inr ⟨hd, o, hp, hm _ List.mem_cons_self⟩), g4, g5, g6.mono hs⟩ (ih fun v hv => hm v (List.mem_cons_of_mem _ hv))
    refine .mkD ⟨?_, h2, h3⟩ hd
    cases h1 with
    | lst r => exact .lst (kk (fun _ h => h) r)
    | dk r => exact .dk (kk (fun _ h => h) r)
    | dt r => exact .dt (kk (fun _ h => h) r)
theorem OwnX.cons {i j : Nat} {p : Addr} {o : HO} {d : D} (h : OwnX K mg (i :: M) j I He H p o d) (hne : i ≠ j) : OwnX K mg M j I He H p o d := by
  unfold OwnX at h ⊢
  rw [deep_cons_ne hne] at h
  exact h
theorem ownA.cons {i j : Nat} {p a : Addr} (h : ownA M H j p a) : ownA (i :: M) H j p a := by
  rcases h with h | ⟨hd, h⟩
  · exact .inl h
  · refine .inr ⟨?_, h⟩
    unfold deep at hd ⊢
    have := of_decide_eq_true hd
    refine decide_eq_true (Nat.le_trans this ?_)
    rw [List.count_cons]
    exact Nat.le_add_right _ _
/-- what is new in I when a slot is changed no more -/
def Nw (M : List Nat) (ρ : Env) (i : Nat) (o : HO) : Prop := ∃ d, ρ[i]? = some (some d) ∧ (HO.kd o = d.kind ∨ (deep M i = true ∧ HO.kd o = 0)) ∧ HO.kd o < 4
/-- a thing of one's own is changed no more (of one that holds lists of one's own: these are changed no more) -/
theorem SE.freeze2 (i : Nat) (s : SE K mg (i :: M) Ie He σ I H ρ) : ∃ I', Same I I' ∧ SE K mg M Ie He σ I' H ρ ∧ ∀ a o, I' a = some o → I a = some o ∨ Nw (i :: M) ρ i o := by
  cases q0 : (ρ : List (Option D))[i]? with
  | none =>
    have ne : ∀ j d, (ρ : List (Option D))[j]? = some (some d) → i ≠ j := fun j d q e => by
      subst e
      rw [q0] at q
      cases q
    exact ⟨I, .refl _, ⟨s.st, s.len, fun j d hj q => s.imm j d (fun z => (List.mem_cons.mp z).elim (fun e => ne j d q e.symm) hj) q, fun j d hj q => by
      obtain ⟨p, o, h2, h3, h4, h5, h6⟩ := s.own_ j d (List.mem_cons_of_mem _ hj) q
      exact ⟨p, o, h2, h3, h4, h5, h6.cons (ne j d q)⟩, fun j k p p' d e a b hne q1 q2 g1 g2 x x1 x2 => s.dis j k p p' d e (List.mem_cons_of_mem _ a) (List.mem_cons_of_mem _ b) hne q1 q2 g1 g2 x x1.cons x2.cons, fun j d p hj q => s.slf j d p (List.mem_cons_of_mem _ hj) q⟩, fun _ _ q => .inl q⟩
  | some ov =>
    cases ov with
    | none =>
      have ne : ∀ j d, (ρ : List (Option D))[j]? = some (some d) → i ≠ j := fun j d q e => by
        subst e
        rw [q0] at q
        cases q
      exact ⟨I, .refl _, ⟨s.st, s.len, fun j d hj q => s.imm j d (fun z => (List.mem_cons.mp z).elim (fun e => ne j d q e.symm) hj) q, fun j d hj q => by
        obtain ⟨p, o, h2, h3, h4, h5, h6⟩ := s.own_ j d (List.mem_cons_of_mem _ hj) q
        exact ⟨p, o, h2, h3, h4, h5, h6.cons (ne j d q)⟩, fun j k p p' d e a b hne q1 q2 g1 g2 x x1 x2 => s.dis j k p p' d e (List.mem_cons_of_mem _ a) (List.mem_cons_of_mem _ b) hne q1 q2 g1 g2 x x1.cons x2.cons, fun j d p hj q => s.slf j d p (List.mem_cons_of_mem _ hj) q⟩, fun _ _ q => .inl q⟩
    | some d0 =>
      obtain ⟨p, ob, h2, h3, h4, h5, h6⟩ := s.own_ i d0 List.mem_cons_self q0
      by_cases him : i ∈ M
      · have hdp := deep_cons him
        obtain ⟨hD, hnd, hnp⟩ := h6.ofD hdp
        by_cases hd2 : deep M i = true
        · refine ⟨I, .refl _, ⟨s.st, s.len, fun j d hj q => s.imm j d (fun z => (List.mem_cons.mp z).elim (fun e => hj (e ▸ him)) hj) q, fun j d hj q => ?_, fun j k p p' d e a b hne q1 q2 g1 g2 x x1 x2 => s.dis j k p p' d e (List.mem_cons_of_mem _ a) (List.mem_cons_of_mem _ b) hne q1 q2 g1 g2 x x1.cons x2.cons, fun j d p hj q => s.slf j d p (List.mem_cons_of_mem _ hj) q⟩, fun _ _ q => .inl q⟩
          obtain ⟨p1, o1, k2, k3, k4, k5, k6⟩ := s.own_ j d (List.mem_cons_of_mem _ hj) q
          refine ⟨p1, o1, k2, k3, k4, k5, ?_⟩
          by_cases e : i = j
          · subst e
            exact .mkD (k6.ofD hdp) hd2
          · exact k6.cons e
        · have hd2 : deep M i = false := by simpa using hd2
          let I' : Hp := fun a => if V.ref a ∈ (hvals ob) then H a else I a
          have kid : ∀ a, V.ref a ∈ (hvals ob) → I a = none ∧ He a = none ∧ ∃ ws, H a = some (.lst ws) := fun a ha => by
            obtain ⟨d, q, ws, es, e1, _, g3, g4, g5, _⟩ := hD.kids ha
            cases e1
            exact ⟨g3, g4, ws, g5⟩
          have k : Same I I' := fun a o z => by
            show (if V.ref a ∈ (hvals ob) then H a else I a) = some o
            by_cases ha : V.ref a ∈ (hvals ob)
            · rw [(kid a ha).1] at z
              cases z
            · rw [if_neg ha]
              exact z
          have kin : ∀ a, V.ref a ∈ (hvals ob) → I' a = H a := fun a ha => if_pos ha
          have kout : ∀ a, V.ref a ∉ (hvals ob) → I' a = I a := fun a ha => if_neg ha
          have own' : ∀ a, V.ref a ∈ (hvals ob) → ownA (i :: M) H i p a := fun a ha => .inr ⟨hdp, ob, h5, ha⟩
          refine ⟨I', k, ⟨⟨s.st.i.trans k, s.st.h, fun a o z => ?_, fun a o z => ?_⟩, s.len, fun j d hj q => ?_, fun j d hj q => ?_, fun j l p1 p2 d e a b hne q1 q2 g1 g2 x x1 x2 => s.dis j l p1 p2 d e (List.mem_cons_of_mem _ a) (List.mem_cons_of_mem _ b) hne q1 q2 g1 g2 x x1.cons x2.cons, fun j d p hj q => s.slf j d p (List.mem_cons_of_mem _ hj) q⟩, fun a o z => ?_⟩
          · by_cases ha : V.ref a ∈ (hvals ob)
            · rw [kin a ha] at z
              exact z
            · rw [kout a ha] at z
              exact s.st.e _ _ z
          · by_cases ha : V.ref a ∈ (hvals ob)
            · exact .inr (.inl (kid a ha).2.1)
            · rw [kout a ha] at z
              exact s.st.f _ _ z
          · obtain ⟨v, x, y⟩ := s.imm j d (fun z => (List.mem_cons.mp z).elim (fun e => hj (e ▸ him)) hj) q
            exact ⟨v, x, y.mono k⟩
          · by_cases e : i = j
            · subst e
              rw [q0] at q
              cases q
              exact ⟨p, ob, h2, by rw [kout p hnp]; exact h3, h4, h5, .mk (hD.flat k kin) hd2⟩
            · obtain ⟨p1, o1, g2, g3, g4, g5, g6⟩ := s.own_ j d (List.mem_cons_of_mem _ hj) q
              have dd : ∀ a, ownA (i :: M) H j p1 a → V.ref a ∉ (hvals ob) := fun a ha hv => s.dis i j p p1 d0 d List.mem_cons_self (List.mem_cons_of_mem _ hj) e q0 q h2 g2 a (own' a hv) ha
              have none_ : ∀ a, ownA (i :: M) H j p1 a → I' a = none := fun a ha => by
                rw [kout a (dd a ha)]
                rcases ha with rfl | ⟨hdj, o2, ho2, hv⟩
                · exact g3
                · rw [g5] at ho2
                  cases ho2
                  obtain ⟨_, q', ws, es, e1, _, g3', _⟩ := (g6.ofD hdj).1.kids hv
                  cases e1
                  exact g3'
              exact ⟨p1, o1, g2, none_ p1 (.inl rfl), g4, g5, (g6.other g5 k none_).cons e⟩
          · by_cases ha : V.ref a ∈ (hvals ob)
            · obtain ⟨_, _, ws, hw⟩ := kid a ha
              rw [kin a ha, hw] at z
              cases z
              exact .inr ⟨d0, q0, .inr ⟨hdp, rfl⟩, by show 0 < 4; decide⟩
            · rw [kout a ha] at z
              exact .inl z
      · have hdn := deep_not him
        have hR := h6.of hdn
        have k : Same I (upd I p ob) := fun a o q => by
          rw [upd_ne (ne_of_none q h3)]
          exact q
        have h9 : HO.kd ob = d0.kind ∧ HO.kd ob < 4 := ⟨hR.kd, hR.kd4⟩
        refine ⟨upd I p ob, k, ⟨⟨s.st.i.trans k, s.st.h, fun a o q => ?_, fun a o q => ?_⟩, s.len, fun j d hj q => ?_, fun j d hj q => ?_, fun j l p1 p2 d e a b hne q1 q2 g1 g2 x x1 x2 => s.dis j l p1 p2 d e (List.mem_cons_of_mem _ a) (List.mem_cons_of_mem _ b) hne q1 q2 g1 g2 x x1.cons x2.cons, fun j d p hj q => s.slf j d p (List.mem_cons_of_mem _ hj) q⟩, fun a o q => by
          by_cases e : a = p
          · subst e
            rw [upd_same] at q
            cases q
            exact .inr ⟨d0, q0, .inl h9.1, h9.2⟩
          · rw [upd_ne e] at q
            exact .inl q⟩
        · by_cases e : a = p
          · subst e
            rw [upd_same] at q
            rw [h5]
            exact q
          · rw [upd_ne e] at q
            exact s.st.e _ _ q
        · by_cases e : a = p
          · subst e
            exact .inr (.inl h4)
          · rw [upd_ne e] at q
            exact s.st.f _ _ q
        · by_cases e : j = i
          · subst e
            rw [q0] at q
            cases q
            exact ⟨_, h2, (hR.mono k).rep upd_same⟩
          · obtain ⟨v, a, b⟩ := s.imm j d (fun z => (List.mem_cons.mp z).elim e hj) q
            exact ⟨v, a, b.mono k⟩
        · have e : i ≠ j := fun e => him (e ▸ hj)
          obtain ⟨p', o', g2, g3, g4, g5, g6⟩ := s.own_ j d (List.mem_cons_of_mem _ hj) q
          have none_ : ∀ a, ownA (i :: M) H j p' a → (upd I p ob) a = none := fun a ha => by
            have hne : a ≠ p := fun z => by
              subst z
              exact s.dis i j a p' _ _ List.mem_cons_self (List.mem_cons_of_mem _ hj) e q0 q h2 g2 a (.inl rfl) ha
            rw [upd_ne hne]
            rcases ha with rfl | ⟨hdj, o2, ho2, hv⟩
            · exact g3
            · rw [g5] at ho2
              cases ho2
              obtain ⟨_, q', ws, es, e1, _, g3', _⟩ := (g6.ofD hdj).1.kids hv
              cases e1
              exact g3'
          exact ⟨p', o', g2, none_ p' (.inl rfl), g4, g5, (g6.other g5 k none_).cons e⟩
theorem SE.freeze (i : Nat) (s : SE K mg (i :: M) Ie He σ I H ρ) : ∃ I', Same I I' ∧ SE K mg M Ie He σ I' H ρ := by
  obtain ⟨I', a, b, _⟩ := s.freeze2 i
  exact ⟨I', a, b⟩
theorem deep_more {i j : Nat} (h : deep M j = true) : deep (i :: M) j = true := by
  unfold deep at h ⊢
  have := of_decide_eq_true h
  refine decide_eq_true (Nat.le_trans this ?_)
  rw [List.count_cons]
  exact Nat.le_add_right _ _
theorem SE.all2 : ∀ {M : List Nat} {I : Hp}, SE K mg M Ie He σ I H ρ → ∃ I', Same I I' ∧ SE K mg [] Ie He σ I' H ρ ∧ ∀ a o, I' a = some o → I a = some o ∨ ∃ i ∈ M, Nw M ρ i o
  | [], I, s => ⟨I, .refl _, s, fun _ _ q => .inl q⟩
  | i :: M, I, s => by
    obtain ⟨I1, k1, s1, f1⟩ := s.freeze2 i
    obtain ⟨I2, k2, s2, f2⟩ := SE.all2 s1
    refine ⟨I2, k1.trans k2, s2, fun a o q => ?_⟩
    rcases f2 a o q with q | ⟨j, hj, d, q1, q2, q3⟩
    · rcases f1 a o q with q | q
      · exact .inl q
      · exact .inr ⟨i, List.mem_cons_self, q⟩
    · exact .inr ⟨j, List.mem_cons_of_mem _ hj, d, q1, q2.imp id (fun z => ⟨deep_more z.1, z.2⟩), q3⟩
theorem SE.all : ∀ {M : List Nat} {I : Hp}, SE K mg M Ie He σ I H ρ → ∃ I', Same I I' ∧ SE K mg [] Ie He σ I' H ρ
  | [], I, s => ⟨I, .refl _, s⟩
  | i :: M, I, s => by
    obtain ⟨I1, k1, s1⟩ := s.freeze i
    obtain ⟨I2, k2, s2⟩ := SE.all s1
    exact ⟨I2, k1.trans k2, s2⟩
/-- a slot beside M is stored -/
theorem SE.set {i : Nat} {v : V} {d : D} (s : SE K mg M Ie He σ I H ρ) (hi : i ∉ M) (r : Rep K mg I v d) : SE K mg M Ie He (σ.set i (some v)) I H (ρ.set i (some d)) where
  st := s.st
  len := by rw [List.length_set, List.length_set, s.len]
  imm := fun j e hj q => by
    rcases set_of_lt q with ⟨rfl, rfl⟩ | ⟨hne, q⟩
    · have hl := (List.getElem?_eq_some_iff.mp q).1
      rw [List.length_set] at hl
      exact ⟨v, List.getElem?_set_self (by rw [s.len]; exact hl), r⟩
    · rw [List.getElem?_set_ne hne]
      exact s.imm j e hj q
  own_ := fun j e hj q => by
    have hne : i ≠ j := fun z => hi (z ▸ hj)
    rw [List.getElem?_set_ne hne] at q
    rw [List.getElem?_set_ne hne]
    exact s.own_ j e hj q
  dis := fun j k p p' d e hj hk hne q1 q2 h1 h2 => by
    have n1 : i ≠ j := fun z => hi (z ▸ hj)
    have n2 : i ≠ k := fun z => hi (z ▸ hk)
    rw [List.getElem?_set_ne n1] at q1 h1
    rw [List.getElem?_set_ne n2] at q2 h2
    exact s.dis j k p p' d e hj hk hne q1 q2 h1 h2
  slf := fun j e p hj q h => by
    have hne : i ≠ j := fun z => hi (z ▸ hj)
    rw [List.getElem?_set_ne hne] at q h
    exact s.slf j e p hj q h
theorem SE.setAll {us : List (Nat × V)} {as : As} (ar : AR K mg I us as) : ∀ {σ : L2.St} {ρ : Env}, SE K mg M Ie He σ I H ρ → (∀ p ∈ as, p.1 ∉ M) → SE K mg M Ie He (setS σ us) I H (setE ρ as) := by
  induction ar with
  | nil => exact fun s _ => s
  | cons r _ ih => exact fun s h => ih (s.set (h _ List.mem_cons_self) r) fun p hp => h p (List.mem_cons_of_mem _ hp)
theorem Kid.grow (h : Kid K mg I He H v d) (t : Same H H') : Kid K mg I He H' v d := by
  obtain ⟨q, ws, es, h1, h2, h3, h4, h5, h6⟩ := h
  exact ⟨q, ws, es, h1, h2, h3, h4, t _ _ h5, h6⟩
/-- the lists within stand as they were -/
theorem Kids.keep : ∀ {vs : List V} {ds : List D}, (∀ q, V.ref q ∈ vs → H' q = H q) → Kids K mg I He H vs ds → Kids K mg I He H' vs ds
  | _, _, _, .nil => .nil
  | _, _, hk, .cons k r => by
    obtain ⟨q, ws, es, rfl, rfl, h3, h4, h5, h6⟩ := k
    exact .cons ⟨q, ws, es, rfl, rfl, h3, h4, (hk q List.mem_cons_self).trans h5, h6⟩ (Kids.keep (fun q hq => hk q (List.mem_cons_of_mem _ hq)) r)
theorem OwnD.keep {o : HO} {d : D} (h : OwnD K mg I He H o d) (hk : ∀ q, V.ref q ∈ hvals o → H' q = H q) : OwnD K mg I He H' o d := by
  cases h with
  | lst r => exact .lst (r.keep hk)
  | dk r => exact .dk (r.keep hk)
  | dt r => exact .dt (r.keep hk)
theorem OwnX.keep {i : Nat} {p : Addr} {o : HO} {d : D} (h : OwnX K mg M i I He H p o d) (hp : H p = some o) (hk : ∀ a, ownA M H i p a → H' a = H a) : OwnX K mg M i I He H' p o d := by
  cases hd : deep M i with
  | false => exact .mk (h.of hd) hd
  | true =>
    obtain ⟨h1, h2, h3⟩ := h.ofD hd
    exact .mkD ⟨h1.keep fun q hq => hk q (.inr ⟨hd, o, hp, hq⟩), h2, h3⟩ hd
/-- H alone grew -/
theorem SE.grow (s : SE K mg M Ie He σ I H ρ) (t : Same H H') : SE K mg M Ie He σ I H' ρ :=
  ⟨⟨s.st.i, s.st.h.trans t, s.st.e.trans t, s.st.f⟩, s.len, s.imm, fun i d hi q => by
    obtain ⟨p, o, h2, h3, h4, h5, h6⟩ := s.own_ i d hi q
    refine ⟨p, o, h2, h3, h4, t _ _ h5, ?_⟩
    cases hd : deep M i with
    | false => exact .mk (h6.of hd) hd
    | true =>
      obtain ⟨k1, k2, k3⟩ := h6.ofD hd
      refine .mkD ⟨k1.keep fun q hq => ?_, k2, k3⟩ hd
      obtain ⟨_, q', ws, es, e1, _, _, _, g5, _⟩ := k1.kids hq
      cases e1
      rw [g5]
      exact t _ _ g5, fun i j p p' d e hi hj hne q1 q2 g1 g2 a a1 a2 => by
    obtain ⟨p1, o1, h2, _, _, h5, _⟩ := s.own_ i d hi q1
    obtain ⟨p2, o2, k2, _, _, k5, _⟩ := s.own_ j e hj q2
    rw [g1] at h2
    cases h2
    rw [g2] at k2
    cases k2
    exact s.dis i j p p' d e hi hj hne q1 q2 g1 g2 a (a1.step h5 t) (a2.step k5 t), s.slf⟩
/-- what is a slot's own stands -/
theorem SE.stands (s : SE K mg M Ie He σ I H ρ) {j : Nat} {p2 a : Addr} {d : D} (hj : j ∈ M) (z : ρ[j]? = some (some d)) (g : σ[j]? = some (some (.ref p2))) (ha : ownA M H j p2 a) : H a ≠ none := fun e => by
  obtain ⟨p3, o3, k2, k3, k4, k5, k6⟩ := s.own_ j d hj z
  rw [g] at k2
  cases k2
  rcases ha with rfl | ⟨hd, o, ho, hm⟩
  · rw [k5] at e
    cases e
  · rw [k5] at ho
    cases ho
    obtain ⟨_, q', ws, es, e1, _, _, _, w5, _⟩ := (k6.ofD hd).1.kids hm
    cases e1
    rw [w5] at e
    cases e
/-- a thing of one's own is changed -/
theorem SE.putX {i : Nat} {p : Addr} {ob : HO} {d0 d9 : D} (s : SE K mg M Ie He σ I H ρ) (hi : i ∈ M) (q : ρ[i]? = some (some d0)) (hp : σ[i]? = some (some (.ref p))) (r : OwnX K mg M i I He (upd H p ob) p ob d9) (hk : d9.kind = 3 → d0.kind = 3) (hv : deep M i = true → ∀ a, V.ref a ∈ hvals ob → ownA M H i p a ∨ ∀ j p2 d, j ∈ M → i ≠ j → ρ[j]? = some (some d) → σ[j]? = some (some (.ref p2)) → ¬ ownA M H j p2 a) : SE K mg M Ie He σ I (upd H p ob) (ρ.set i (some d9)) := by
  obtain ⟨p', o', h2, h3, h4, h5, h6⟩ := s.own_ i _ hi q
  rw [hp] at h2
  cases h2
  have hil : i < ρ.length := (List.getElem?_eq_some_iff.mp q).1
  have far : ∀ j p2 d, j ∈ M → i ≠ j → ρ[j]? = some (some d) → σ[j]? = some (some (.ref p2)) → ∀ a, ownA M H j p2 a → a ≠ p := fun j p2 d hj hne z g a ha e => by
    subst e
    exact s.dis i j a p2 _ _ hi hj hne q z hp g a (.inl rfl) ha
  have back : ∀ j p2 d a, j ∈ M → i ≠ j → ρ[j]? = some (some d) → σ[j]? = some (some (.ref p2)) → ownA M (upd H p ob) j p2 a → ownA M H j p2 a := fun j p2 d a hj hne z g ha => by
    rcases ha with ha | ⟨hd, o, ho, hm⟩
    · exact .inl ha
    · rw [upd_ne (far j p2 d hj hne z g p2 (.inl rfl))] at ho
      exact .inr ⟨hd, o, ho, hm⟩
  refine ⟨⟨s.st.i, fun a o z => ?_, fun a o z => ?_, s.st.f⟩, by rw [List.length_set]; exact s.len, fun j d hj z => ?_, fun j d hj z => ?_, fun j k p1 p2 d e hj hk2 hne q1 q2 g1 g2 a a1 a2 => ?_, fun j d p' hj z g h => ?_⟩
  · rw [upd_ne (ne_of_none z h4)]
    exact s.st.h _ _ z
  · rw [upd_ne (ne_of_none z h3)]
    exact s.st.e _ _ z
  · rcases set_of_lt z with ⟨rfl, _⟩ | ⟨_, z⟩
    · exact absurd hi hj
    · exact s.imm j d hj z
  · rcases set_of_lt z with ⟨rfl, rfl⟩ | ⟨hne, z⟩
    · exact ⟨p, ob, hp, h3, h4, upd_same, r⟩
    · obtain ⟨p2, o2, g2, g3, g4, g5, g6⟩ := s.own_ j d hj z
      exact ⟨p2, o2, g2, g3, g4, by rw [upd_ne (far j p2 d hj hne z g2 p2 (.inl rfl))]; exact g5, g6.keep g5 fun a ha => upd_ne (far j p2 d hj hne z g2 a ha)⟩
  · -- the slot's own addresses: what they were, or new ones
    have mine : ∀ a, ownA M (upd H p ob) i p a → ownA M H i p a ∨ ∀ j p2 d, j ∈ M → i ≠ j → ρ[j]? = some (some d) → σ[j]? = some (some (.ref p2)) → ¬ ownA M H j p2 a := fun a ha => by
      rcases ha with ha | ⟨hd, o, ho, hm⟩
      · exact .inl (.inl ha)
      · rw [upd_same] at ho
        cases ho
        exact hv hd a hm
    by_cases ej : i = j
    · subst ej
      rcases set_of_lt q1 with ⟨_, _⟩ | ⟨z, _⟩
      · rcases set_of_lt q2 with ⟨z, _⟩ | ⟨_, q2⟩
        · exact hne z
        · rw [hp] at g1
          cases g1
          have a2 := back k p2 e a hk2 hne q2 g2 a2
          rcases mine a a1 with a1 | a1
          · exact s.dis i k p p2 d0 e hi hk2 hne q q2 hp g2 a a1 a2
          · exact a1 k p2 e hk2 hne q2 g2 a2
      · exact z rfl
    · rcases set_of_lt q1 with ⟨z, _⟩ | ⟨_, q1⟩
      · exact ej z
      · have a1 := back j p1 d a hj ej q1 g1 a1
        by_cases ek : i = k
        · subst ek
          rw [hp] at g2
          cases g2
          rcases mine a a2 with a2 | a2
          · exact s.dis i j p p1 d0 d hi hj ej q q1 hp g1 a a2 a1
          · exact a2 j p1 d hj ej q1 g1 a1
        · rcases set_of_lt q2 with ⟨z, _⟩ | ⟨_, q2⟩
          · exact ek z
          · exact s.dis j k p1 p2 d e hj hk2 hne q1 q2 g1 g2 a a1 (back k p2 e a hk2 ek q2 g2 a2)
  · rcases set_of_lt z with ⟨rfl, rfl⟩ | ⟨_, z⟩
    · exact s.slf _ _ p' hi q g (hk h)
    · exact s.slf j d p' hj z g h
theorem SE.putO {i : Nat} {p : Addr} {ob : HO} {d0 d9 : D} (s : SE K mg M Ie He σ I H ρ) (hi : i ∈ M) (q : ρ[i]? = some (some d0)) (hp : σ[i]? = some (some (.ref p))) (r : OwnR K mg I ob d9) (hk : d9.kind = 3 → d0.kind = 3) (hd : deep M i = false) : SE K mg M Ie He σ I (upd H p ob) (ρ.set i (some d9)) :=
  s.putX hi q hp (.mk r hd) hk fun z => by
    rw [hd] at z
    cases z
/-- a list of one's own is changed -/
theorem SE.put {i : Nat} {p : Addr} {vs : List V} {ds ds0 : List D} (s : SE K mg M Ie He σ I H ρ) (hi : i ∈ M) (q : ρ[i]? = some (some (.lst ds0))) (hp : σ[i]? = some (some (.ref p))) (r : Reps K mg I vs ds) (hd : deep M i = false) : SE K mg M Ie He σ I (upd H p (.lst vs)) (ρ.set i (some (.lst ds))) :=
  s.putO hi q hp (.lst r) (fun h => by cases h) hd
/-- it is a list -/
theorem SE.ownL (s : SE K mg M Ie He σ I H ρ) (i : Nat) (ds : List D) (hi : i ∈ M) (hd : deep M i = false) (q : ρ[i]? = some (some (.lst ds))) : ∃ p vs ds', D.lst ds = .lst ds' ∧ σ[i]? = some (some (.ref p)) ∧ I p = none ∧ He p = none ∧ H p = some (.lst vs) ∧ Reps K mg I vs ds' := by
  obtain ⟨p, o, h2, h3, h4, h5, h6⟩ := s.own_ i _ hi q
  cases h6.of hd with
  | lst r => exact ⟨p, _, ds, rfl, h2, h3, h4, h5, r⟩
/-- a new thing goes to a slot of M -/
theorem SE.ownX {i : Nat} {p : Addr} {ob : HO} {d9 : D} (s : SE K mg M Ie He σ I H ρ) (hi : i ∈ M) (t : Stp I H I' H') (n1 : I' p = none) (n2 : H p = none) (hp : H' p = some ob) (r : OwnX K mg M i I' He H' p ob d9) (hk : d9.kind = 3 → p = Ie.2) (hv : deep M i = true → ∀ a, V.ref a ∈ hvals ob → H a = none) : SE K mg M Ie He (σ.set i (some (.ref p))) I' H' (ρ.set i (some d9)) := by
  have s' := s.step t
  have stands : ∀ j p2 d, j ∈ M → ρ[j]? = some (some d) → σ[j]? = some (some (.ref p2)) → ∀ a, ownA M H' j p2 a → H a ≠ none := fun j p2 d hj z g a ha e => by
    obtain ⟨p3, o3, k2, k3, k4, k5, k6⟩ := s.own_ j d hj z
    rw [g] at k2
    cases k2
    rcases ha.step k5 t.h with rfl | ⟨hd, o, ho, hm⟩
    · rw [k5] at e
      cases e
    · rw [k5] at ho
      cases ho
      obtain ⟨_, q', ws, es, e1, _, _, _, w5, _⟩ := (k6.ofD hd).1.kids hm
      cases e1
      rw [w5] at e
      cases e
  have mine : ∀ a, ownA M H' i p a → H a = none := fun a ha => by
    rcases ha with rfl | ⟨hd, o, ho, hm⟩
    · exact n2
    · rw [hp] at ho
      cases ho
      exact hv hd a hm
  refine ⟨s'.st, by rw [List.length_set, List.length_set, s.len], fun j d hj z => ?_, fun j d hj z => ?_, fun j k p1 p2 d e hj hk2 hne q1 q2 g1 g2 a a1 a2 => ?_, fun j d p' hj z g h => ?_⟩
  · rcases set_of_lt z with ⟨rfl, _⟩ | ⟨hne, z⟩
    · exact absurd hi hj
    · rw [List.getElem?_set_ne hne]
      exact s'.imm j d hj z
  · rcases set_of_lt z with ⟨rfl, rfl⟩ | ⟨hne, z⟩
    · have hl := (List.getElem?_eq_some_iff.mp z).1
      rw [List.length_set] at hl
      exact ⟨p, ob, List.getElem?_set_self (by rw [s.len]; exact hl), n1, s.st.h.free n2, hp, r⟩
    · rw [List.getElem?_set_ne hne]
      exact s'.own_ j d hj z
  · by_cases ej : i = j
    · subst ej
      rw [List.getElem?_set_ne hne] at g2
      rcases set_of_lt g1 with ⟨_, e1⟩ | ⟨z, _⟩
      · cases e1
        rcases set_of_lt q2 with ⟨z, _⟩ | ⟨_, q2⟩
        · exact hne z
        · exact stands k p2 e hk2 q2 g2 a a2 (mine a a1)
      · exact z rfl
    · rw [List.getElem?_set_ne ej] at g1
      rcases set_of_lt q1 with ⟨z, _⟩ | ⟨_, q1⟩
      · exact ej z
      · by_cases ek : i = k
        · subst ek
          rcases set_of_lt g2 with ⟨_, e1⟩ | ⟨z, _⟩
          · cases e1
            exact stands j p1 d hj q1 g1 a a1 (mine a a2)
          · exact z rfl
        · rw [List.getElem?_set_ne ek] at g2
          rcases set_of_lt q2 with ⟨z, _⟩ | ⟨_, q2⟩
          · exact ek z
          · exact s'.dis j k p1 p2 d e hj hk2 hne q1 q2 g1 g2 a a1 a2
  · rcases set_of_lt z with ⟨rfl, rfl⟩ | ⟨hne, z⟩
    · rcases set_of_lt g with ⟨_, e1⟩ | ⟨w, _⟩
      · cases e1
        exact hk h
      · exact absurd rfl w
    · rw [List.getElem?_set_ne hne] at g
      exact s'.slf j d p' hj z g h
theorem SE.ownO {i : Nat} {p : Addr} {ob : HO} {d9 : D} (s : SE K mg M Ie He σ I H ρ) (hi : i ∈ M) (t : Stp I H I' H') (n1 : I' p = none) (n2 : H p = none) (hp : H' p = some ob) (r : OwnR K mg I' ob d9) (hk : d9.kind = 3 → p = Ie.2) (hd : deep M i = false) : SE K mg M Ie He (σ.set i (some (.ref p))) I' H' (ρ.set i (some d9)) :=
  s.ownX hi t n1 n2 hp (.mk r hd) hk fun z => by
    rw [hd] at z
    cases z
/-- a new list goes to a slot of M -/
theorem SE.own {i : Nat} {p : Addr} {vs : List V} {ds : List D} (s : SE K mg M Ie He σ I H ρ) (hi : i ∈ M) (t : Stp I H I' H') (n1 : I' p = none) (n2 : H p = none) (hp : H' p = some (.lst vs)) (r : Reps K mg I' vs ds) (hd : deep M i = false) : SE K mg M Ie He (σ.set i (some (.ref p))) I' H' (ρ.set i (some (.lst ds))) :=
  s.ownO hi t n1 n2 hp (.lst r) (fun h => by cases h) hd
theorem OutS.mono {I0 I1 : Hp} {D0 : Ends} {r : R Fl} (k : Same I0 I1) (h : OutS K mg E Mb M Ie He I0 D0 r) : OutS K mg E Mb M Ie He I1 D0 r := by
  cases r with
  | ok f =>
    cases f with
    | nx ρ => exact fun σ I H s e => h σ I H s (k.trans e)
    | bk ρ => exact fun σ I H s e => h σ I H s (k.trans e)
    | ct ρ => exact fun σ I H s e => h σ I H s (k.trans e)
    | rt d => exact h
    | rf ds => exact h
  | err _ _ => exact h
  | stuck => exact h
theorem RE.of (s : SE K mg [] Ie He σ I H ρ) : RE K mg I σ ρ := ⟨s.len, fun i d q => s.imm i d (by simp) q⟩
end
end DL
namespace DL
open PySem PySem.Spec L2

section
variable {K : PySem.W.Frag} {mg : Gm} {E : XK} {Mb M M' M1 : List Nat} {Ie : Hp × Addr} {He I H I' H' : Hp} {σ : L2.St} {ρ : Env} {D0 : Ends} {I0 : Hp}
/-- what is wanted behind a part: of its value at the grown state -/
theorem Out.of {α β : Type} {rp : Hp → β → α → Prop} {r : R α} {k : α → R Fl} {Q : β → Hp → Prop} (hs : Stp Ie.1 He I H) (h : OutS K mg E Mb M Ie He I0 D0 (r >>= k)) (hk : ∀ d, r = .ok d → OutS K mg E Mb M Ie He I0 D0 (k d) → ∀ v I' H', Stp I H I' H' → rp I' v d → Q v H') : Out K mg E rp I H r Q := by
  cases r with
  | ok d => exact fun v I' H' s q => hk d rfl h v I' H' s q
  | err nm ds => exact fun C od I' H' s x => h C od I' H' (hs.trans s) x
  | stuck => exact h
theorem Sn.strong {α β : Type} {rp : Hp → β → α → Prop} {te : L2.St → Hp → (β → Hp → Prop) → Prop} {m : Env → R α} {k : α → R Fl} {P : β → Hp → Prop} (h : Sn K mg (fun _ => E) rp te m) (s : SE K mg M Ie He σ I H ρ) (hq : OutS K mg E Mb M' Ie He I0 D0 (m (wipeE ρ M) >>= k))
    (hk : ∀ d v I' H', SE K mg M Ie He σ I' H' ρ → Stp I H I' H' → rp I' v d → OutS K mg E Mb M' Ie He I0 D0 (k d) → P v H') : te σ H P :=
  h σ I H _ P s.re s.st.e (Out.of s.st hq fun d _ q v I' H' t r => hk d v I' H' (s.step t) t r q)
/-- all slots may be read; what comes back is no data of the heap -/
theorem Sn.weak {α β : Type} {rp : Hp → β → α → Prop} {te : L2.St → Hp → (β → Hp → Prop) → Prop} {m : Env → R α} {k : α → R Fl} {P : β → Hp → Prop} (h : Sn K mg (fun _ => E) rp te m) (s : SE K mg M Ie He σ I H ρ) (hq : OutS K mg E Mb M' Ie He I0 D0 (m ρ >>= k))
    (hk : ∀ d v I' H', SE K mg M Ie He σ I H' ρ → Stp Ie.1 He I' H' → rp I' v d → OutS K mg E Mb M' Ie He I0 D0 (k d) → P v H') : te σ H P := by
  obtain ⟨I1, k1, s1⟩ := s.all
  exact h σ I1 H _ P (RE.of s1) s1.st.e (Out.of s1.st hq fun d _ q v I' H' t r => hk d v I' H' (s.grow t.h) (s1.st.trans t) r q)
end
def D.scal : D → Bool
  | .non => true
  | .bl _ => true
  | .int _ => true
  | .str _ => true
  | .ty _ => true
  | _ => false
theorem Rep.scal {K : PySem.W.Frag} {mg : Gm} {I I' : Hp} {v : V} {d : D} (r : Rep K mg I v d) (h : d.scal = true) : Rep K mg I' v d := by
  cases r with
  | non => exact .non
  | bl b => exact .bl b
  | int i => exact .int i
  | str x => exact .str x
  | ty n => exact .ty n
  | _ => cases h
def then_ (r : R Fl) (k : Env → R Fl) : R Fl := r >>= fun f => match f with
  | .nx ρ => k ρ
  | f => .ok f
def asg (i : Nat) (ρ : Env) (a : R D) : R Fl := a >>= fun d => .ok (.nx (ρ.set i (some d)))
def asgW (i : Nat) (ρ : Env) (a : R D) : R Fl := a >>= fun d => if d.scal = true then .ok (.nx (ρ.set i (some d))) else .stuck
def asgG (ag : D → R As) (ρ : Env) (a : R D) : R Fl := a >>= fun d => calm (ag d) >>= fun as => .ok (.nx (setE ρ as))
def ret (a : R D) : R Fl := a >>= fun d => .ok (.rt d)
def drp (ρ : Env) (a : R D) : R Fl := a >>= fun _ => .ok (.nx ρ)
@[simp] theorem asg_ok (i : Nat) (ρ : Env) (d : D) : asg i ρ (.ok d) = .ok (.nx (ρ.set i (some d))) := rfl
@[simp] theorem asgW_ok (i : Nat) (ρ : Env) (d : D) : asgW i ρ (.ok d) = if d.scal = true then .ok (.nx (ρ.set i (some d))) else .stuck := rfl
@[simp] theorem asgG_ok (ag : D → R As) (ρ : Env) (d : D) : asgG ag ρ (.ok d) = (calm (ag d) >>= fun as => .ok (.nx (setE ρ as))) := rfl
@[simp] theorem ret_ok (d : D) : ret (.ok d) = .ok (.rt d) := rfl
@[simp] theorem drp_ok (ρ : Env) (d : D) : drp ρ (.ok d) = .ok (.nx ρ) := rfl
@[simp] theorem then_nx (ρ : Env) (k : Env → R Fl) : then_ (.ok (.nx ρ)) k = k ρ := rfl
@[simp] theorem then_rt (d : D) (k : Env → R Fl) : then_ (.ok (.rt d)) k = .ok (.rt d) := rfl
@[simp] theorem then_rf (ds : List D) (k : Env → R Fl) : then_ (.ok (.rf ds)) k = .ok (.rf ds) := rfl
@[simp] theorem then_bk (ρ : Env) (k : Env → R Fl) : then_ (.ok (.bk ρ)) k = .ok (.bk ρ) := rfl
@[simp] theorem then_ct (ρ : Env) (k : Env → R Fl) : then_ (.ok (.ct ρ)) k = .ok (.ct ρ) := rfl
section
variable {X : Cx} {E : XK} {Mb M M' M1 : List Nat} {s : Stmt} {ss : List Stmt} {t u : TS} {ms mr : Env → R Fl} {e c : Expr} {te : TE} {m : Env → R D} {pos : Pos} {x : Str} {tt : TT} {mt : Env → R Bool}
theorem mss_nil : MSs X E Mb M M [] tNext (fun ρ => .ok (.nx ρ)) := ⟨pss_nil, fun Ie He σ I H ρ D0 s h => h σ I H s (.refl _)⟩
theorem mss_one (h : MS X E Mb M M' s t ms) : MSs X E Mb M M' [s] t ms := ⟨pss_one h.pe, h.sn⟩
theorem mss_cons (h1 : MS X E Mb M M1 s t ms) (h2 : MSs X E Mb M1 M' ss u mr) : MSs X E Mb M M' (s :: ss) (tSeq t u) (fun ρ => then_ (ms ρ) mr) := ⟨pss_cons h1.pe h2.pe, fun Ie He σ I H ρ D0 s h => by
  refine h1.sn Ie He σ I H ρ _ s ?_
  have h : OutS X.K (g0 X.mg) E Mb M' Ie He I D0 (then_ (ms ρ) mr) := h
  cases e : ms ρ with
  | ok f =>
    rw [e] at h
    cases f with
    | nx ρ1 => exact fun σ1 I1 H1 s1 k1 => h2.sn Ie He σ1 I1 H1 ρ1 D0 s1 (h.mono k1)
    | rt d => exact h
    | bk ρ1 => exact h
    | ct ρ1 => exact h
    | rf ds => exact h
  | err nm ds =>
    rw [e] at h
    exact h
  | stuck =>
    rw [e] at h
    exact h⟩
/-! #### simple statements -/
theorem ms_pass : MS X E Mb M M (.Pass pos) tNext (fun ρ => .ok (.nx ρ)) := ⟨ps_pass, fun Ie He σ I H ρ D0 s h => h σ I H s (.refl _)⟩
theorem ms_break : MS X E M M M' (.Break pos) tBreak (fun ρ => .ok (.bk ρ)) := ⟨ps_break, fun Ie He σ I H ρ D0 s h => h σ I H s (.refl _)⟩
theorem ms_continue : MS X E M M M' (.Continue pos) tCont (fun ρ => .ok (.ct ρ)) := ⟨ps_continue, fun Ie He σ I H ρ D0 s h => h σ I H s (.refl _)⟩
theorem ms_set (i : Nat) {px : Pos} (hN : X.N.Nodup) (he : ME X (kE E) e te m) (hi : X.N[i]? = some x := by rfl) (hx : Loc X.env.scope x := by first | exact .inl rfl | exact .inr rfl) (hM : i ∉ M := by decide) (hs : swapsWith e (some (.Name x px)) pos.line X.env = pure false := by rfl) (hf : X.fn x = true ∨ X.env.scope.names.lookup x = some .local := by first | exact .inl rfl | exact .inr rfl) :
    MS X E Mb M M (.Assign [.Name x px] e pos) (tAsg te (gName i)) (fun ρ => asg i ρ (m (wipeE ρ M))) :=
  ⟨ps_set hN hi hx he.pe hs hf, fun Ie He σ I H ρ D0 s h => he.sn.strong s h fun d v I1 H1 s1 t r q => q _ I1 H1 (s1.set hM r) t.i⟩
/-- all slots are read, the value is none of the heap -/
theorem ms_setW (i : Nat) {px : Pos} (hN : X.N.Nodup) (he : ME X (kE E) e te m) (hi : X.N[i]? = some x := by rfl) (hx : Loc X.env.scope x := by first | exact .inl rfl | exact .inr rfl) (hM : i ∉ M := by decide) (hs : swapsWith e (some (.Name x px)) pos.line X.env = pure false := by rfl) (hf : X.fn x = true ∨ X.env.scope.names.lookup x = some .local := by first | exact .inl rfl | exact .inr rfl) :
    MS X E Mb M M (.Assign [.Name x px] e pos) (tAsg te (gName i)) (fun ρ => asgW i ρ (m ρ)) :=
  ⟨ps_set hN hi hx he.pe hs hf, fun Ie He σ I H ρ D0 s h => he.sn.weak s h fun d v I1 H1 s1 _ r q => by
    by_cases hd : d.scal = true
    · rw [if_pos hd] at q
      exact q _ I H1 (s1.set hM (r.scal hd)) (.refl _)
    · rw [if_neg hd] at q
      exact q.elim⟩
theorem ms_asg {tg : Expr} {g : TG} {ag : D → R As} (he : ME X (kE E) e te m) (hg : MG X tg g ag) (hM : AgIn ag (· ∉ M)) (hs : swapsWithSole [tg] e pos.line X.env = pure false := by rfl) (hw : swappedStores [tg] e X.env = pure none := by rfl)
    (h1 : (assignEach [tg] X.env).map (·.2) = [assign tg X.env] := by rfl) : MS X E Mb M M (.Assign [tg] e pos) (tAsg te g) (fun ρ => asgG ag ρ (m (wipeE ρ M))) :=
  ⟨ps_asg he.pe hg.pe hs hw h1, fun Ie He σ I H ρ D0 s h => he.sn.strong s h fun d v I1 H1 s1 t r q => by
    cases ea : ag d with
    | ok as =>
      rw [ea] at q
      exact hg.sn _ v σ I1 H1 d as _ s1.st.e r ea fun us ar => q _ I1 H1 (s1.setAll ar (hM d as ea)) t.i
    | err _ _ =>
      rw [ea] at q
      exact q.elim
    | stuck =>
      rw [ea] at q
      exact q.elim⟩
theorem ms_ret (he : ME X (kE E) e te m) : MS X E Mb M M' (.Return (some e) pos) (tRet te) (fun ρ => ret (m ρ)) :=
  ⟨ps_ret he.pe, fun Ie He σ I H ρ D0 s h => he.sn.weak s h fun d v I1 H1 s1 st r q => q v I1 H1 st r⟩
theorem ms_retN : MS X E Mb M M' (.Return none pos) tRetN (fun ρ => .ok (.rt .non)) := ⟨ps_retN, fun Ie He σ I H ρ D0 s h => h _ I H s.st .non⟩
theorem ms_expr (he : ME X (kE E) e te m) (hs : swapsWith e none pos.line X.env = pure false := by rfl) : MS X E Mb M M (.Expr e pos) (tDrop te) (fun ρ => drp ρ (m ρ)) :=
  ⟨ps_expr he.pe hs, fun Ie He σ I H ρ D0 s h => he.sn.weak s h fun d v I1 H1 s1 st r q => q _ I H1 s1 (.refl _)⟩
theorem ms_doc {z j pos'} : MS X E Mb M M (.Expr (.Constant (.str z) j pos) pos') tNext (fun ρ => .ok (.nx ρ)) := ⟨ps_doc, fun Ie He σ I H ρ D0 s h => h σ I H s (.refl _)⟩
theorem ms_if {a b : List Stmt} {ta tb : TS} {ma mb : Env → R Fl} (hc : MT X (kE E) c tt mt) (ha : MSs X E Mb M M' a ta ma) (hb : MSs X E Mb M M' b tb mb) : MS X E Mb M M' (.If c a b pos) (tIfS tt ta tb) (fun ρ => ifv (mt ρ) (ma ρ) (mb ρ)) :=
  ⟨ps_if hc.pe ha.pe hb.pe, fun Ie He σ I H ρ D0 s h => hc.sn.weak s h fun d v I1 H1 s1 st r q => by
    cases r
    cases d with
    | true => exact ha.sn Ie He σ I H1 ρ D0 s1 q
    | false => exact hb.sn Ie He σ I H1 ρ D0 s1 q⟩
def augG (f : Int → Int → Int) (i : Nat) (ρ : Env) : D → D → R Fl
  | .int a, .int b => .ok (.nx (ρ.set i (some (.int (f a b)))))
  | _, _ => .stuck
def augS (f : Int → Int → Int) (i : Nat) (ρ : Env) (b : R D) : R Fl := calm (get ρ i) >>= fun a => b >>= augG f i ρ a
/-- x += n, ints -/
theorem ms_augI (i : Nat) {f : Int → Int → Int} {op : Operator} {px : Pos} (hN : X.N.Nodup) (ho : PIp X op (ipI f)) (he : ME X (kE E) e te m) (hi : X.N[i]? = some x := by rfl) (hx : Loc X.env.scope x := by first | exact .inl rfl | exact .inr rfl) (hM : i ∉ M := by decide) (hf : X.fn x = true ∨ X.env.scope.names.lookup x = some .local := by first | exact .inl rfl | exact .inr rfl) :
    MS X E Mb M M (.AugAssign (.Name x px) op e pos) (tAug i te (ipI f)) (fun ρ => augS f i ρ (m ρ)) :=
  ⟨ps_aug hN hi hx he.pe ho hf, fun Ie He σ I H ρ D0 s h => by
    have h : OutS X.K (g0 X.mg) E Mb M Ie He I D0 (calm (get ρ i) >>= fun a => m ρ >>= augG f i ρ a) := h
    cases q : ρ[i]? with
    | none =>
      unfold get at h
      rw [q] at h
      exact h.elim
    | some o =>
      unfold get at h
      rw [q] at h
      cases o with
      | none => exact h.elim
      | some d =>
        obtain ⟨v, h1, h2⟩ := s.imm i d hM q
        refine ⟨v, h1, he.sn.weak s h fun d2 v2 I1 H1 s1 _ r q => ?_⟩
        cases h2 with
        | int a =>
          cases r with
          | int b => exact ⟨a, b, rfl, rfl, q _ I H1 (s1.set hM (.int _)) (.refl _)⟩
          | _ => exact q.elim
        | _ => cases r <;> exact q.elim⟩

/-! #### lists of one's own -/
def ownD (ρ : Env) (i : Nat) : R (List D) := match ρ[i]? with
  | some (some (.lst ds)) => .ok ds
  | _ => .stuck
theorem ownD_of {ρ : Env} {i : Nat} {ds : List D} (h : ownD ρ i = .ok ds) : ρ[i]? = some (some (.lst ds)) := by
  unfold ownD at h
  split at h
  · cases h
    assumption
  · cases h
theorem outS_calm {K : PySem.W.Frag} {mg : Gm} {Ie : Hp × Addr} {He I0 : Hp} {D0 : Ends} {α : Type} {r : R α} {k : α → R Fl} (h : OutS K mg E Mb M Ie He I0 D0 (calm r >>= k)) : ∃ a, r = .ok a ∧ OutS K mg E Mb M Ie He I0 D0 (k a) := by
  cases r with
  | ok a => exact ⟨a, rfl, h⟩
  | err _ _ => exact h.elim
  | stuck => exact h.elim
theorem outS_if {K : PySem.W.Frag} {mg : Gm} {Ie : Hp × Addr} {He I0 : Hp} {D0 : Ends} {c : Prop} [Decidable c] {r : R Fl} (h : OutS K mg E Mb M Ie He I0 D0 (if c then r else .stuck)) : c ∧ OutS K mg E Mb M Ie He I0 D0 r := by
  by_cases hc : c
  · rw [if_pos hc] at h
    exact ⟨hc, h⟩
  · rw [if_neg hc] at h
    exact h.elim
def appS (i : Nat) (ρ : Env) (a : R D) : R Fl := calm (ownD ρ i) >>= fun ds => a >>= fun d => if ds.length < LIM then .ok (.nx (ρ.set i (some (.lst (ds ++ [d]))))) else .stuck
/-- x.append(e) -/
theorem ms_app (i : Nat) {px pa pc : Pos} (he : ME X (kE E) e te m) (hi : X.N[i]? = some x := by rfl) (hv : Vis X.env.scope x := by first | exact Or.inl rfl | exact Or.inr (Or.inl rfl)) (hM : i ∈ M := by decide) (hD : deep M i = false := by decide)
    (hp : PE X e te → PE X (.Call (.Attribute (.Name x px) "append" pa) [e] [] pc) (tBM X.K "list" rAppend (tVar i) (tCons te tNil))) (hs : swapsWith (.Call (.Attribute (.Name x px) "append" pa) [e] [] pc) none pos.line X.env = pure false := by rfl) :
    MS X E Mb M M (.Expr (.Call (.Attribute (.Name x px) "append" pa) [e] [] pc) pos) (tDrop (tBM X.K "list" rAppend (tVar i) (tCons te tNil))) (fun ρ => appS i ρ (m (wipeE ρ M))) :=
  ⟨ps_expr (hp he.pe) hs, fun Ie He σ I H ρ D0 s h => by
    obtain ⟨ds, ho, h⟩ := outS_calm h
    have q := ownD_of ho
    obtain ⟨p, vs, ds', e1, h2, h3, h4, h5, h6⟩ := s.ownL i _ hM hD q
    cases e1
    refine ⟨_, h2, .inl ⟨rfl, vs, SqL.of h5⟩, he.sn.strong s h fun d v I1 H1 s1 t r k => ?_⟩
    obtain ⟨hl, k⟩ := outS_if k
    refine ⟨p, vs, v, rfl, rfl, t.h _ _ h5, lim_lt (by rw [h6.len]; omega), k _ I1 _ (s1.put hM q h2 ((h6.mono t.i).app (.cons r .nil)) hD) t.i⟩⟩
def setixG (i : Nat) (ρ : Env) (d : D) (ds : List D) : D → R Fl
  | .int z => match ixN ds.length z with
    | some j => .ok (.nx (ρ.set i (some (.lst (ds.set j d)))))
    | none => .stuck
  | _ => .stuck
def setixS (i : Nat) (ρ : Env) (a k : R D) : R Fl := a >>= fun d => calm (ownD ρ i) >>= fun ds => k >>= setixG i ρ d ds
/-- x[k] = e -/
theorem ms_setix (i : Nat) {px pt : Pos} {k : Expr} {tk : TE} {mk : Env → R D} (he : ME X (kE E) e te m) (hk : ME X (kE E) k tk mk) (hi : X.N[i]? = some x := by rfl) (hv : Vis X.env.scope x := by first | exact Or.inl rfl | exact Or.inr (Or.inl rfl)) (hM : i ∈ M := by decide) (hD : deep M i = false := by decide)
    (hp : PE X e te → PE X k tk → PS X (.Assign [.Subscript (.Name x px) k pt] e pos) (tAsg te (gSub (tVar i) tk rSetL))) :
    MS X E Mb M M (.Assign [.Subscript (.Name x px) k pt] e pos) (tAsg te (gSub (tVar i) tk rSetL)) (fun ρ => setixS i ρ (m (wipeE ρ M)) (mk ρ)) :=
  ⟨hp he.pe hk.pe, fun Ie He σ I H ρ D0 s h => he.sn.strong s h fun d v I1 H1 s1 t r h => by
    have h := h.mono t.i
    obtain ⟨ds, ho, h⟩ := outS_calm h
    have q := ownD_of ho
    obtain ⟨p, vs, ds', e1, h2, h3, h4, h5, h6⟩ := s1.ownL i _ hM hD q
    cases e1
    refine ⟨_, h2, hk.sn.weak s1 h fun dk vk I2 H2 s2 t2 rk h => ?_⟩
    cases rk with
    | int z =>
      have h : OutS X.K (g0 X.mg) E Mb M Ie He I1 D0 (match ixN ds.length z with | some j => .ok (.nx (ρ.set i (some (.lst (ds.set j d))))) | none => .stuck) := h
      cases ej : ixN ds.length z with
      | none =>
        rw [ej] at h
        exact h.elim
      | some j =>
        rw [ej] at h
        obtain ⟨p', vs', ds', e1, g2, g3, g4, g5, g6⟩ := s2.ownL i _ hM hD q
        cases e1
        rw [h2] at g2
        cases g2
        exact ⟨p, vs', z, j, rfl, rfl, g5, by rw [g6.len]; exact ej, h _ I1 _ (s2.put hM q h2 (g6.set r j) hD) (.refl _)⟩
    | _ => exact h.elim⟩
def appPopG (i j : Nat) (ρ : Env) (ds es : List D) : D → R Fl
  | .int z => match (if -(2 ^ 63) ≤ z ∧ z < 2 ^ 63 ∧ ds.length < LIM then seqIndex? z es.length else none) with
    | some n => match es[n]? with
      | some d => .ok (.nx ((ρ.set j (some (.lst (es.eraseIdx n)))).set i (some (.lst (ds ++ [d])))))
      | none => .stuck
    | none => .stuck
  | _ => .stuck
def appPopS (i j : Nat) (ρ : Env) (k : R D) : R Fl := calm (ownD ρ i) >>= fun ds => calm (ownD ρ j) >>= fun es => k >>= appPopG i j ρ ds es
def appSW (i : Nat) (ρ : Env) (a : R D) : R Fl := calm (ownD ρ i) >>= fun ds => a >>= fun d => if ds.length < LIM ∧ d.scal = true then .ok (.nx (ρ.set i (some (.lst (ds ++ [d]))))) else .stuck
theorem ms_appW (i : Nat) {px pa pc : Pos} (he : ME X (kE E) e te m) (hi : X.N[i]? = some x := by rfl) (hv : Vis X.env.scope x := by first | exact Or.inl rfl | exact Or.inr (Or.inl rfl)) (hM : i ∈ M := by decide) (hD : deep M i = false := by decide)
    (hp : PE X e te → PE X (.Call (.Attribute (.Name x px) "append" pa) [e] [] pc) (tBM X.K "list" rAppend (tVar i) (tCons te tNil))) (hs : swapsWith (.Call (.Attribute (.Name x px) "append" pa) [e] [] pc) none pos.line X.env = pure false := by rfl) :
    MS X E Mb M M (.Expr (.Call (.Attribute (.Name x px) "append" pa) [e] [] pc) pos) (tDrop (tBM X.K "list" rAppend (tVar i) (tCons te tNil))) (fun ρ => appSW i ρ (m ρ)) :=
  ⟨ps_expr (hp he.pe) hs, fun Ie He σ I H ρ D0 s h => by
    obtain ⟨ds, ho, h⟩ := outS_calm h
    have q := ownD_of ho
    obtain ⟨p, vs, ds', e1, h2, h3, h4, h5, h6⟩ := s.ownL i _ hM hD q
    cases e1
    refine ⟨_, h2, .inl ⟨rfl, vs, SqL.of h5⟩, he.sn.weak s h fun d v I1 H1 s1 t r k => ?_⟩
    obtain ⟨hl, k⟩ := outS_if k
    obtain ⟨p', vs', ds', e1, g2, g3, g4, g5, g6⟩ := s1.ownL i _ hM hD q
    cases e1
    rw [h2] at g2
    cases g2
    refine ⟨p, vs', v, rfl, rfl, g5, lim_lt (by rw [g6.len]; omega), k _ I _ (s1.put hM q h2 (g6.app (.cons (r.scal hl.2) .nil)) hD) (.refl _)⟩⟩
def setixSW (i : Nat) (ρ : Env) (a k : R D) : R Fl := a >>= fun d => if d.scal = true then (calm (ownD ρ i) >>= fun ds => k >>= setixG i ρ d ds) else .stuck
theorem ms_setixW (i : Nat) {px pt : Pos} {k : Expr} {tk : TE} {mk : Env → R D} (he : ME X (kE E) e te m) (hk : ME X (kE E) k tk mk) (hi : X.N[i]? = some x := by rfl) (hv : Vis X.env.scope x := by first | exact Or.inl rfl | exact Or.inr (Or.inl rfl)) (hM : i ∈ M := by decide) (hD : deep M i = false := by decide)
    (hp : PE X e te → PE X k tk → PS X (.Assign [.Subscript (.Name x px) k pt] e pos) (tAsg te (gSub (tVar i) tk rSetL))) :
    MS X E Mb M M (.Assign [.Subscript (.Name x px) k pt] e pos) (tAsg te (gSub (tVar i) tk rSetL)) (fun ρ => setixSW i ρ (m ρ) (mk ρ)) :=
  ⟨hp he.pe hk.pe, fun Ie He σ I H ρ D0 s h => he.sn.weak s h fun d v I1 H1 s1 t r h => by
    obtain ⟨hd, h⟩ := outS_if h
    obtain ⟨ds, ho, h⟩ := outS_calm h
    have q := ownD_of ho
    obtain ⟨p, vs, ds', e1, h2, h3, h4, h5, h6⟩ := s1.ownL i _ hM hD q
    cases e1
    refine ⟨_, h2, hk.sn.weak s1 h fun dk vk I2 H2 s2 t2 rk h => ?_⟩
    cases rk with
    | int z =>
      have h : OutS X.K (g0 X.mg) E Mb M Ie He I D0 (match ixN ds.length z with | some j => .ok (.nx (ρ.set i (some (.lst (ds.set j d))))) | none => .stuck) := h
      cases ej : ixN ds.length z with
      | none =>
        rw [ej] at h
        exact h.elim
      | some j =>
        rw [ej] at h
        obtain ⟨p', vs', ds', e1, g2, g3, g4, g5, g6⟩ := s2.ownL i _ hM hD q
        cases e1
        rw [h2] at g2
        cases g2
        exact ⟨p, vs', z, j, rfl, rfl, g5, by rw [g6.len]; exact ej, h _ I _ (s2.put hM q h2 (g6.set (r.scal hd) j) hD) (.refl _)⟩
    | _ => exact h.elim⟩
/-- y.append(x.pop(k)) -/
theorem ms_appPop (i j : Nat) {y : Str} {px pa pc py pb pd : Pos} {k : Expr} {tk : TE} {mk : Env → R D} (hk : ME X (kE E) k tk mk) (hM : i ∈ M := by decide) (hD : deep M i = false := by decide) (hM2 : j ∈ M := by decide) (hD2 : deep M j = false := by decide) (hij : i ≠ j := by decide)
    (hp : PE X k tk → PE X (.Call (.Attribute (.Name x px) "append" pa) [.Call (.Attribute (.Name y py) "pop" pb) [k] [] pd] [] pc) (tBM X.K "list" rAppend (tVar i) (tCons (tBM X.K "list" rPopAt (tVar j) (tCons tk tNil)) tNil))) (hs : swapsWith (.Call (.Attribute (.Name x px) "append" pa) [.Call (.Attribute (.Name y py) "pop" pb) [k] [] pd] [] pc) none pos.line X.env = pure false := by rfl) :
    MS X E Mb M M (.Expr (.Call (.Attribute (.Name x px) "append" pa) [.Call (.Attribute (.Name y py) "pop" pb) [k] [] pd] [] pc) pos) (tDrop (tBM X.K "list" rAppend (tVar i) (tCons (tBM X.K "list" rPopAt (tVar j) (tCons tk tNil)) tNil)))
      (fun ρ => appPopS i j ρ (mk ρ)) :=
  ⟨ps_expr (hp hk.pe) hs, fun Ie He σ I H ρ D0 s h => by
    obtain ⟨ds, ho, h⟩ := outS_calm h
    obtain ⟨es, ho2, h⟩ := outS_calm h
    have q := ownD_of ho
    have q2 := ownD_of ho2
    obtain ⟨p, vs, ds', e1, h2, h3, h4, h5, h6⟩ := s.ownL i _ hM hD q
    cases e1
    obtain ⟨p2, vs2, ds2, e1, g2, g3, g4, g5, g6⟩ := s.ownL j _ hM2 hD2 q2
    cases e1
    refine ⟨_, h2, .inl ⟨rfl, vs, SqL.of h5⟩, ⟨_, g2, .inl ⟨rfl, vs2, SqL.of g5⟩, hk.sn.weak s h fun dk vk I2 H2 s2 t2 rk h => ?_⟩⟩
    cases rk with
    | int z =>
      have h : OutS X.K (g0 X.mg) E Mb M Ie He I D0 (match (if -(2 ^ 63) ≤ z ∧ z < 2 ^ 63 ∧ ds.length < LIM then seqIndex? z es.length else none) with
          | some n => match es[n]? with
            | some d => .ok (.nx ((ρ.set j (some (.lst (es.eraseIdx n)))).set i (some (.lst (ds ++ [d])))))
            | none => .stuck
          | none => .stuck) := h
      by_cases hb : -(2 ^ 63) ≤ z ∧ z < 2 ^ 63 ∧ ds.length < LIM
      · rw [if_pos hb] at h
        cases en : seqIndex? z es.length with
        | none =>
          rw [en] at h
          exact h.elim
        | some n =>
          rw [en] at h
          cases ed : es[n]? with
          | none =>
            have h : OutS X.K (g0 X.mg) E Mb M Ie He I D0 (match es[n]? with | some d => .ok (.nx ((ρ.set j (some (.lst (es.eraseIdx n)))).set i (some (.lst (ds ++ [d]))))) | none => .stuck) := h
            rw [ed] at h
            exact h.elim
          | some d =>
            have h : OutS X.K (g0 X.mg) E Mb M Ie He I D0 (match es[n]? with | some d => .ok (.nx ((ρ.set j (some (.lst (es.eraseIdx n)))).set i (some (.lst (ds ++ [d]))))) | none => .stuck) := h
            rw [ed] at h
            obtain ⟨b2, ws2, dz, e1, k2, k3, k4, k5, k6⟩ := s2.ownL j _ hM2 hD2 q2
            cases e1
            rw [g2] at k2
            cases k2
            obtain ⟨y0, hy, ry⟩ := k6.get ed
            refine ⟨p2, ws2, z, n, y0, rfl, rfl, k5, hb.1, hb.2.1, by rw [k6.len]; exact en, hy, ?_⟩
            have s3 := s2.put hM2 q2 g2 (k6.erase n) hD2
            have q3 : (ρ.set j (some (.lst (es.eraseIdx n))))[i]? = some (some (.lst ds)) := by
              rw [List.getElem?_set_ne (Ne.symm hij)]
              exact q
            obtain ⟨b3, ws3, dz, e1, l2, l3, l4, l5, l6⟩ := s3.ownL i _ hM hD q3
            cases e1
            rw [h2] at l2
            cases l2
            exact ⟨p, ws3, y0, rfl, rfl, l5, lim_lt (by rw [l6.len]; omega), h _ I _ (s3.put hM q3 h2 (l6.app (.cons ry .nil)) hD) (.refl _)⟩
      · rw [if_neg hb] at h
        exact h.elim
    | _ => exact h.elim⟩

/-! #### loops -/
def loopGo (ag : D → R As) (mb : Env → R Fl) : List D → Env → R Fl
  | [], ρ => .ok (.nx ρ)
  | d :: ds, ρ => calm (ag d) >>= fun as => mb (setE ρ as) >>= fun f => match f with
    | .nx ρ' => loopGo ag mb ds ρ'
    | .ct ρ' => loopGo ag mb ds ρ'
    | .bk ρ' => .ok (.nx ρ')
    | .rt d => .ok (.rt d)
    | .rf ds => .ok (.rf ds)
def forS (ag : D → R As) (mb : Env → R Fl) (ρ : Env) (r : R (List D)) : R Fl := r >>= fun ds => loopGo ag mb ds ρ
def forR (rg : List D → R (List D)) (ag : D → R As) (mb : Env → R Fl) (ρ : Env) (r : R (List D)) : R Fl := r >>= fun ds => calm (rg ds) >>= fun es => loopGo ag mb es ρ
@[simp] theorem forS_ok (ag : D → R As) (mb : Env → R Fl) (ρ : Env) (ds : List D) : forS ag mb ρ (.ok ds) = loopGo ag mb ds ρ := rfl
@[simp] theorem forR_ok (rg : List D → R (List D)) (ag : D → R As) (mb : Env → R Fl) (ρ : Env) (ds : List D) : forR rg ag mb ρ (.ok ds) = (calm (rg ds) >>= fun es => loopGo ag mb es ρ) := rfl
theorem for_core {g : TG} {ag : D → R As} {tb : TS} {mb : Env → R Fl} {K : PySem.W.Frag} {mg : Gm} {Ie : Hp × Addr} {He I0 I1 H : Hp} {σ : L2.St} {ρ : Env} {D0 : Ends} {J : It} {ds : List D} (sg : SnG K mg g ag) (hM : AgIn ag (· ∉ M)) (sb : SnS K mg E M M M tb mb)
    (s : SE K mg M Ie He σ I1 H ρ) (it : ∀ I, Same I1 I → ItOk K mg I J ds) (h : OutS K mg E Mb M Ie He I0 D0 (loopGo ag mb ds ρ)) (k0 : Same I0 I1) :
    ∃ W : Nat → Nat → L2.St → Hp → Prop, (∃ m, W 0 m σ H) ∧ ∀ i m σ H, W i m σ H →
      (J.stop i H ∧ D0.nx σ H) ∨ (J.go i H ∧ ∃ N : L2.St → Hp → Prop, (∀ σ' H', N σ' H' → ∃ m', m' < m ∧ W (i + 1) m' σ' H') ∧ ∀ x H', J.yld i H x H' → g x σ H' fun σ2 H2 => tb { D0 with nx := N, ct := N, bk := D0.nx } σ2 H2) := by
  refine ⟨fun i m σ H => m = ds.length - i ∧ i ≤ ds.length ∧ ∃ I ρ, SE K mg M Ie He σ I H ρ ∧ Same I1 I ∧ OutS K mg E Mb M Ie He I0 D0 (loopGo ag mb (ds.drop i) ρ), ⟨_, rfl, Nat.zero_le _, I1, ρ, s, .refl _, h⟩, ?_⟩
  rintro i m σ2 H2 ⟨rfl, hi, I2, ρ2, s2, k2, h2⟩
  have hit := it I2 k2 I2 H2 (.refl _) s2.st.e
  by_cases hlt : i < ds.length
  · obtain ⟨hgo, hy⟩ := hit.1 i _ (List.getElem?_eq_getElem hlt)
    refine .inr ⟨hgo, fun σ' H' => ∃ I ρ, SE K mg M Ie He σ' I H' ρ ∧ Same I1 I ∧ OutS K mg E Mb M Ie He I0 D0 (loopGo ag mb (ds.drop (i + 1)) ρ), fun σ' H' hN => ⟨ds.length - (i + 1), by omega, rfl, hlt, hN⟩, fun x H' y => ?_⟩
    obtain ⟨I3, s3, rx⟩ := hy x H' y
    rw [List.drop_eq_getElem_cons hlt] at h2
    obtain ⟨as, ha, h2⟩ := outS_calm h2
    refine sg x σ2 I3 H' _ as _ s3.e rx ha fun us ar => ?_
    have s4 := (s2.step s3).setAll ar (hM _ _ ha)
    refine sb Ie He _ I3 H' _ _ s4 ?_
    have h2 : OutS K mg E Mb M Ie He I0 D0 (mb (setE ρ2 as) >>= fun f => match f with
      | .nx ρ' => loopGo ag mb (ds.drop (i + 1)) ρ'
      | .ct ρ' => loopGo ag mb (ds.drop (i + 1)) ρ'
      | .bk ρ' => .ok (.nx ρ')
      | .rt d => .ok (.rt d)
      | .rf ds => .ok (.rf ds)) := h2
    cases e : mb (setE ρ2 as) with
    | err nm es =>
      rw [e] at h2
      exact h2
    | stuck =>
      rw [e] at h2
      exact h2
    | ok f =>
      rw [e] at h2
      cases f with
      | nx ρ' => exact fun σ5 I5 H5 s5 k5 => ⟨I5, ρ', s5, (k2.trans s3.i).trans k5, h2⟩
      | ct ρ' => exact fun σ5 I5 H5 s5 k5 => ⟨I5, ρ', s5, (k2.trans s3.i).trans k5, h2⟩
      | bk ρ' => exact fun σ5 I5 H5 s5 k5 => h2 σ5 I5 H5 s5 (((k0.trans k2).trans s3.i).trans k5)
      | rt d => exact h2
      | rf ds => exact h2
  · have e : i = ds.length := by omega
    subst e
    rw [List.drop_length] at h2
    exact .inl ⟨hit.2, h2 σ2 I2 H2 s2 (k0.trans k2)⟩
section
variable {X : Cx} {E : XK} {Mb M M' M1 : List Nat} {s : Stmt} {ss : List Stmt} {t u : TS} {ms mr : Env → R Fl} {e c : Expr} {te : TE} {m : Env → R D} {pos : Pos} {x : Str} {tt : TT} {mt : Env → R Bool} {tg : Expr} {g : TG} {ag : D → R As} {tb : TS} {mb : Env → R Fl} {body : List Stmt} {wi : TI} {mi : Env → R (List D)} {pos' : Pos}
theorem ms_for (hp : PassesOwn (model X.prog X.w) X.A X.env X.xe) (hc : X.calm = true) (hi : MI X (kE E) tg e wi mi) (hg : MG X tg g ag) (hM : AgIn ag (· ∉ M)) (hb : MSs X E M M M body tb mb) (hs : ∀ x, foldedSetIterable e X.env x = pure x := by intro _; rfl) :
    MS X E Mb M M (.For tg e body [] pos) (tFor wi g tb) (fun ρ => forS ag mb ρ (mi (wipeE ρ M))) :=
  ⟨ps_for hp hc hi.pe hg.pe hb.pe hs, fun Ie He σ I H ρ D0 s h => hi.sn.strong s h fun ds J I1 H1 s1 t it h => for_core (hg.sn _) hM hb.sn s1 (fun I k => it.mono k) h t.i⟩
/-- over a range whose ends may be read off lists of one's own -/
theorem ms_forR1 {a : Expr} {p : Pos} {tas : TA} {ma : Env → R (List D)} (hp : PassesOwn (model X.prog X.w) X.A X.env X.xe) (hc : X.calm = true) (hr : Gl X "range") (hm : X.mg "range" = none) (ha : MA X (kE E) [a] tas ma) (hg : MG X tg g ag) (hM : AgIn ag (· ∉ M)) (hb : MSs X E M M M body tb mb)
    (hs : starEach [a] X.env = [(false, eval a X.env)] := by rfl) :
    MS X E Mb M M (.For tg (.Call (.Name "range" p) [a] [] pos) body [] pos') (tFor (iRng1 tas) g tb) (fun ρ => forR rg1 ag mb ρ (ma ρ)) :=
  ⟨ps_for hp hc (pi_range1 hr hm ha.pe hs) hg.pe hb.pe, fun Ie He σ I H ρ D0 s h => ha.sn.weak s h fun ds J I1 H1 s1 t rs h => by
    obtain ⟨es, he, h⟩ := outS_calm h
    unfold rg1 at he
    split at he
    · split at he
      · rename_i hj
        cases he
        obtain ⟨v, rfl, r⟩ := reps1 rs
        cases r
        exact ⟨_, rfl, hj.1, hj.2, for_core (hg.sn _) hM hb.sn s1 (fun I k => it_rng) h (.refl _)⟩
      · cases he
    · cases he⟩
theorem ms_forR2 {a b : Expr} {p : Pos} {tas : TA} {ma : Env → R (List D)} (hp : PassesOwn (model X.prog X.w) X.A X.env X.xe) (hc : X.calm = true) (hr : Gl X "range") (hm : X.mg "range" = none) (ha : MA X (kE E) [a, b] tas ma) (hg : MG X tg g ag) (hM : AgIn ag (· ∉ M)) (hb : MSs X E M M M body tb mb)
    (hs : starEach [a, b] X.env = [(false, eval a X.env), (false, eval b X.env)] := by rfl) (hs2 : starEach [b] X.env = [(false, eval b X.env)] := by rfl) :
    MS X E Mb M M (.For tg (.Call (.Name "range" p) [a, b] [] pos) body [] pos') (tFor (iRng2 tas) g tb) (fun ρ => forR rg2 ag mb ρ (ma ρ)) :=
  ⟨ps_for hp hc (pi_range2 hr hm ha.pe hs hs2) hg.pe hb.pe, fun Ie He σ I H ρ D0 s h => ha.sn.weak s h fun ds J I1 H1 s1 t rs h => by
    obtain ⟨es, he, h⟩ := outS_calm h
    unfold rg2 at he
    split at he
    · split at he
      · rename_i hj
        cases he
        obtain ⟨v, w, rfl, r, r2⟩ := reps2 rs
        cases r
        cases r2
        exact ⟨_, _, rfl, hj, for_core (hg.sn _) hM hb.sn s1 (fun I k => it_rng) h (.refl _)⟩
      · cases he
    · cases he⟩
theorem ms_forR3 {a b c : Expr} {p : Pos} {tas : TA} {ma : Env → R (List D)} (hp : PassesOwn (model X.prog X.w) X.A X.env X.xe) (hc : X.calm = true) (hr : Gl X "range") (hm : X.mg "range" = none) (ha : MA X (kE E) [a, b, c] tas ma) (hg : MG X tg g ag) (hM : AgIn ag (· ∉ M)) (hb : MSs X E M M M body tb mb)
    (hi : PA X [a, b, c] tas → PI X tg (.Call (.Name "range" p) [a, b, c] [] pos) (iRng3 tas)) :
    MS X E Mb M M (.For tg (.Call (.Name "range" p) [a, b, c] [] pos) body [] pos') (tFor (iRng3 tas) g tb) (fun ρ => forR rg3 ag mb ρ (ma ρ)) :=
  ⟨ps_for hp hc (hi ha.pe) hg.pe hb.pe, fun Ie He σ I H ρ D0 s h => ha.sn.weak s h fun ds J I1 H1 s1 t rs h => by
    obtain ⟨es, he, h⟩ := outS_calm h
    unfold rg3 at he
    split at he
    · split at he
      · rename_i hj
        obtain ⟨hc1, h1, h2, h3, h4⟩ := hj
        subst hc1
        cases he
        cases rs with
        | cons r rs =>
          obtain ⟨v, w, rfl, r2, r3⟩ := reps2 rs
          cases r
          cases r2
          cases r3
          exact ⟨_, _, _, _, rfl, RgC.neg h1 h2 h3 h4, for_core (hg.sn _) hM hb.sn s1 (fun I k => it_rngC) h (.refl _)⟩
      · cases he
    · cases he⟩
def whileGo (mt : Env → R Bool) (mb : Env → R Fl) : Nat → Env → R Fl
  | 0, _ => .stuck
  | n + 1, ρ => mt ρ >>= fun b => if b = true then mb ρ >>= fun f => match f with
      | .nx ρ' => whileGo mt mb n ρ'
      | .ct ρ' => whileGo mt mb n ρ'
      | .bk ρ' => .ok (.nx ρ')
      | .rt d => .ok (.rt d)
      | .rf ds => .ok (.rf ds)
    else .ok (.nx ρ)
theorem ms_while (n : Nat) (hp : PassesOwn (model X.prog X.w) X.A X.env X.xe) (hc : MT X (kE E) c tt mt) (hb : MSs X E M M M body tb mb) : MS X E Mb M M (.While c body [] pos) (tWhile tt tb) (whileGo mt mb n) :=
  ⟨ps_while hp hc.pe hb.pe, fun Ie He σ I H ρ D0 s h => by
    refine ⟨fun m σ H => ∃ I1 ρ, SE X.K (g0 X.mg) M Ie He σ I1 H ρ ∧ Same I I1 ∧ OutS X.K (g0 X.mg) E Mb M Ie He I D0 (whileGo mt mb m ρ), ⟨n, I, ρ, s, .refl _, h⟩, ?_⟩
    rintro m σ2 H2 ⟨I2, ρ2, s2, k2, h2⟩
    cases m with
    | zero => exact h2.elim
    | succ m =>
      refine hc.sn.weak s2 h2 fun b b' I3 H3 s3 t rb h3 => ?_
      cases rb
      cases b with
      | false => exact h3 σ2 I2 H3 s3 k2
      | true =>
        refine ⟨fun σ H => ∃ I1 ρ, SE X.K (g0 X.mg) M Ie He σ I1 H ρ ∧ Same I I1 ∧ OutS X.K (g0 X.mg) E Mb M Ie He I D0 (whileGo mt mb m ρ), fun σ' H' hN => ⟨m, Nat.lt_succ_self _, hN⟩, ?_⟩
        refine hb.sn Ie He _ I2 H3 _ _ s3 ?_
        have h3 : OutS X.K (g0 X.mg) E Mb M Ie He I D0 (mb ρ2 >>= fun f => match f with
          | .nx ρ' => whileGo mt mb m ρ'
          | .ct ρ' => whileGo mt mb m ρ'
          | .bk ρ' => .ok (.nx ρ')
          | .rt d => .ok (.rt d)
          | .rf ds => .ok (.rf ds)) := h3
        cases e : mb ρ2 with
        | err nm es =>
          rw [e] at h3
          exact h3
        | stuck =>
          rw [e] at h3
          exact h3
        | ok f =>
          rw [e] at h3
          cases f with
          | nx ρ' => exact fun σ5 I5 H5 s5 k5 => ⟨I5, ρ', s5, k2.trans k5, h3⟩
          | ct ρ' => exact fun σ5 I5 H5 s5 k5 => ⟨I5, ρ', s5, k2.trans k5, h3⟩
          | bk ρ' => exact fun σ5 I5 H5 s5 k5 => h3 σ5 I5 H5 s5 (k2.trans k5)
          | rt d => exact h3
          | rf ds => exact h3⟩
end

/-! #### what is known of targets -/
def AgsIn (ag : List D → R As) (P : Nat → Prop) : Prop := ∀ d as, ag d = .ok as → ∀ p ∈ as, P p.1
theorem agin_name {P : Nat → Prop} {i : Nat} (h : P i) : AgIn (agV i) P := fun d as e p hp => by
  cases e
  cases List.mem_singleton.mp hp
  exact h
theorem agsin_nil {P : Nat → Prop} : AgsIn agN P := fun d as e p hp => by
  cases d with
  | nil =>
    cases e
    cases hp
  | cons _ _ => cases e
theorem agsin_cons {P : Nat → Prop} {ag : D → R As} {bg : List D → R As} (h1 : AgIn ag P) (h2 : AgsIn bg P) : AgsIn (agC ag bg) P := fun d as e p hp => by
  cases d with
  | nil => cases e
  | cons d ds =>
    obtain ⟨a, ha, e⟩ := bind_ok (r := ag d) e
    obtain ⟨b, hb, e⟩ := bind_ok (r := bg ds) e
    cases e
    rcases List.mem_append.mp hp with hp | hp
    · exact h1 d a ha p hp
    · exact h2 ds b hb p hp
theorem agin_tup {P : Nat → Prop} {n : Nat} {ag : List D → R As} (h : AgsIn ag P) : AgIn (tupAs n ag) P := fun d as e p hp => by
  cases d with
  | tup ds =>
    have e : (if ds.length = n then ag ds else .stuck) = R.ok as := e
    by_cases hl : ds.length = n
    · rw [if_pos hl] at e
      exact h ds as e p hp
    · rw [if_neg hl] at e
      cases e
  | _ => cases e
/-! #### a def by its body -/
def startE (n : Nat) (ds : List D) : Env := ds.map some ++ List.replicate (n - ds.length) none
/-- what the body hands back -/
def endD : Fl → R D
  | .nx _ => .ok .non
  | .rt d => .ok d
  | .rf ds => .ok (.lst ds)
  | _ => .stuck
def runF (n : Nat) (ms : Env → R Fl) (ds : List D) : R D := calm (ms (startE n ds)) >>= endD
theorem start_SE {K : PySem.W.Frag} {mg : Gm} {M : List Nat} {I H : Hp} {N : List Str} {vs : List V} {ds : List D} (ex : Same I H) (rs : Reps K mg I vs ds) (hM : ∀ i ∈ M, ds.length ≤ i) : SE K mg M (I, 0) H (start N vs) I H (startE N.length ds) := by
  have hget : ∀ (i : Nat) (d : D), (startE N.length ds)[i]? = some (some d) → i < ds.length ∧ ds[i]? = some d := fun i d q => by
    unfold startE at q
    by_cases hi : i < ds.length
    · rw [List.getElem?_append_left (by rw [List.length_map]; exact hi), List.getElem?_map] at q
      refine ⟨hi, ?_⟩
      cases z : ds[i]? with
      | none =>
        rw [z] at q
        cases q
      | some e =>
        rw [z] at q
        cases q
        rfl
    · rw [List.getElem?_append_right (by rw [List.length_map]; omega), List.getElem?_replicate] at q
      split at q <;> cases q
  refine ⟨.refl ex, ?_, fun i d _ q => ?_, fun i d hi q => ?_, fun i j p p9 d e hi hj hne q1 q2 => ?_, fun i d p hi q => ?_⟩
  · unfold L2.start startE
    rw [List.length_append, List.length_append, List.length_map, List.length_map, List.length_replicate, List.length_replicate, rs.len]
  · obtain ⟨hi, hd⟩ := hget i d q
    obtain ⟨v, hv, r⟩ := rs.get hd
    refine ⟨v, ?_, r⟩
    unfold L2.start
    rw [List.getElem?_append_left (by rw [List.length_map, rs.len]; exact hi), List.getElem?_map, hv]
    rfl
  · have a := (hget i d q).1
    have b := hM i hi
    omega
  · have a := (hget i d q1).1
    have b := hM i hi
    omega
  · have a := (hget i d q).1
    have b := hM i hi
    omega
end
end DL
namespace DL
open PySem PySem.Spec L2

/-! ### comprehensions of two walks -/
def lc2Go (ag : D → R As) (mt : Env → R Bool) (mi1 : Env → R (List D)) (ag1 : D → R As) (mt1 : Env → R Bool) (me : Env → R D) (vs1 : List Nat) (ρ : Env) : List D → R (List D)
  | [] => .ok []
  | d :: ds => calm (ag d) >>= fun as => calm (mt (setE ρ as)) >>= fun b => if b = true then
      calm (mi1 (setE ρ as)) >>= fun es => lcGo ag1 mt1 me (wipeE (setE ρ as) vs1) es >>= fun r1 => lc2Go ag mt mi1 ag1 mt1 me vs1 ρ ds >>= fun r => .ok (r1 ++ r)
    else lc2Go ag mt mi1 ag1 mt1 me vs1 ρ ds
def lc2M (vs vs1 : List Nat) (mi : Env → R (List D)) (ag : D → R As) (mt : Env → R Bool) (mi1 : Env → R (List D)) (ag1 : D → R As) (mt1 : Env → R Bool) (me : Env → R D) : Env → R D :=
  fun ρ => mi ρ >>= fun ds => calm (lc2Go ag mt mi1 ag1 mt1 me vs1 (wipeE ρ vs) ds) >>= fun r => if r.length ≤ LIM then .ok (.lst r) else .stuck
theorem slots_in {K : PySem.W.Frag} {mg : Gm} {I : Hp} {us : List (Nat × V)} {as : As} {vs : List Nat} (ar : AR K mg I us as) (h : ∀ p ∈ as, p.1 ∈ vs) : ∀ p ∈ us, p.1 ∈ vs := fun p hp => by
  have hm : p.1 ∈ as.map (·.1) := by
    rw [← ar.slots]
    exact List.mem_map_of_mem hp
  obtain ⟨q, hq, e⟩ := List.mem_map.mp hm
  rw [← e]
  exact h q hq
section
variable {E : Wh} {wi wi1 : TI} {g g1 : TG} {tt tt1 : TT} {te : TE} {mi mi1 : Env → R (List D)} {ag ag1 : D → R As} {mt mt1 : Env → R Bool} {me : Env → R D}
/-- the accumulated list without a count -/
structure LkAt (K : PySem.W.Frag) (mg : Gm) (I1 H1 : Hp) (D0 : Addr) (accD : List D) (I2 H : Hp) : Prop where
  at_ : LcAt K mg I1 H1 D0 accD.length accD I2 H
theorem LkAt.step {K : PySem.W.Frag} {mg : Gm} {I1 H1 I2 H I3 H3 : Hp} {D0 : Addr} {accD : List D} (p : LkAt K mg I1 H1 D0 accD I2 H) (s : Stp I2 H I3 H3) : LkAt K mg I1 H1 D0 accD I3 H3 := ⟨p.at_.step s⟩
theorem LkAt.push {K : PySem.W.Frag} {mg : Gm} {I1 H1 I2 H : Hp} {D0 : Addr} {accD : List D} {y : V} {d : D} (p : LkAt K mg I1 H1 D0 accD I2 H) (hD : H1 D0 = none) (r : Rep K mg I2 y d) (hn : accD.length < LIM) : ∃ acc, H D0 = some (.lst acc) ∧ acc.length < sizeLine ∧ LkAt K mg I1 H1 D0 (accD ++ [d]) I2 (upd H D0 (.lst (acc ++ [y]))) := by
  obtain ⟨acc, h1, h2, h3⟩ := p.at_.push hD r hn
  exact ⟨acc, h1, h2, ⟨by rw [List.length_append, List.length_singleton]; exact h3⟩⟩
theorem lc2_snd {K : PySem.W.Frag} {mg : Gm} {vs vs1 : List Nat} (si : Sn K mg E.e (ItOk K mg) wi mi) (sg : SnG K mg g ag) (st : Sn K mg (fun _ => E0) rB tt mt) (si1 : Sn K mg (fun _ => E0) (ItOk K mg) wi1 mi1) (sg1 : SnG K mg g1 ag1) (st1 : Sn K mg (fun _ => E0) rB tt1 mt1) (se : Sn K mg (fun _ => E0) (Rep K mg) te me)
    (hv : AgIn ag (· ∈ vs)) (hv1 : AgIn ag1 (· ∈ vs1)) : Sn K mg E.e (Rep K mg) (tLc2 wi g tt wi1 g1 tt1 te vs vs1) (lc2M vs vs1 mi ag mt mi1 ag1 mt1 me) := fun σ I H ρ Q re ex h => by
  refine si.run re ex h fun ds J I1 H1 _ s1 it h D0 hD => ?_
  cases eo : lc2Go ag mt mi1 ag1 mt1 me vs1 (wipeE ρ vs) ds with
  | err _ _ =>
    rw [eo] at h
    exact h.elim
  | stuck =>
    rw [eo] at h
    exact h.elim
  | ok out =>
    rw [eo] at h
    obtain ⟨hl, h⟩ := out_if h
    refine ⟨fun i m H => m = ds.length - i ∧ i ≤ ds.length ∧ ∃ I2 accD r, LkAt K mg I1 H1 D0 accD I2 H ∧ lc2Go ag mt mi1 ag1 mt1 me vs1 (wipeE ρ vs) (ds.drop i) = .ok r ∧ accD ++ r = out, ⟨ds.length, by simp, Nat.zero_le _, I1, [], out, ⟨.start s1.e hD⟩, eo, rfl⟩, ?_⟩
    rintro i m H2 ⟨rfl, hi, I2, accD, r, p, hr, ho⟩
    have hit := it I2 H2 p.at_.i p.at_.e
    by_cases hlt : i < ds.length
    · obtain ⟨hgo, hy⟩ := hit.1 i _ (List.getElem?_eq_getElem hlt)
      refine .inr ⟨hgo, fun H' => ∃ I2 accD r, LkAt K mg I1 H1 D0 accD I2 H' ∧ lc2Go ag mt mi1 ag1 mt1 me vs1 (wipeE ρ vs) (ds.drop (i + 1)) = .ok r ∧ accD ++ r = out, fun H' hN => ⟨ds.length - (i + 1), by omega, rfl, hlt, hN⟩, fun x H' y => ?_⟩
      obtain ⟨I3, s3, rx⟩ := hy x H' y
      rw [List.drop_eq_getElem_cons hlt] at hr
      unfold lc2Go at hr
      obtain ⟨as, ha, hr⟩ := bind_ok hr
      have ha := calm_of ha
      obtain ⟨b, hb, hr⟩ := bind_ok hr
      have hb := calm_of hb
      refine sg x _ I3 H' _ as _ s3.e rx ha fun us ar => ?_
      refine ⟨by rw [wipe_setS (slots_in ar (hv _ _ ha)), wipe_wipe], ?_⟩
      have re3 : RE K mg I3 (setS (wipe σ vs) us) (setE (wipeE ρ vs) as) := RE.setAll ar (((re.mono s1.i).mono (p.at_.i.trans s3.i)).wipe vs)
      have p3 := p.step s3
      refine st _ I3 H' _ _ re3 s3.e ?_
      rw [hb]
      intro b' I4 H4 s4 eb
      have eb : b' = b := eb
      subst eb
      have p4 := p3.step s4
      cases b' with
      | false =>
        rw [if_neg (by decide)] at hr
        exact ⟨I4, accD, r, p4, hr, ho⟩
      | true =>
        rw [if_pos rfl] at hr
        obtain ⟨es, he, hr⟩ := bind_ok hr
        have he := calm_of he
        obtain ⟨r1, hr1, hr⟩ := bind_ok hr
        obtain ⟨r2, hr2, hr⟩ := bind_ok hr
        cases hr
        have re4 := re3.mono s4.i
        show wi1 _ H4 _
        refine si1 _ I4 H4 _ _ re4 s4.e ?_
        rw [he]
        intro J1 I5 H5 s5 it1
        have p5 := p4.step s5
        refine ⟨fun j k H => k = es.length - j ∧ j ≤ es.length ∧ ∃ I6 accE q, LkAt K mg I1 H1 D0 accE I6 H ∧ Same I5 I6 ∧ lcGo ag1 mt1 me (wipeE (setE (wipeE ρ vs) as) vs1) (es.drop j) = .ok q ∧ accE ++ (q ++ r2) = out, ⟨es.length, by simp, Nat.zero_le _, I5, accD, r1, p5, .refl _, hr1, ho⟩, ?_⟩
        rintro j k H6 ⟨rfl, hj, I6, accE, q, p6, k6, hq, ho2⟩
        have hit1 := it1 I6 H6 k6 p6.at_.e
        by_cases hlt1 : j < es.length
        · obtain ⟨hgo1, hy1⟩ := hit1.1 j _ (List.getElem?_eq_getElem hlt1)
          refine .inr ⟨hgo1, fun H' => ∃ I6 accE q, LkAt K mg I1 H1 D0 accE I6 H' ∧ Same I5 I6 ∧ lcGo ag1 mt1 me (wipeE (setE (wipeE ρ vs) as) vs1) (es.drop (j + 1)) = .ok q ∧ accE ++ (q ++ r2) = out, fun H' hN => ⟨es.length - (j + 1), by omega, rfl, hlt1, hN⟩, fun x1 H7 y1 => ?_⟩
          obtain ⟨I7, s7, rx1⟩ := hy1 x1 H7 y1
          rw [List.drop_eq_getElem_cons hlt1] at hq
          unfold lcGo at hq
          obtain ⟨as1, ha1, hq⟩ := bind_ok hq
          have ha1 := calm_of ha1
          obtain ⟨b1, hb1, hq⟩ := bind_ok hq
          have hb1 := calm_of hb1
          refine sg1 x1 _ I7 H7 _ as1 _ s7.e rx1 ha1 fun us1 ar1 => ?_
          refine ⟨by rw [wipe_setS (slots_in ar1 (hv1 _ _ ha1)), wipe_wipe], ?_⟩
          have re7 : RE K mg I7 (setS (wipe (setS (wipe σ vs) us) vs1) us1) (setE (wipeE (setE (wipeE ρ vs) as) vs1) as1) := RE.setAll ar1 (((re4.mono s5.i).mono (k6.trans s7.i)).wipe vs1)
          have p7 := p6.step s7
          refine st1 _ I7 H7 _ _ re7 s7.e ?_
          rw [hb1]
          intro b2 I8 H8 s8 eb1
          have eb1 : b2 = b1 := eb1
          subst eb1
          have p8 := p7.step s8
          have k8 := (k6.trans s7.i).trans s8.i
          cases b2 with
          | false =>
            rw [if_neg (by decide)] at hq
            exact ⟨I8, accE, q, p8, k8, hq, ho2⟩
          | true =>
            rw [if_pos rfl] at hq
            obtain ⟨yd, hyd, hq⟩ := bind_ok hq
            have hyd := calm_of hyd
            obtain ⟨q', hq', hq⟩ := bind_ok hq
            cases hq
            show te _ H8 _
            refine se _ I8 H8 _ _ (re7.mono s8.i) s8.e ?_
            rw [hyd]
            intro yv I9 H9 s9 ry
            have hlen : accE.length < LIM := by
              have := congrArg List.length ho2
              rw [List.length_append, List.length_append, List.length_cons] at this
              omega
            obtain ⟨acc, h1, h2, p9⟩ := (p8.step s9).push hD ry hlen
            exact ⟨acc, h1, h2, I9, _, q', p9, k8.trans s9.i, hq', by rw [List.append_assoc]; exact ho2⟩
        · have e : j = es.length := by omega
          subst e
          rw [List.drop_length] at hq
          cases hq
          exact .inl ⟨hit1.2, I6, accE, r2, p6, hr2, ho2⟩
    · have e : i = ds.length := by omega
      subst e
      rw [List.drop_length] at hr
      cases hr
      obtain ⟨I', s', r'⟩ := p.at_.done hD
      rw [List.append_nil] at ho
      subst ho
      exact .inl ⟨hit.2, h.there s' r'⟩
end
section
variable {X : Cx} {E : Wh} {elt tg iter tg1 iter1 : Expr} {ifs ifs1 : List Expr} {scope : Scope} {own : List (Str × Nat)} {vs1 : List Nat} {pos : Pos} {wi wi1 : TI} {g g1 : TG} {tt tt1 : TT} {te : TE} {mi mi1 : Env → R (List D)} {ag ag1 : D → R As} {mt mt1 : Env → R Bool} {me : Env → R D}
theorem me_lc2 (hc : X.calm = true) (hN : X.N.Nodup) (hi : MI X E tg iter wi mi) (ok : BlkOk X.N X.env.scope scope own) (hw : ∀ i ∈ vs1, i ∈ own.map (·.2))
    (hg : ∀ (s : Shared) (H : Hp) (C : Addr) (cl : List (Str × Addr)) (fp : List Addr), MG (X.blk s H scope (compEnvC scope cl C X.env) fp) tg g ag) (ht : ∀ (s : Shared) (H : Hp) (C : Addr) (cl : List (Str × Addr)) (fp : List Addr), MTs (X.blk s H scope (compEnvC scope cl C X.env) fp) E.calm ifs tt mt)
    (hi1 : ∀ (s : Shared) (H : Hp) (C : Addr) (cl : List (Str × Addr)) (fp : List Addr), MI (X.blk s H scope (compEnvC scope cl C X.env) fp) E.calm tg1 iter1 wi1 mi1)
    (hg1 : ∀ (s : Shared) (H : Hp) (C : Addr) (cl : List (Str × Addr)) (fp : List Addr), MG (X.blk s H scope (compEnvC scope cl C X.env) fp) tg1 g1 ag1) (ht1 : ∀ (s : Shared) (H : Hp) (C : Addr) (cl : List (Str × Addr)) (fp : List Addr), MTs (X.blk s H scope (compEnvC scope cl C X.env) fp) E.calm ifs1 tt1 mt1)
    (he : ∀ (s : Shared) (H : Hp) (C : Addr) (cl : List (Str × Addr)) (fp : List Addr), ME (X.blk s H scope (compEnvC scope cl C X.env) fp) E.calm elt te me) (hv : AgIn ag (· ∈ own.map (·.2))) (hv1 : AgIn ag1 (· ∈ vs1)) (hs : ∀ x, foldedSetIterable iter X.env x = pure x := by intro _; rfl) (hs1 : ∀ env x, foldedSetIterable iter1 env x = pure x := by intro _ _; rfl) :
    ME X E (.ListComp elt [⟨tg, iter, ifs, 0⟩, ⟨tg1, iter1, ifs1, 0⟩] scope pos) (tLc2 wi g tt wi1 g1 tt1 te (own.map (·.2)) vs1) (lc2M (own.map (·.2)) vs1 mi ag mt mi1 ag1 mt1 me) :=
  ⟨pe_lc2 hc hN hi.pe ok hw (fun s H C cl fp => (hg s H C cl fp).pe) (fun s H C cl fp => (ht s H C cl fp).pe) (fun s H C cl fp => (hi1 s H C cl fp).pe) (fun s H C cl fp => (hg1 s H C cl fp).pe) (fun s H C cl fp => (ht1 s H C cl fp).pe) (fun s H C cl fp => (he s H C cl fp).pe) hs hs1,
    lc2_snd hi.sn ((hg X.s_0 X.H_0 0 [] []).sn _) (ht X.s_0 X.H_0 0 [] []).sn (hi1 X.s_0 X.H_0 0 [] []).sn ((hg1 X.s_0 X.H_0 0 [] []).sn _) (ht1 X.s_0 X.H_0 0 [] []).sn (he X.s_0 X.H_0 0 [] []).sn hv hv1⟩
end

/-! ### a comprehension stored at once -/
section
variable {X : Cx} {E : XK} {Mb M : List Nat} {elt tg iter tg1 iter1 : Expr} {ifs ifs1 : List Expr} {scope : Scope} {own : List (Str × Nat)} {vs1 : List Nat} {pos spos py : Pos} {y : Str} {wi wi1 : TI} {g g1 : TG} {tt tt1 : TT} {te : TE} {mi mi1 : Env → R (List D)} {ag ag1 : D → R As} {mt mt1 : Env → R Bool} {me : Env → R D}
theorem ms_setLc (i : Nat) (hc : X.calm = true) (hN : X.N.Nodup) (hi : MI X (kE E) tg iter wi mi) (ok : BlkOk X.N X.env.scope scope own)
    (hg : ∀ (s : Shared) (H : Hp) (C : Addr) (cl : List (Str × Addr)) (fp : List Addr), MG (X.blk s H scope (compEnvC scope cl C X.env) fp) tg g ag) (ht : ∀ (s : Shared) (H : Hp) (C : Addr) (cl : List (Str × Addr)) (fp : List Addr), MTs (X.blk s H scope (compEnvC scope cl C X.env) fp) (kE E).calm ifs tt mt)
    (he : ∀ (s : Shared) (H : Hp) (C : Addr) (cl : List (Str × Addr)) (fp : List Addr), ME (X.blk s H scope (compEnvC scope cl C X.env) fp) (kE E).calm elt te me) (hv : AgIn ag (· ∈ own.map (·.2)))
    (hsw : swapsWith (.ListComp elt [⟨tg, iter, ifs, 0⟩] scope pos) (some (.Name y py)) spos.line X.env = pure true) (hy : X.N[i]? = some y := by rfl) (hyl : X.env.scope.names.lookup y = some .local := by rfl) (hM : i ∉ M := by decide) (hs : ∀ x, foldedSetIterable iter X.env x = pure x := by intro _; rfl) :
    MS X E Mb M M (.Assign [.Name y py] (.ListComp elt [⟨tg, iter, ifs, 0⟩] scope pos) spos) (tAsg (tLc wi g tt te (own.map (·.2))) (gName i)) (fun ρ => asg i ρ (lcM (own.map (·.2)) mi ag mt me (wipeE ρ M))) :=
  ⟨ps_setLc hc hN hy hyl hsw hi.pe ok (fun s H C cl fp => (hg s H C cl fp).pe) (fun s H C cl fp => (ht s H C cl fp).pe) (fun s H C cl fp => (he s H C cl fp).pe) hs, fun Ie He σ I H ρ D0 s h =>
    (lc_snd hi.sn ((hg X.s_0 X.H_0 0 [] []).sn _) (ht X.s_0 X.H_0 0 [] []).sn (he X.s_0 X.H_0 0 [] []).sn hv).strong s h fun d v I1 H1 s1 t r q => q _ I1 H1 (s1.set hM r) t.i⟩
theorem ms_setLc2 (i : Nat) (hc : X.calm = true) (hN : X.N.Nodup) (hi : MI X (kE E) tg iter wi mi) (ok : BlkOk X.N X.env.scope scope own) (hw : ∀ i ∈ vs1, i ∈ own.map (·.2))
    (hg : ∀ (s : Shared) (H : Hp) (C : Addr) (cl : List (Str × Addr)) (fp : List Addr), MG (X.blk s H scope (compEnvC scope cl C X.env) fp) tg g ag) (ht : ∀ (s : Shared) (H : Hp) (C : Addr) (cl : List (Str × Addr)) (fp : List Addr), MTs (X.blk s H scope (compEnvC scope cl C X.env) fp) (kE E).calm ifs tt mt)
    (hi1 : ∀ (s : Shared) (H : Hp) (C : Addr) (cl : List (Str × Addr)) (fp : List Addr), MI (X.blk s H scope (compEnvC scope cl C X.env) fp) (kE E).calm tg1 iter1 wi1 mi1)
    (hg1 : ∀ (s : Shared) (H : Hp) (C : Addr) (cl : List (Str × Addr)) (fp : List Addr), MG (X.blk s H scope (compEnvC scope cl C X.env) fp) tg1 g1 ag1) (ht1 : ∀ (s : Shared) (H : Hp) (C : Addr) (cl : List (Str × Addr)) (fp : List Addr), MTs (X.blk s H scope (compEnvC scope cl C X.env) fp) (kE E).calm ifs1 tt1 mt1)
    (he : ∀ (s : Shared) (H : Hp) (C : Addr) (cl : List (Str × Addr)) (fp : List Addr), ME (X.blk s H scope (compEnvC scope cl C X.env) fp) (kE E).calm elt te me) (hv : AgIn ag (· ∈ own.map (·.2))) (hv1 : AgIn ag1 (· ∈ vs1))
    (hsw : swapsWith (.ListComp elt [⟨tg, iter, ifs, 0⟩, ⟨tg1, iter1, ifs1, 0⟩] scope pos) (some (.Name y py)) spos.line X.env = pure true) (hy : X.N[i]? = some y := by rfl) (hyl : X.env.scope.names.lookup y = some .local := by rfl) (hM : i ∉ M := by decide) (hs : ∀ x, foldedSetIterable iter X.env x = pure x := by intro _; rfl) (hs1 : ∀ env x, foldedSetIterable iter1 env x = pure x := by intro _ _; rfl) :
    MS X E Mb M M (.Assign [.Name y py] (.ListComp elt [⟨tg, iter, ifs, 0⟩, ⟨tg1, iter1, ifs1, 0⟩] scope pos) spos) (tAsg (tLc2 wi g tt wi1 g1 tt1 te (own.map (·.2)) vs1) (gName i)) (fun ρ => asg i ρ (lc2M (own.map (·.2)) vs1 mi ag mt mi1 ag1 mt1 me (wipeE ρ M))) :=
  ⟨ps_setLc2 hc hN hy hyl hsw hi.pe ok hw (fun s H C cl fp => (hg s H C cl fp).pe) (fun s H C cl fp => (ht s H C cl fp).pe) (fun s H C cl fp => (hi1 s H C cl fp).pe) (fun s H C cl fp => (hg1 s H C cl fp).pe) (fun s H C cl fp => (ht1 s H C cl fp).pe) (fun s H C cl fp => (he s H C cl fp).pe) hs hs1, fun Ie He σ I H ρ D0 s h =>
    (lc2_snd hi.sn ((hg X.s_0 X.H_0 0 [] []).sn _) (ht X.s_0 X.H_0 0 [] []).sn (hi1 X.s_0 X.H_0 0 [] []).sn ((hg1 X.s_0 X.H_0 0 [] []).sn _) (ht1 X.s_0 X.H_0 0 [] []).sn (he X.s_0 X.H_0 0 [] []).sn hv hv1).strong s h fun d v I1 H1 s1 t r q => q _ I1 H1 (s1.set hM r) t.i⟩
end
end DL
namespace DL
open PySem PySem.Spec L2

/-! ### new lists for slots of one's own -/
def OutN (K : PySem.W.Frag) (mg : Gm) (E : XK) (I H : Hp) (r : R (List D)) (Q : VK) : Prop := match r with
  | .ok ds => ∀ p vs I' H', Stp I H I' H' → I' p = none → H p = none → H' p = some (.lst vs) → Reps K mg I' vs ds → Q (.ref p) H'
  | .err nm ds => ∀ C od I' H', Stp I H I' H' → XRep K mg I' H' nm ds C od → E C od H'
  | .stuck => False
def SnN (K : PySem.W.Frag) (mg : Gm) (E : XK) (te : TE) (m : Env → R (List D)) : Prop :=
  ∀ (σ : L2.St) (I H : Hp) (ρ : Env) (Q : VK), RE K mg I σ ρ → Same I H → OutN K mg E I H (m ρ) Q → te σ H Q
structure MN (X : Cx) (E : XK) (e : Expr) (t : TE) (m : Env → R (List D)) : Prop where
  pe : PE X e t
  sn : SnN X.K (g0 X.mg) E t m
theorem OutN.mono {K : PySem.W.Frag} {mg : Gm} {E : XK} {I H I' H' : Hp} {r : R (List D)} {Q : VK} (s : Stp I H I' H') (h : OutN K mg E I H r Q) : OutN K mg E I' H' r Q := by
  cases r with
  | ok d => exact fun p vs I2 H2 t n1 n2 => h p vs I2 H2 (s.trans t) n1 (s.h.free n2)
  | err nm ds => exact fun C od I2 H2 t q => h C od I2 H2 (s.trans t) q
  | stuck => exact h
theorem Sn.runN {K : PySem.W.Frag} {mg : Gm} {E : XK} {I H : Hp} {σ : L2.St} {ρ : Env} {α β : Type} {rp : Hp → β → α → Prop} {te : L2.St → Hp → (β → Hp → Prop) → Prop} {m : Env → R α} {k : α → R (List D)} {P : β → Hp → Prop} {Q : VK} (h : Sn K mg (fun _ => E) rp te m) (re : RE K mg I σ ρ) (ex : Same I H) (hq : OutN K mg E I H (m ρ >>= k) Q)
    (hk : ∀ d v I' H', m ρ = .ok d → Stp I H I' H' → rp I' v d → OutN K mg E I' H' (k d) Q → P v H') : te σ H P := by
  refine h σ I H ρ P re ex ?_
  cases e : m ρ with
  | ok d =>
    rw [e] at hq
    exact fun v I' H' s q => hk d v I' H' e s q (OutN.mono s hq)
  | err nm ds =>
    rw [e] at hq
    exact hq
  | stuck =>
    rw [e] at hq
    exact hq
theorem OutN.new {K : PySem.W.Frag} {mg : Gm} {E : XK} {I H : Hp} {ds : List D} {vs : List V} {Q : VK} {p : Addr} (h : OutN K mg E I H (.ok ds) Q) (ex : Same I H) (hp : H p = none) (r : Reps K mg I vs ds) : Q (.ref p) (upd H p (.lst vs)) :=
  h p vs I _ (.side ex hp) (ex.free hp) hp upd_same r
theorem outN_if {K : PySem.W.Frag} {mg : Gm} {E : XK} {I H : Hp} {c : Prop} [Decidable c] {r : R (List D)} {Q : VK} (h : OutN K mg E I H (if c then r else .stuck) Q) : c ∧ OutN K mg E I H r Q := by
  by_cases hc : c
  · rw [if_pos hc] at h
    exact ⟨hc, h⟩
  · rw [if_neg hc] at h
    exact h.elim
def lenOk (ds : List D) : R (List D) := if ds.length ≤ LIM then .ok ds else .stuck
def unL : D → R (List D)
  | .lst ds => .ok ds
  | _ => .stuck
section
variable {X : Cx} {E : XK} {Mb M : List Nat} {a b e : Expr} {es : List Expr} {pos p : Pos} {x : Str} {ta tb te : TE} {tas : TA} {ma mb : Env → R D} {ms m : Env → R (List D)}
theorem mn_lst (h : MA X (kE E) es tas ms) : MN X E (.List es pos) (tLst tas) (fun ρ => dsp lenOk (ms ρ)) := by
  obtain ⟨pt, st⟩ := h
  refine ⟨pe_lst pt, fun σ I H ρ Q re ex h => ?_⟩
  refine st.runN re ex h fun ds vs I1 H1 _ s1 rx h => ?_
  obtain ⟨hl, h⟩ := outN_if h
  exact ⟨lim_ok (by rw [rx.len]; exact hl), fun p hp => h.new s1.e hp rx⟩
/-- list(xs) -/
def listL : List D → R (List D)
  | [.lst ds] => .ok ds
  | [.tup ds] => .ok ds
  | [.scr ns] => .ok (ns.map D.int)
  | _ => .stuck
theorem mn_list (hg : Gl X x) (hm : X.mg x = none) (hv : bootBuiltins x = some (.type "list")) (ha : MA X (kE E) (e :: es) tas ms) (hn : x ≠ "__name__" := by decide) (hdb : (x == ("__debug__" : Str)) = false := by decide)
    (he : starEach (e :: es) X.env = (false, eval e X.env) :: starEach es X.env := by rfl) (hpl : (backTo pos (starEach es X.env)).any (·.1) = false := by rfl) :
    MN X E (.Call (.Name x p) (e :: es) [] pos) (tCB (fun xs H Q => ∃ p ys, xs = [.ref p] ∧ (SqL X.K H p ys ∨ SqT X.K H p ys) ∧ ∀ l, H l = none → Q (.ref l) (upd H l (.lst ys))) tas) (fun ρ => dsp listL (ms ρ)) := by
  obtain ⟨pt, st⟩ := ha
  refine ⟨pe_callTy call_list_of hg hm hv pt hn hdb he hpl, fun σ I H ρ Q re ex h => ?_⟩
  refine st.runN re ex h fun ds vs I1 H1 _ s1 rs h => ?_
  unfold listL at h
  split at h
  · obtain ⟨v, rfl, r⟩ := reps1 rs
    cases r with
    | lst hh ra => exact ⟨_, _, rfl, .inl (SqL.of (s1.e _ _ hh)), fun p hp => h.new s1.e hp ra⟩
  · obtain ⟨v, rfl, r⟩ := reps1 rs
    cases r with
    | tup hh ra => exact ⟨_, _, rfl, .inr (SqT.of (s1.e _ _ hh)), fun p hp => h.new s1.e hp ra⟩
  · obtain ⟨v, rfl, r⟩ := reps1 rs
    cases r with
    | scr hh => exact ⟨_, _, rfl, .inl (s1.e.seq hh), fun p hp => h.new s1.e hp .ints⟩
  · exact h.elim
/-- list(range(a)), list(range(a, b)) -/
def rgL (i j : Int) : R (List D) := if -(2 ^ 62) ≤ i ∧ i < 2 ^ 62 ∧ -(2 ^ 62) ≤ j ∧ j < 2 ^ 62 ∧ (j - i).toNat ≤ LIM then .ok (rangeD i 1 (j - i).toNat) else .stuck
def rgL1 : List D → R (List D)
  | [.int j] => rgL 0 j
  | _ => .stuck
def rgL2 : List D → R (List D)
  | [.int i, .int j] => rgL i j
  | _ => .stuck
theorem rgV_reps {K : PySem.W.Frag} {mg : Gm} {I : Hp} (i j : Int) : Reps K mg I (rgV i j) (rangeD i 1 (j - i).toNat) := by
  unfold rgV rangeD
  generalize (j - i).toNat = n
  have key : ∀ l : List Nat, Reps K mg I (l.map fun k => V.int (i + (k : Nat))) (l.map fun k => D.int (i + (k : Nat) * 1)) := fun l => by
    induction l with
    | nil => exact .nil
    | cons k l ih =>
      refine .cons ?_ ih
      show Rep K mg I (V.int (i + (k : Nat))) (D.int (i + (k : Nat) * 1))
      rw [Int.mul_one]
      exact .int _
  exact key _
theorem mn_rg1 {p2 pos2 : Pos} (hc : X.calm = true) (hg : Gl X "list") (hm : X.mg "list" = none) (hg2 : Gl X "range") (hm2 : X.mg "range" = none) (ha : ME X (kE E) a ta ma) (na : starEach [a] X.env = (false, eval a X.env) :: starEach [] X.env := by rfl)
    (nb : starEach [.Call (.Name "range" p2) [a] [] pos2] X.env = (false, eval (.Call (.Name "range" p2) [a] [] pos2) X.env) :: starEach [] X.env := by rfl) :
    MN X E (.Call (.Name "list" p) [.Call (.Name "range" p2) [a] [] pos2] [] pos) (tLstRg (tRg1 ta)) (fun ρ => dsp rgL1 (acons (ma ρ) (.ok []))) := by
  obtain ⟨pt, st⟩ := ha
  refine ⟨pe_listRg hc hg hm (prg_1 hg2 hm2 pt na) nb, fun σ I H ρ Q re ex h => ?_⟩
  have h : OutN X.K (g0 X.mg) E I H (ma ρ >>= fun d => rgL1 [d]) Q := by
    have h : OutN X.K (g0 X.mg) E I H (dsp rgL1 (acons (ma ρ) (.ok []))) Q := h
    cases e : ma ρ with
    | ok d =>
      rw [e] at h
      exact h
    | err _ _ =>
      rw [e] at h
      exact h
    | stuck =>
      rw [e] at h
      exact h
  refine st.runN re ex h fun d v I1 H1 _ s1 rs h => ?_
  cases rs with
  | int j =>
    obtain ⟨⟨h1, h2, h3, h4, h5⟩, h⟩ := outN_if h
    exact ⟨j, rfl, ⟨h1, h2, h3, h4, Nat.le_trans h5 (by decide)⟩, fun q hq => h.new s1.e hq (rgV_reps 0 j)⟩
  | _ => exact h.elim
/-- sorted(xs) of ints -/
def sortedL (ds : List D) : R (List D) := sortedD ds >>= unL
theorem mn_sorted (hg : Gl X x) (hm : X.mg x = none) (hv : bootBuiltins x = some (.builtin "sorted")) (ha : MA X (kE E) (e :: es) tas ms) (hn : x ≠ "__name__" := by decide) (hdb : (x == ("__debug__" : Str)) = false := by decide)
    (he : starEach (e :: es) X.env = (false, eval e X.env) :: starEach es X.env := by rfl) (hpl : (backTo pos (starEach es X.env)).any (·.1) = false := by rfl) :
    MN X E (.Call (.Name x p) (e :: es) [] pos) (tCB (rSortedX X.K) tas) (fun ρ => dsp sortedL (ms ρ)) := by
  obtain ⟨pt, st⟩ := ha
  refine ⟨pe_callB cr_sortedX hg hm hv pt hn hdb he hpl, fun σ I H ρ Q re ex h => ?_⟩
  refine st.runN re ex h fun ds vs I1 H1 _ s1 rs h => ?_
  have fin : ∀ (a : Addr) (es : List D) (vs : List V), Reps X.K (g0 X.mg) I1 vs es → (SqL X.K H1 a vs ∨ SqT X.K H1 a vs) → OutN X.K (g0 X.mg) E I1 H1 ((match intsOf es with | some ns => R.ok (.lst ((sortI ns).map D.int)) | none => .stuck) >>= unL) Q → rSortedX X.K [.ref a] H1 Q := fun a es vs r hs h => by
    cases e : intsOf es with
    | none =>
      rw [e] at h
      exact h.elim
    | some ns =>
      rw [e] at h
      obtain ⟨rfl, _⟩ := reps_ints r e
      refine ⟨a, ns, rfl, hs, fun ns' p hp hs' hn => ?_⟩
      have e2 : ns' = sortI ns := srt_uniq (hp.trans (sortI_perm ns).symm) hs' (sortI_srt ns)
      subst e2
      exact OutN.new (ds := (sortI ns).map D.int) h s1.e hn .ints
  unfold sortedL sortedD at h
  split at h
  · obtain ⟨v, rfl, r⟩ := reps1 rs
    cases r with
    | lst hh ra => exact fin _ _ _ ra (.inl (SqL.of (s1.e _ _ hh))) h
  · obtain ⟨v, rfl, r⟩ := reps1 rs
    cases r with
    | tup hh ra => exact fin _ _ _ ra (.inr (SqT.of (s1.e _ _ hh))) h
  · exact h.elim
def scals (ds : List D) : Bool := ds.all D.scal
theorem Reps.scals {K : PySem.W.Frag} {mg : Gm} {I I' : Hp} : ∀ {vs : List V} {ds : List D}, Reps K mg I vs ds → DL.scals ds = true → Reps K mg I' vs ds
  | _, _, .nil, _ => .nil
  | _, _, .cons a r, h => by
    unfold DL.scals at h
    rw [List.all_cons, Bool.and_eq_true] at h
    exact .cons (a.scal h.1) (Reps.scals r h.2)
def ownS (i : Nat) (ρ : Env) (r : R (List D)) : R Fl := r >>= fun ds => .ok (.nx (ρ.set i (some (.lst ds))))
@[simp] theorem ownS_ok (i : Nat) (ρ : Env) (ds : List D) : ownS i ρ (.ok ds) = .ok (.nx (ρ.set i (some (.lst ds)))) := rfl
def ownSW (i : Nat) (ρ : Env) (r : R (List D)) : R Fl := r >>= fun ds => if scals ds = true then .ok (.nx (ρ.set i (some (.lst ds)))) else .stuck
@[simp] theorem ownSW_ok (i : Nat) (ρ : Env) (ds : List D) : ownSW i ρ (.ok ds) = if scals ds = true then .ok (.nx (ρ.set i (some (.lst ds)))) else .stuck := rfl
theorem ms_own (i : Nat) {px : Pos} (hN : X.N.Nodup) (he : MN X E e te m) (hi : X.N[i]? = some x := by rfl) (hx : Loc X.env.scope x := by first | exact .inl rfl | exact .inr rfl) (hM : i ∈ M := by decide) (hD : deep M i = false := by decide) (hs : swapsWith e (some (.Name x px)) pos.line X.env = pure false := by rfl) (hf : X.fn x = true ∨ X.env.scope.names.lookup x = some .local := by first | exact .inl rfl | exact .inr rfl) :
    MS X E Mb M M (.Assign [.Name x px] e pos) (tAsg te (gName i)) (fun ρ => ownS i ρ (m (wipeE ρ M))) :=
  ⟨ps_set hN hi hx he.pe hs hf, fun Ie He σ I H ρ D0 s h => he.sn σ I H _ _ s.re s.st.e (by
    have h : OutS X.K (g0 X.mg) E Mb M Ie He I D0 (ownS i ρ (m (wipeE ρ M))) := h
    cases q : m (wipeE ρ M) with
    | ok ds =>
      rw [q] at h
      exact fun p vs I1 H1 t n1 n2 hp r => h _ I1 H1 (s.own hM t n1 n2 hp r hD) t.i
    | err nm ds =>
      rw [q] at h
      exact fun C od I1 H1 t xr => h C od I1 H1 (s.st.trans t) xr
    | stuck =>
      rw [q] at h
      exact h)⟩
theorem ms_ownW (i : Nat) {px : Pos} (hN : X.N.Nodup) (he : MN X E e te m) (hi : X.N[i]? = some x := by rfl) (hx : Loc X.env.scope x := by first | exact .inl rfl | exact .inr rfl) (hM : i ∈ M := by decide) (hD : deep M i = false := by decide) (hs : swapsWith e (some (.Name x px)) pos.line X.env = pure false := by rfl) (hf : X.fn x = true ∨ X.env.scope.names.lookup x = some .local := by first | exact .inl rfl | exact .inr rfl) :
    MS X E Mb M M (.Assign [.Name x px] e pos) (tAsg te (gName i)) (fun ρ => ownSW i ρ (m ρ)) :=
  ⟨ps_set hN hi hx he.pe hs hf, fun Ie He σ I H ρ D0 s h => by
    obtain ⟨Ia, ka, sa⟩ := s.all
    refine he.sn σ Ia H _ _ (RE.of sa) sa.st.e ?_
    have h : OutS X.K (g0 X.mg) E Mb M Ie He I D0 (ownSW i ρ (m ρ)) := h
    cases q : m ρ with
    | ok ds =>
      rw [q] at h
      obtain ⟨hs, h⟩ := outS_if h
      intro p vs I1 H1 t n1 n2 hp r
      have n3 : I p = none := s.st.e.free n2
      have s1 := s.grow t.h
      have e1 : Same I H1 := s.st.e.trans t.h
      refine h _ I H1 ?_ (.refl _)
      exact s.own (I' := I) hM ⟨.refl _, t.h, e1, fun _ _ z => .inl z⟩ n3 n2 hp (r.scals hs) hD
    | err nm ds =>
      rw [q] at h
      exact fun C od I1 H1 t xr => h C od I1 H1 (sa.st.trans t) xr
    | stuck =>
      rw [q] at h
      exact h⟩
end

section
variable {X : Cx} {E : Wh} {Mb M : List Nat} {e k : Expr} {pos px pa pc pt : Pos} {x : Str} {te tk : TE} {m mk : Env → R D}
/-- a built-in class as a value -/
theorem me_bty {n : String} (hg : Gl X x) (hm : X.mg x = none) (hv : bootBuiltins x = some (.type n)) (hn : x ≠ "__name__" := by decide) (hd : (x == ("__debug__" : Str)) = false := by decide) : ME X E (.Name x pos) (tC (.ty n)) (fun _ => .ok (.ty n)) :=
  ⟨pe_bltn (v := .ty n) hg hm hv rfl hn hd, fun σ I H ρ Q re ex h => h.here ex (.ty n)⟩
/-- a constant of the module -/
theorem me_glb {v : V} {u : Value} {d : D} (hg : Gl X x) (hm : X.mg x = some u) (r : RelV v u) (rp : ∀ I, Rep X.K (gm X E) I v d) (hd : (x == ("__debug__" : Str)) = false := by decide) : ME X E (.Name x pos) (tC v) (fun _ => .ok d) :=
  ⟨pe_glob hg hm r hd, fun σ I H ρ Q re ex h => h.here ex (rp I)⟩
theorem pe_append (i : Nat) (he : PE X e te) (hi : X.N[i]? = some x := by rfl) (hv : Vis X.env.scope x := by first | exact Or.inl rfl | exact Or.inr (Or.inl rfl)) (hd : (x == ("__debug__" : Str)) = false := by decide) (hcd : (x == ("__classdict__" : Str)) = false := by decide)
    (pm : ∀ ta tx, PE X (.Name x px) ta → PA X [e] tx → PE X (.Call (.Attribute (.Name x px) "append" pa) [e] [] pc) (tBM X.K "list" rAppend ta tx) := by intro ta tx h1 h2; exact pe_bm PySem.F.plainAttrs_list PySem.F.slot_list_append PySem.F.type_list_append mt_append h1 h2)
    (ha : PA X [e] (tCons te tNil)) : PE X (.Call (.Attribute (.Name x px) "append" pa) [e] [] pc) (tBM X.K "list" rAppend (tVar i) (tCons te tNil)) := pm _ _ (pe_var (i := i) hi hv hd hcd) ha
end

/-! ### what is known of the text's own defs -/
structure FnAt (K : PySem.W.Frag) (mg : Str → Option Value) (x : Str) (st : Stmt) (ps : List Str) : Prop where
  ex : ∃ f fd, Fun K x x st f fd ∧ mg x = some (.ref f) ∧ Binds K fd ps []
/-- tuple(range(a)) -/
def rgT (i j : Int) : R D := if -(2 ^ 62) ≤ i ∧ i < 2 ^ 62 ∧ -(2 ^ 62) ≤ j ∧ j < 2 ^ 62 ∧ (j - i).toNat ≤ LIM then .ok (.tup (rangeD i 1 (j - i).toNat)) else .stuck
def rgT1 : List D → R D
  | [.int j] => rgT 0 j
  | _ => .stuck
def rgLv (i j : Int) : R D := if -(2 ^ 62) ≤ i ∧ i < 2 ^ 62 ∧ -(2 ^ 62) ≤ j ∧ j < 2 ^ 62 ∧ (j - i).toNat ≤ LIM then .ok (.lst (rangeD i 1 (j - i).toNat)) else .stuck
def rgLv1 : List D → R D
  | [.int j] => rgLv 0 j
  | _ => .stuck
section
variable {X : Cx} {E : Wh} {a : Expr} {ta : TE} {ma : Env → R D} {p p2 pos pos2 : Pos}
theorem acons_one {r : R D} {f : List D → R D} : dsp f (acons r (.ok [])) = (r >>= fun d => f [d]) := by
  cases r <;> rfl
theorem me_tupRg1 (hg : Gl X "tuple") (hm : X.mg "tuple" = none) (hg2 : Gl X "range") (hm2 : X.mg "range" = none) (ha : ME X E a ta ma) (hc : X.calm = true := by rfl) (na : starEach [a] X.env = (false, eval a X.env) :: starEach [] X.env := by rfl)
    (nb : starEach [.Call (.Name "range" p2) [a] [] pos2] X.env = (false, eval (.Call (.Name "range" p2) [a] [] pos2) X.env) :: starEach [] X.env := by rfl) :
    ME X E (.Call (.Name "tuple" p) [.Call (.Name "range" p2) [a] [] pos2] [] pos) (tTupRg (tRg1 ta)) (fun ρ => dsp rgT1 (acons (ma ρ) (.ok []))) := by
  obtain ⟨pt, st⟩ := ha
  refine ⟨pe_tupRg hc hg hm (prg_1 hg2 hm2 pt na) nb, fun σ I H ρ Q re ex h => ?_⟩
  have h : Out X.K (gm X E) (E.e σ) (Rep X.K (gm X E)) I H (dsp rgT1 (acons (ma ρ) (.ok []))) Q := h
  rw [acons_one] at h
  refine st.run re ex h fun d v I1 H1 _ s1 rs h => ?_
  cases rs with
  | int j =>
    obtain ⟨⟨h1, h2, h3, h4, h5⟩, h⟩ := out_if h
    exact ⟨j, rfl, ⟨h1, h2, h3, h4, Nat.le_trans h5 (by decide)⟩, fun q hq => h.there (.new s1.e hq) (new_tup s1.e hq (rgV_reps 0 j))⟩
  | _ => exact h.elim
theorem me_lstRg1 (hg : Gl X "list") (hm : X.mg "list" = none) (hg2 : Gl X "range") (hm2 : X.mg "range" = none) (ha : ME X E a ta ma) (hc : X.calm = true := by rfl) (na : starEach [a] X.env = (false, eval a X.env) :: starEach [] X.env := by rfl)
    (nb : starEach [.Call (.Name "range" p2) [a] [] pos2] X.env = (false, eval (.Call (.Name "range" p2) [a] [] pos2) X.env) :: starEach [] X.env := by rfl) :
    ME X E (.Call (.Name "list" p) [.Call (.Name "range" p2) [a] [] pos2] [] pos) (tLstRg (tRg1 ta)) (fun ρ => dsp rgLv1 (acons (ma ρ) (.ok []))) := by
  obtain ⟨pt, st⟩ := ha
  refine ⟨pe_listRg hc hg hm (prg_1 hg2 hm2 pt na) nb, fun σ I H ρ Q re ex h => ?_⟩
  have h : Out X.K (gm X E) (E.e σ) (Rep X.K (gm X E)) I H (dsp rgLv1 (acons (ma ρ) (.ok []))) Q := h
  rw [acons_one] at h
  refine st.run re ex h fun d v I1 H1 _ s1 rs h => ?_
  cases rs with
  | int j =>
    obtain ⟨⟨h1, h2, h3, h4, h5⟩, h⟩ := out_if h
    exact ⟨j, rfl, ⟨h1, h2, h3, h4, Nat.le_trans h5 (by decide)⟩, fun q hq => h.there (.new s1.e hq) (new_lst s1.e hq (rgV_reps 0 j))⟩
  | _ => exact h.elim
end
/-- the law's own promise -/
def spLaw (K : PySem.W.Frag) : Sp := fun vs H Q _ => ∃ (a : Addr) (ns : List Int), vs = [.ref a] ∧ SqL K H a (ns.map V.int) ∧ ns.length ≤ 63 ∧ ∀ H', Q (.bl true) H'
theorem law_of {P : Program} {w : World} {K : PySem.W.Frag} {mg : Str → Option Value} {base : Heap} {CX : CXT} {k : Nat} {f : Addr} {fd : FuncData} {ps : List Str} {g : List D → R D} (F : FnOk P w K mg base CX k f fd ps (spOf K (g0 mg) 1 g)) (h : ∀ ns : List Int, ns.length ≤ 63 → g [.scr ns] = .ok (.bl true)) :
    FnOk P w K mg base CX k f fd ps (spLaw K) := F.imp fun vs H Q E ⟨a, ns, e, hs, hl, q⟩ => by
  subst e
  refine ⟨H, [.scr ns], rfl, .refl _, .cons (.scr hs) .nil, ?_⟩
  rw [h ns hl]
  intro v I' H' _ r
  cases r
  exact q H'
end DL
namespace DL
open PySem PySem.Spec L2

theorem lexAt_shift (e r : Nat → Bool) (z : Bool) : ∀ (k i : Nat), Ob.lexAt e r z (i + 1) k = Ob.lexAt (fun j => e (j + 1)) (fun j => r (j + 1)) z i k
  | 0, _ => rfl
  | k + 1, i => by
    rw [Ob.lexAt_succ, Ob.lexAt_succ, lexAt_shift e r z k (i + 1)]
theorem lexAt_ge : ∀ ns ms : List Int, Ob.lexAt (fun j => decide (ns.getD j 0 = ms.getD j 0)) (fun j => decide (ms.getD j 0 ≤ ns.getD j 0)) (decide (ms.length ≤ ns.length)) 0 (min ns.length ms.length) = !HT.lexLt ns ms
  | [], [] => rfl
  | [], y :: ys => by
    show Ob.lexAt _ _ (decide (ys.length + 1 ≤ 0)) 0 (min 0 _) = !true
    rw [Nat.zero_min, Ob.lexAt_zero]
    rfl
  | x :: xs, [] => by
    show Ob.lexAt _ _ (decide (0 ≤ xs.length + 1)) 0 (min _ 0) = !false
    rw [Nat.min_zero, Ob.lexAt_zero]
    rfl
  | x :: xs, y :: ys => by
    have hm : min (x :: xs).length (y :: ys).length = min xs.length ys.length + 1 := by
      rw [List.length_cons, List.length_cons]
      omega
    rw [hm, Ob.lexAt_succ, lexAt_shift, HT.lexLt_cons]
    show (if decide (x = y) = true then Ob.lexAt (fun j => decide (xs.getD j 0 = ys.getD j 0)) (fun j => decide (ys.getD j 0 ≤ xs.getD j 0)) (decide (ys.length + 1 ≤ xs.length + 1)) 0 (min xs.length ys.length) else decide (y ≤ x)) = !if x = y then HT.lexLt xs ys else decide (x < y)
    by_cases e : x = y
    · rw [if_pos (decide_eq_true e), if_pos e, show decide (ys.length + 1 ≤ xs.length + 1) = decide (ys.length ≤ xs.length) by simp, lexAt_ge xs ys]
    · rw [if_neg (by simpa using e), if_neg e]
      by_cases h : y ≤ x
      · rw [decide_eq_true h, decide_eq_false (by omega)]
        rfl
      · rw [decide_eq_false h, decide_eq_true (by omega)]
        rfl
def rGeT (K : PySem.W.Frag) : R2 := fun x y H Q => ∃ (a b : Addr) (ns ms : List Int), x = .ref a ∧ y = .ref b ∧ SqT K H a (ns.map V.int) ∧ SqT K H b (ms.map V.int) ∧ Q (.bl (!HT.lexLt ns ms)) H
theorem op_geT {X : Cx} (hu : X.A.units < cLine) : OpR X (compareOp .GtE) (rGeT X.K) := by
  intro pins s σ H x y v u Q I rx ry h
  obtain ⟨a, b, ns, ms, rfl, rfl, ha, hb, q⟩ := h
  cases rx
  cases ry
  obtain ⟨its, r1, p1, _⟩ := I.tuple ha
  obtain ⟨its2, r2, p2, _⟩ := I.tuple hb
  have i1 : PyProof.Rows.IntsAre its ns := Vals.ints r1
  have i2 : PyProof.Rows.IntsAre its2 ms := Vals.ints r2
  have e1 : its.toArray.size = ns.length := by rw [List.size_toArray]; exact i1.length
  have e2 : its2.toArray.size = ms.length := by rw [List.size_toArray]; exact i2.length
  have at1 : ∀ j (h1 : j < its.toArray.size), ∃ t, its.toArray[j] = .int (ns.getD j 0) t := fun j h1 => PyProof.Rows.IntsAre.int_at i1 _ _ (by simp at h1; simp [h1])
  have at2 : ∀ j (h1 : j < its2.toArray.size), ∃ t, its2.toArray[j] = .int (ms.getD j 0) t := fun j h1 => PyProof.Rows.IntsAre.int_at i2 _ _ (by simp at h1; simp [h1])
  have R := Ob.RcOp.tuples_ge (A := X.A) (s := s) (e := fun j => decide (ns.getD j 0 = ms.getD j 0)) (r := fun j => decide (ms.getD j 0 ≤ ns.getD j 0)) p1 p2 hu (fun j h1 h2 => by
    obtain ⟨t, et⟩ := at1 j h1
    obtain ⟨t', et'⟩ := at2 j h2
    rw [et, et']
    have z : (ns.getD j 0 == ms.getD j 0) = decide (ns.getD j 0 = ms.getD j 0) := by
      by_cases q : ns.getD j 0 = ms.getD j 0
      · rw [decide_eq_true q]; exact beq_iff_eq.mpr q
      · rw [decide_eq_false q]; exact beq_eq_false_iff_ne.mpr q
    rw [← z]
    exact SeqAt.EqAt.int_int _ _ _ _) (fun j h1 h2 _ => by
    obtain ⟨t, et⟩ := at1 j h1
    obtain ⟨t', et'⟩ := at2 j h2
    rw [et, et']
    exact Ob.RcOp.ge_int _ _ _ _)
  rw [e1, e2] at R
  refine R _ _ _ _ ⟨.bl _, H, I, rfl, ?_⟩
  rw [← lexAt_ge] at q
  exact q
def geX : D → D → R D
  | .int i, .int j => .ok (.bl (decide (j ≤ i)))
  | .tup xs, .tup ys => match intsOf xs, intsOf ys with
    | some ns, some ms => .ok (.bl (!HT.lexLt ns ms))
    | _, _ => .stuck
  | _, _ => .stuck
def rGeX (K : PySem.W.Frag) : R2 := fun x y H Q => rI0 (fun i j => .bl (decide (j ≤ i))) x y H Q ∨ rGeT K x y H Q
theorem op_geX {X : Cx} {k : Nat} (hr : Room k X.A) : OpR X (compareOp .GtE) (rGeX X.K) := OpR.or op_ge (op_geT hr.units0)
theorem rs_geX {K : PySem.W.Frag} {mg : Gm} : RSn K mg (rGeX K) geX := by
  intro x y I H dx dy d Q ex rx ry h q
  cases rx with
  | int i =>
    cases ry with
    | int j =>
      cases h
      exact .inl ⟨i, j, rfl, rfl, q _ _ _ (.refl ex) (.bl _)⟩
    | _ => cases h
  | @tup a vs ds ha ra =>
    cases ry with
    | @tup b ws es hb rb =>
      have h : (match intsOf ds, intsOf es with | some ns, some ms => R.ok (.bl (!HT.lexLt ns ms)) | _, _ => .stuck) = R.ok d := h
      cases e1 : intsOf ds with
      | none =>
        rw [e1] at h
        cases h
      | some ns =>
        cases e2 : intsOf es with
        | none =>
          rw [e1, e2] at h
          cases h
        | some ms =>
          rw [e1, e2] at h
          cases h
          obtain ⟨rfl, _⟩ := reps_ints ra e1
          obtain ⟨rfl, _⟩ := reps_ints rb e2
          exact .inr ⟨a, b, ns, ms, rfl, rfl, SqT.of (ex _ _ ha), SqT.of (ex _ _ hb), q _ _ _ (.refl ex) (.bl _)⟩
    | _ => cases h
  | _ => cases h
end DL
namespace DL
open PySem PySem.Spec L2

/-! ### chained comparisons, bits, is, bit_length -/
def ch2 (f g : D → D → R D) (a b c : R D) : R D := a >>= fun x => b >>= fun y => calm (f x y) >>= asB >>= fun k => if k = true then (c >>= fun z => calm (g y z)) else .ok (.bl false)
section
variable {X : Cx} {E : Wh} {K : PySem.W.Frag} {mg : Gm} {I I' H H' : Hp} {σ : L2.St} {ρ : Env} {a b c e : Expr} {es : List Expr} {pos p : Pos} {ma mb mc m : Env → R D} {mt mu : Env → R Bool} {ms : Env → R (List D)} {x : Str} {ta tb tc t : TE} {tt tu : TT} {tas tr : TA} {tl th : TO}
theorem chain_sn {r r' : R2} {f g : D → D → R D} (hs : RSn X.K (gm X E) r f) (hs' : RSn X.K (gm X E) r' g) (sa : Sn X.K (gm X E) E.e (Rep X.K (gm X E)) ta ma) (sb : Sn X.K (gm X E) E.e (Rep X.K (gm X E)) tb mb) (sc : Sn X.K (gm X E) E.e (Rep X.K (gm X E)) tc mc) :
    Sn X.K (gm X E) E.e (Rep X.K (gm X E)) (tChain r r' ta tb tc) (fun ρ => ch2 f g (ma ρ) (mb ρ) (mc ρ)) := by
  intro σ I H ρ Q re ex h
  refine sa.run re ex h fun d v I1 H1 _ st rx h => ?_
  refine sb.run (re.mono st.i) st.e h fun d2 v2 I2 H2 _ st2 ry h => ?_
  cases hz : f d d2 with
  | err _ _ =>
    rw [hz] at h
    exact h.elim
  | stuck =>
    rw [hz] at h
    exact h.elim
  | ok z =>
    rw [hz] at h
    refine hs v v2 I2 H2 d d2 z _ st2.e (rx.mono st2.i) ry hz fun v3 I3 H3 st3 r3 => ?_
    cases r3 with
    | bl k =>
      refine ⟨k, rfl, ?_⟩
      cases k with
      | false => exact h.there st3 (.bl false)
      | true =>
        have h : Out X.K (gm X E) (E.e σ) (Rep X.K (gm X E)) I2 H2 (mc ρ >>= fun z => calm (g d2 z)) Q := h
        have re3 := ((re.mono st.i).mono st2.i).mono st3.i
        refine sc.run re3 st3.e (h.mono st3) fun d4 v4 I4 H4 _ st4 r4 h => ?_
        obtain ⟨z4, hz4, h⟩ := out_calm h
        exact hs' v2 v4 I4 H4 d2 d4 z4 Q st4.e ((ry.mono st3.i).mono st4.i) r4 hz4 h
    | _ => exact h.elim
/-- a < b < c -/
theorem me_chain {op op' : CmpOp} {r r' : R2} {f g : D → D → R D} (ho : OpR X (compareOp op) r) (hs : RSn X.K (gm X E) r f) (ho' : OpR X (compareOp op') r') (hs' : RSn X.K (gm X E) r' g) (ha : ME X E a ta ma) (hb : ME X E b tb mb) (hc : ME X E c tc mc) (hm : lastMarks [op, op'] [b, c] = false := by with_unfolding_all rfl) :
    ME X E (.Compare a [op, op'] [b, c] pos) (tChain r r' ta tb tc) (fun ρ => ch2 f g (ma ρ) (mb ρ) (mc ρ)) :=
  ⟨pe_chain ho ho' ha.pe hb.pe hc.pe hm, chain_sn hs hs' ha.sn hb.sn hc.sn⟩
theorem sn_test {te : TE} (h : Sn X.K (gm X E) E.e (Rep X.K (gm X E)) te m) : Sn X.K (gm X E) E.e rB (tTest te) (fun ρ => tst (m ρ)) := by
  intro σ I H ρ Q re ex q
  refine h.run re ex q fun d v I1 H1 _ st rx h => ?_
  cases rx with
  | bl k => exact ⟨k, rfl, h.here st.e rfl⟩
  | _ => exact h.elim
theorem mt_chain {op op' : CmpOp} {r r' : R2} {f g : D → D → R D} (ho : OpR X (compareOp op) r) (hs : RSn X.K (gm X E) r f) (ho' : OpR X (compareOp op') r') (hs' : RSn X.K (gm X E) r' g) (ha : ME X E a ta ma) (hb : ME X E b tb mb) (hc : ME X E c tc mc) (hm : lastMarks [op, op'] [b, c] = false := by with_unfolding_all rfl) :
    MT X E (.Compare a [op, op'] [b, c] pos) (tTest (tChain r r' ta tb tc)) (fun ρ => tst (ch2 f g (ma ρ) (mb ρ) (mc ρ))) :=
  ⟨pt_chain ho ho' ha.pe hb.pe hc.pe hm, sn_test (chain_sn hs hs' ha.sn hb.sn hc.sn)⟩
/-! bits -/
def andD : D → D → R D
  | .int i, .int j => .ok (.int (Builtin.bitAnd i j))
  | _, _ => .stuck
def orD : D → D → R D
  | .int i, .int j => .ok (.int (Builtin.bitOr i j))
  | _, _ => .stuck
def xorD : D → D → R D
  | .int i, .int j => .ok (.int (Builtin.bitXor i j))
  | _, _ => .stuck
def shlD : D → D → R D
  | .int i, .int j => gd (0 ≤ j ∧ j ≤ 1000000 ∧ i.natAbs < 2 ^ 64) (.int (i * 2 ^ j.toNat))
  | _, _ => .stuck
def shrD : D → D → R D
  | .int i, .int j => gd (0 ≤ j) (.int (i / 2 ^ j.toNat))
  | _, _ => .stuck
theorem rs_and : RSn K mg (rI0 fun i j => .int (Builtin.bitAnd i j)) andD := rs_I0 (gd' := fun i j => .int (Builtin.bitAnd i j)) (fun _ _ _ => .int _) (fun _ _ => rfl) fun dx dy d h => by
  cases dx <;> cases dy <;> first | exact ⟨_, _, rfl, rfl⟩ | cases h
theorem rs_or : RSn K mg (rI0 fun i j => .int (Builtin.bitOr i j)) orD := rs_I0 (gd' := fun i j => .int (Builtin.bitOr i j)) (fun _ _ _ => .int _) (fun _ _ => rfl) fun dx dy d h => by
  cases dx <;> cases dy <;> first | exact ⟨_, _, rfl, rfl⟩ | cases h
theorem rs_xor : RSn K mg (rI0 fun i j => .int (Builtin.bitXor i j)) xorD := rs_I0 (gd' := fun i j => .int (Builtin.bitXor i j)) (fun _ _ _ => .int _) (fun _ _ => rfl) fun dx dy d h => by
  cases dx <;> cases dy <;> first | exact ⟨_, _, rfl, rfl⟩ | cases h
theorem rs_shl : RSn K mg (rI CPow fun i j => .int (i * 2 ^ j.toNat)) shlD := rs_I (gd' := fun i j => .int (i * 2 ^ j.toNat)) (fun _ _ _ => .int _) (fun i j d h => (gd_of h).imp id Eq.symm) fun dx dy d h => by
  cases dx <;> cases dy <;> first | exact ⟨_, _, rfl, rfl⟩ | cases h
theorem rs_shr : RSn K mg (rI (fun _ j => 0 ≤ j) fun i j => .int (i / 2 ^ j.toNat)) shrD := rs_I (gd' := fun i j => .int (i / 2 ^ j.toNat)) (fun _ _ _ => .int _) (fun i j d h => (gd_of h).imp id Eq.symm) fun dx dy d h => by
  cases dx <;> cases dy <;> first | exact ⟨_, _, rfl, rfl⟩ | cases h
def bitsD : D → R D
  | .int i => .ok (.int (Builtin.Int.intBits i : Nat))
  | _ => .stuck
theorem me_bits {apos : Pos} (ha : ME X E a ta ma) (hbase : attributeBase a "bit_length" X.env (eval a X.env) = eval a X.env := by rfl) (hline : (apos.endLine == pos.line) = true := by rfl) : ME X E (.Call (.Attribute a "bit_length" apos) [] [] pos) (tBits ta) (fun ρ => o1 bitsD (ma ρ)) := by
  obtain ⟨pa, sa⟩ := ha
  refine ⟨pe_bits pa hbase hline, fun σ I H ρ Q re ex h => ?_⟩
  refine sa.run re ex h fun d v I1 H1 _ st rx h => ?_
  cases rx with
  | int i => exact ⟨i, rfl, h.here st.e (.int _)⟩
  | _ => exact h.elim
/-! x is None -/
def isND : D → D → R D
  | d, .non => .ok (.bl (match d with | .non => true | _ => false))
  | _, _ => .stuck
def notND : D → D → R D
  | d, .non => .ok (.bl (match d with | .non => false | _ => true))
  | _, _ => .stuck
theorem rs_isN : RSn K mg (fun x y H Q => y = .non ∧ Q (.bl (decide (x = .non))) H) isND := by
  intro x y I H dx dy d Q ex rx ry h q
  cases ry with
  | non =>
    refine ⟨rfl, ?_⟩
    cases rx <;> (have h := R.ok.inj h; subst h; exact q _ _ _ (.refl ex) (.bl _))
  | _ => cases dx <;> cases h
theorem rs_notN : RSn K mg (fun x y H Q => y = .non ∧ Q (.bl (!decide (x = .non))) H) notND := by
  intro x y I H dx dy d Q ex rx ry h q
  cases ry with
  | non =>
    refine ⟨rfl, ?_⟩
    cases rx <;> (have h := R.ok.inj h; subst h; exact q _ _ _ (.refl ex) (.bl _))
  | _ => cases dx <;> cases h
end
end DL
namespace DL
open PySem PySem.Spec L2

/-! ### enumerate of a list -/
def enumD : Nat → List D → List D
  | _, [] => []
  | k, d :: ds => .tup [.int (k : Int), d] :: enumD (k + 1) ds
theorem enumD_len : ∀ (k : Nat) (ds : List D), (enumD k ds).length = ds.length
  | _, [] => rfl
  | k, d :: ds => congrArg (· + 1) (enumD_len (k + 1) ds)
theorem enumD_get : ∀ (k : Nat) (ds : List D) (i : Nat) {x : D}, (enumD k ds)[i]? = some x → ∃ d, ds[i]? = some d ∧ x = .tup [.int ((k + i : Nat) : Int), d]
  | _, [], i, x, h => by simp [enumD] at h
  | k, d :: ds, 0, x, h => by
    have h : _ = _ := Option.some.inj h
    subst h
    exact ⟨d, rfl, rfl⟩
  | k, d :: ds, i + 1, x, h => by
    obtain ⟨d', h1, rfl⟩ := enumD_get (k + 1) ds i h
    exact ⟨d', h1, by rw [show k + 1 + i = k + (i + 1) from by omega]⟩
section
variable {X : Cx} {E : Wh} {K : PySem.W.Frag} {mg : Gm} {I I' H H' : Hp} {σ : L2.St} {ρ : Env} {a b c e tg : Expr} {es : List Expr} {pos p tpos : Pos} {m : Env → R D} {ms : Env → R (List D)} {t : TE} {tas : TA}
theorem it_enum {a : Addr} {vs : List V} {ds : List D} (h : SqL K I a vs) (r : Reps K mg I vs ds) : ItOk K mg I (Ite K a) (enumD 0 ds) := fun I1 H e1 e2 => ⟨fun i d hd => by
    obtain ⟨d', hd', rfl⟩ := enumD_get 0 ds i hd
    obtain ⟨v, hv, rv⟩ := r.get hd'
    refine ⟨⟨vs, v, (e1.trans e2).seq h, hv⟩, fun x H' y => ?_⟩
    obtain ⟨T, x', rfl, hn, rfl, hx⟩ := y
    have e := hx vs ((e1.trans e2).seq h)
    rw [hv] at e
    cases e
    refine ⟨_, .new e2 hn, ?_⟩
    rw [Nat.zero_add]
    exact new_tup e2 hn (.cons (.int _) (.cons (rv.mono e1) .nil)), ⟨vs, (e1.trans e2).seq h, by rw [enumD_len]; exact Nat.le_of_eq r.len⟩⟩
def enum1 : List D → R (List D)
  | [.lst ds] => .ok (enumD 0 ds)
  | [.scr ns] => .ok (enumD 0 (ns.map D.int))
  | _ => .stuck
theorem mi_enum {elts : List Expr} {kk : Nat} (hg : Gl X "enumerate") (hm : X.mg "enumerate" = none) (ha : MA X E [e] tas ms) (hs : starEach [e] X.env = [(false, eval e X.env)] := by rfl) :
    MI X E (.Tuple elts kk tpos) (.Call (.Name "enumerate" p) [e] [] pos) (iEnum X.K tas) (fun ρ => dsp enum1 (ms ρ)) := by
  obtain ⟨pt, st⟩ := ha
  refine ⟨pi_enum hg hm pt hs, fun σ I H ρ Q re ex h => ?_⟩
  refine st.run re ex h fun ds vs I1 H1 _ s1 rs h => ?_
  unfold enum1 at h
  split at h
  · obtain ⟨v, rfl, r⟩ := reps1 rs
    cases r with
    | lst hh ra => exact ⟨_, _, rfl, SqL.of (s1.e _ _ hh), h.here s1.e (it_enum (SqL.of hh) ra)⟩
  · obtain ⟨v, rfl, r⟩ := reps1 rs
    cases r with
    | scr hh => exact ⟨_, _, rfl, s1.e.seq hh, h.here s1.e (it_enum hh .ints)⟩
  · exact h.elim
/-! ### sum, max, min of a list of ints -/
def sumD : List D → R D
  | [.lst ds] => match intsOf ds with
    | some ns => .ok (.int ns.sum)
    | none => .stuck
  | [.scr ns] => .ok (.int ns.sum)
  | _ => .stuck
def maxI : List Int → Int
  | [] => 0
  | [x] => x
  | x :: xs => max x (maxI xs)
def minI : List Int → Int
  | [] => 0
  | [x] => x
  | x :: xs => min x (minI xs)
theorem maxI_mem : ∀ {xs : List Int}, xs ≠ [] → maxI xs ∈ xs ∧ ∀ y ∈ xs, y ≤ maxI xs
  | [x], _ => ⟨by simp [maxI], by simp [maxI]⟩
  | x :: y :: xs, _ => by
    obtain ⟨h1, h2⟩ := maxI_mem (xs := y :: xs) (by simp)
    have e : maxI (x :: y :: xs) = max x (maxI (y :: xs)) := rfl
    rw [e]
    by_cases h : x ≤ maxI (y :: xs)
    · rw [Int.max_eq_right h]
      exact ⟨List.mem_cons_of_mem _ h1, fun z hz => by
        rcases List.mem_cons.mp hz with rfl | hz
        · exact h
        · exact h2 z hz⟩
    · rw [Int.max_eq_left (by omega)]
      exact ⟨List.mem_cons_self, fun z hz => by
        rcases List.mem_cons.mp hz with rfl | hz
        · omega
        · have := h2 z hz
          omega⟩
theorem minI_mem : ∀ {xs : List Int}, xs ≠ [] → minI xs ∈ xs ∧ ∀ y ∈ xs, minI xs ≤ y
  | [x], _ => ⟨by simp [minI], by simp [minI]⟩
  | x :: y :: xs, _ => by
    obtain ⟨h1, h2⟩ := minI_mem (xs := y :: xs) (by simp)
    have e : minI (x :: y :: xs) = min x (minI (y :: xs)) := rfl
    rw [e]
    by_cases h : minI (y :: xs) ≤ x
    · rw [Int.min_eq_right h]
      exact ⟨List.mem_cons_of_mem _ h1, fun z hz => by
        rcases List.mem_cons.mp hz with rfl | hz
        · exact h
        · exact h2 z hz⟩
    · rw [Int.min_eq_left (by omega)]
      exact ⟨List.mem_cons_self, fun z hz => by
        rcases List.mem_cons.mp hz with rfl | hz
        · omega
        · have := h2 z hz
          omega⟩
def maxD : List D → R D
  | [.lst ds] => match intsOf ds with
    | some (n :: ns) => .ok (.int (maxI (n :: ns)))
    | _ => .stuck
  | _ => .stuck
def minD : List D → R D
  | [.lst ds] => match intsOf ds with
    | some (n :: ns) => .ok (.int (minI (n :: ns)))
    | _ => .stuck
  | _ => .stuck
theorem cs_sum : CSn K mg (rSum K) sumD := by
  intro xs I H ds d Q ex rs h q
  unfold sumD at h
  split at h
  · rename_i es
    obtain ⟨v, rfl, r⟩ := reps1 rs
    cases e : intsOf es with
    | none =>
      rw [e] at h
      cases h
    | some ns =>
      rw [e] at h
      cases h
      cases r with
      | lst hh ra =>
        obtain ⟨rfl, _⟩ := reps_ints ra e
        exact ⟨_, ns, rfl, SqL.of (ex _ _ hh), q _ _ _ (.refl ex) (.int _)⟩
  · obtain ⟨v, rfl, r⟩ := reps1 rs
    cases h
    cases r with
    | scr hh => exact ⟨_, _, rfl, ex.seq hh, q _ _ _ (.refl ex) (.int _)⟩
  · cases h
theorem cs_max : CSn K mg (rMax K) maxD := by
  intro xs I H ds d Q ex rs h q
  unfold maxD at h
  split at h
  · rename_i es
    obtain ⟨v, rfl, r⟩ := reps1 rs
    cases e : intsOf es with
    | none =>
      rw [e] at h
      cases h
    | some ns =>
      rw [e] at h
      cases ns with
      | nil => cases h
      | cons n ns =>
        cases h
        cases r with
        | lst hh ra =>
          obtain ⟨rfl, _⟩ := reps_ints ra e
          refine ⟨_, n :: ns, rfl, SqL.of (ex _ _ hh), Nat.succ_pos _, fun m hm hy => ?_⟩
          obtain ⟨h1, h2⟩ := maxI_mem (xs := n :: ns) (by simp)
          have : m = maxI (n :: ns) := Int.le_antisymm (h2 m hm) (hy _ h1)
          subst this
          exact q _ _ _ (.refl ex) (.int _)
  · cases h
theorem cs_min : CSn K mg (rMin K) minD := by
  intro xs I H ds d Q ex rs h q
  unfold minD at h
  split at h
  · rename_i es
    obtain ⟨v, rfl, r⟩ := reps1 rs
    cases e : intsOf es with
    | none =>
      rw [e] at h
      cases h
    | some ns =>
      rw [e] at h
      cases ns with
      | nil => cases h
      | cons n ns =>
        cases h
        cases r with
        | lst hh ra =>
          obtain ⟨rfl, _⟩ := reps_ints ra e
          refine ⟨_, n :: ns, rfl, SqL.of (ex _ _ hh), Nat.succ_pos _, fun m hm hy => ?_⟩
          obtain ⟨h1, h2⟩ := minI_mem (xs := n :: ns) (by simp)
          have : m = minI (n :: ns) := Int.le_antisymm (hy _ h1) (h2 m hm)
          subst this
          exact q _ _ _ (.refl ex) (.int _)
  · cases h
end
end DL
namespace DL
open PySem PySem.Spec L2

section
variable {K : PySem.W.Frag} {mg : Gm} {I J : Hp}
/-- J is I without things whose kinds are not in the data -/
structure Less (J I : Hp) (bad : Nat → Prop) : Prop where
  same : ∀ a o, I a = some o → J a = some o ∨ (bad (HO.kd o) ∧ HO.kd o < 4)
mutual
theorem Rep.less {bad : Nat → Prop} (l : Less J I bad) : ∀ {v : V} {d : D}, Rep K mg I v d → (∀ k, bad k → d.has k = false) → Rep K mg J v d
  | _, _, .non, _ => .non
  | _, _, .bl b, _ => .bl b
  | _, _, .int i, _ => .int i
  | _, _, .str x, _ => .str x
  | _, _, .ty n, _ => .ty n
  | _, _, .cls h, _ => .cls h
  | _, _, .rng h, _ => (l.same _ _ h).elim .rng fun z => absurd z.2 (by show ¬ 4 < 4; decide)
  | _, _, .lst h r, q => (l.same _ _ h).elim (fun h => .lst h (Reps.less l r fun k hk => by
      have := q k hk
      rw [D.has, Bool.or_eq_false_iff] at this
      exact this.2)) fun z => by
      have := q 0 z.1
      rw [D.has] at this
      cases this
  | _, _, .tup h r, q => (l.same _ _ h).elim (fun h => .tup h (Reps.less l r fun k hk => by
      have := q k hk
      rw [D.has] at this
      exact this)) fun z => absurd z.2 (by show ¬ 4 < 4; decide)
  | _, _, .obj h c r, q => (l.same _ _ h).elim (fun h => .obj h c (Reps.less l r fun k hk => by
      have := q k hk
      rw [D.has, Bool.or_eq_false_iff] at this
      exact this.2)) fun z => by
      have := q 3 z.1
      rw [D.has] at this
      cases this
  | _, _, .dk (.inr ⟨u, h⟩) r, q => (l.same _ _ h).elim (fun h => .dk (.inr ⟨u, h⟩) (Reps.less l r fun k hk => by
      have := q k hk
      rw [D.has, Bool.or_eq_false_iff] at this
      exact this.2)) fun z => absurd z.2 (by show ¬ 4 < 4; decide)
  | _, _, .dk (.inl h) r, q => (l.same _ _ h).elim (fun h => .dk (.inl h) (Reps.less l r fun k hk => by
      have := q k hk
      rw [D.has, Bool.or_eq_false_iff] at this
      exact this.2)) fun z => by
      have := q 1 z.1
      rw [D.has] at this
      cases this
  | _, _, .dt (.inr ⟨u, h⟩) r, q => (l.same _ _ h).elim (fun h => .dt (.inr ⟨u, h⟩) (Reps.less l r fun k hk => by
      have := q k hk
      rw [D.has, Bool.or_eq_false_iff] at this
      exact this.2)) fun z => absurd z.2 (by show ¬ 4 < 4; decide)
  | _, _, .dt (.inl h) r, q => (l.same _ _ h).elim (fun h => .dt (.inl h) (Reps.less l r fun k hk => by
      have := q k hk
      rw [D.has, Bool.or_eq_false_iff] at this
      exact this.2)) fun z => by
      have := q 2 z.1
      rw [D.has] at this
      cases this
  | _, _, .exc x n h r, q => (l.same _ _ h).elim (fun h => .exc x n h (Reps.less l r fun k hk => by
      have := q k hk
      rw [D.has] at this
      exact this)) fun z => absurd z.2 (by show ¬ 4 < 4; decide)
  | _, _, .scr h, q => by
      refine .scr ?_
      rcases h with (h | ⟨o, h⟩) | h
      · rcases l.same _ _ h with h | z
        · exact .inl (.inl h)
        · have := q 0 z.1
          cases this
      · rcases l.same _ _ h with h | z
        · exact .inl (.inr ⟨o, h⟩)
        · exact absurd z.2 (by show ¬ 4 < 4; decide)
      · exact .inr h
theorem Reps.less {bad : Nat → Prop} (l : Less J I bad) : ∀ {vs : List V} {ds : List D}, Reps K mg I vs ds → (∀ k, bad k → D.hasAny k ds = false) → Reps K mg J vs ds
  | _, _, .nil, _ => .nil
  | _, _, .cons h r, q => .cons (Rep.less l h fun k hk => by
      have := q k hk
      rw [D.hasAny, Bool.or_eq_false_iff] at this
      exact this.1) (Reps.less l r fun k hk => by
      have := q k hk
      rw [D.hasAny, Bool.or_eq_false_iff] at this
      exact this.2)
end
/-- what is known of a value that may be kept -/
theorem keepOk_of {M : List Nat} {ρ : Env} {d d0 : D} {i : Nat} (h : keepOk M ρ d = true) (hi : i ∈ M) (q : ρ[i]? = some (some d0)) : d.has d0.kind = false ∧ (deep M i = true → d.has 0 = false) := by
  have := List.all_eq_true.mp h i hi
  rw [q] at this
  simp at this
  refine ⟨this.1, fun z => ?_⟩
  rcases this.2 with y | y
  · rw [z] at y
    cases y
  · exact y
end
section
variable {K : PySem.W.Frag} {mg : Gm} {E : XK} {Mb M M' M1 : List Nat} {Ie : Hp × Addr} {He I H I' H' : Hp} {σ : L2.St} {ρ : Env} {D0 : Ends} {I0 : Hp}
/-- all slots may be read; what comes back may be kept if nothing in it is of the kind of a thing of one's own -/
theorem Sn.mild {te : L2.St → Hp → (V → Hp → Prop) → Prop} {m : Env → R D} {k : D → R Fl} {P : V → Hp → Prop} (h : Sn K mg (fun _ => E) (Rep K mg) te m) (s : SE K mg M Ie He σ I H ρ) (hq : OutS K mg E Mb M' Ie He I0 D0 (m ρ >>= fun d => if keepOk M ρ d = true then k d else .stuck))
    (hk : ∀ d v I' H', SE K mg M Ie He σ I' H' ρ → Stp I H I' H' → Rep K mg I' v d → OutS K mg E Mb M' Ie He I0 D0 (k d) → P v H') : te σ H P := by
  obtain ⟨I1, k1, s1, f1⟩ := s.all2
  refine h σ I1 H _ P (RE.of s1) s1.st.e (Out.of s1.st hq fun d _ q v I2 H2 t r => ?_)
  by_cases hd : keepOk M ρ d = true
  · rw [if_pos hd] at q
    classical
    let J : Hp := fun a => if I a = none ∧ I1 a ≠ none then none else I2 a
    have ji : Same I J := fun a o z => by
      show (if I a = none ∧ I1 a ≠ none then none else I2 a) = some o
      rw [if_neg (fun w => by rw [z] at w; cases w.1)]
      exact t.i _ _ (k1 _ _ z)
    have jh : Same J H2 := fun a o z => by
      have z : (if I a = none ∧ I1 a ≠ none then none else I2 a) = some o := z
      split at z
      · cases z
      · exact t.e _ _ z
    have jf : ∀ a o, J a = some o → I a = some o ∨ Fr H a o := fun a o z => by
      have z : (if I a = none ∧ I1 a ≠ none then none else I2 a) = some o := z
      split at z
      · cases z
      · rename_i w
        rcases t.f _ _ z with y | y
        · cases e : I a with
          | none => exact absurd ⟨e, by rw [y]; exact fun w => by cases w⟩ w
          | some o' =>
            have := k1 _ _ e
            rw [y] at this
            cases this
            exact .inl rfl
        · exact .inr y
    have st : Stp I H J H2 := ⟨ji, t.h, jh, jf⟩
    have less : Less J I2 (fun kd => ∃ i ∈ M, ∃ d0, ρ[i]? = some (some d0) ∧ (kd = d0.kind ∨ (deep M i = true ∧ kd = 0))) := ⟨fun a o z => by
      by_cases w : I a = none ∧ I1 a ≠ none
      · cases e : I1 a with
        | none => exact absurd e w.2
        | some o' =>
          have z2 := t.i _ _ e
          rw [z] at z2
          cases z2
          rcases f1 a o e with y | ⟨i, hi, d0, q1, q2, q3⟩
          · rw [w.1] at y
            cases y
          · exact .inr ⟨⟨i, hi, d0, q1, q2⟩, q3⟩
      · refine .inl ?_
        show (if I a = none ∧ I1 a ≠ none then none else I2 a) = some o
        rw [if_neg w]
        exact z⟩
    exact hk d v J H2 (s.step st) st (r.less less fun kd ⟨i, hi, d0, q1, q2⟩ => by
      obtain ⟨k1, k2⟩ := keepOk_of hd hi q1
      rcases q2 with rfl | ⟨y, rfl⟩
      · exact k1
      · exact k2 y) q
  · rw [if_neg hd] at q
    exact q.elim
end
def asgV (M : List Nat) (i : Nat) (ρ : Env) (a : R D) : R Fl := a >>= fun d => if keepOk M ρ d = true then .ok (.nx (ρ.set i (some d))) else .stuck
section
variable {X : Cx} {E : XK} {Mb M M' M1 : List Nat} {s : Stmt} {ss : List Stmt} {t u : TS} {ms mr : Env → R Fl} {e c : Expr} {te : TE} {m : Env → R D} {pos : Pos} {x : Str} {tt : TT} {mt : Env → R Bool}
theorem ms_setV (i : Nat) {px : Pos} (hN : X.N.Nodup) (he : ME X (kE E) e te m) (hi : X.N[i]? = some x := by rfl) (hx : Loc X.env.scope x := by first | exact .inl rfl | exact .inr rfl) (hM : i ∉ M := by decide) (hs : swapsWith e (some (.Name x px)) pos.line X.env = pure false := by rfl) (hf : X.fn x = true ∨ X.env.scope.names.lookup x = some .local := by first | exact .inl rfl | exact .inr rfl) :
    MS X E Mb M M (.Assign [.Name x px] e pos) (tAsg te (gName i)) (fun ρ => asgV M i ρ (m ρ)) :=
  ⟨ps_set hN hi hx he.pe hs hf, fun Ie He σ I H ρ D0 s h => he.sn.mild s h fun d v I1 H1 s1 t r q => q _ I1 H1 (s1.set hM r) t.i⟩
end
end DL
namespace DL
open PySem PySem.Spec L2

/-! ### attributes -/
def getF (f : Str) : List Str → List D → Option D
  | k :: ks, d :: ds => if f = k then some d else getF f ks ds
  | _, _ => none
section
variable {K : PySem.W.Frag} {mg : Gm} {I : Hp}
theorem getF_rep {f : Str} : ∀ {fs : List (Str × V)} {ds : List D} {d : D}, Reps K mg I (fs.map (·.2)) ds → getF f (fs.map (·.1)) ds = some d → ∃ v, fs.lookup f = some v ∧ Rep K mg I v d
  | [], _, _, _, h => by
    simp [getF] at h
  | (g, v) :: fs, e :: ds, d, .cons h r, q => by
    have q : (if f = g then some e else getF f (fs.map (·.1)) ds) = some d := q
    by_cases hf : f = g
    · subst hf
      rw [if_pos rfl] at q
      cases q
      exact ⟨v, by rw [List.lookup_cons]; simp, h⟩
    · rw [if_neg hf] at q
      obtain ⟨v', a, b⟩ := getF_rep r q
      refine ⟨v', ?_, b⟩
      rw [List.lookup_cons, show (f == g) = false from by rw [beq_eq_false_iff_ne]; exact hf]
      exact a
end
def fldD (ns : List Str) (f : Str) : D → R D
  | .obj n ks ds => if n ∈ ns then (match getF f ks ds with | some d => .ok d | none => .stuck) else .stuck
  | _ => .stuck
/-- what is known of the classes whose objects have the attribute -/
def ClF (K : PySem.W.Frag) (mg : Gm) (ns : List Str) (f : Str) : Prop := ∀ n ∈ ns, ∀ C, mg n = some (.ref C) → Cls K C ∧ NoAttr K C f
/-! ### keys -/
def keyD : D → Option Key
  | .int i => some (.inl i)
  | .str x => some (.inr x)
  | _ => none
def keysD : List D → Option (List Key)
  | [] => some []
  | d :: ds => match keyD d, keysD ds with
    | some k, some ks => some (k :: ks)
    | _, _ => none
def getK {κ : Type} [DecidableEq κ] (k : κ) : List κ → List D → Option D
  | k' :: ks, d :: ds => if k' = k then some d else getK k ks ds
  | _, _ => none
/-- what stands in the dict at the key: none: no such question -/
def lookD : D → D → Option (Option D)
  | .dk ks ds, d => (keyD d).map fun k => getK k ks ds
  | .dt ks ds, .tup es => (keysD es).map fun k => getK k ks ds
  | _, _ => none
section
variable {K : PySem.W.Frag} {mg : Gm} {I H : Hp}
theorem keyD_v {v : V} {d : D} {k : Key} (r : Rep K mg I v d) (h : keyD d = some k) : v = kV k := by
  cases r <;> first | (cases h; done) | (cases h; rfl)
theorem keysD_v : ∀ {vs : List V} {ds : List D} {ks : List Key}, Reps K mg I vs ds → keysD ds = some ks → vs = ks.map kV
  | _, _, _, .nil, h => by
    cases h
    rfl
  | _, _, ks, .cons (d := d) (ds := ds) a r, h => by
    unfold keysD at h
    cases e1 : keyD d with
    | none =>
      rw [e1] at h
      cases h
    | some k =>
      cases e2 : keysD ds with
      | none =>
        rw [e1, e2] at h
        cases h
      | some ks' =>
        rw [e1, e2] at h
        cases h
        rw [keyD_v a e1, keysD_v r e2]
        rfl
theorem getK_rep {κ : Type} [DecidableEq κ] {k : κ} : ∀ {kvs : List (κ × V)} {ds : List D}, Reps K mg I (kvs.map (·.2)) ds →
    (∃ v d, valV kvs k = some v ∧ getK k (kvs.map (·.1)) ds = some d ∧ Rep K mg I v d) ∨ (valV kvs k = none ∧ getK k (kvs.map (·.1)) ds = none)
  | [], _, _ => .inr ⟨rfl, by simp [getK]⟩
  | (g, v) :: kvs, e :: ds, .cons h r => by
    show (∃ v' d, valV ((g, v) :: kvs) k = some v' ∧ (if g = k then some e else getK k (kvs.map (·.1)) ds) = some d ∧ Rep K mg I v' d) ∨ (valV ((g, v) :: kvs) k = none ∧ (if g = k then some e else getK k (kvs.map (·.1)) ds) = none)
    by_cases hg : g = k
    · rw [if_pos hg, valV_pos (p := (g, v)) hg]
      exact .inl ⟨v, e, rfl, rfl, h⟩
    · have e1 : valV ((g, v) :: kvs) k = valV kvs k := by simp [valV, List.find?_cons, hg]
      rw [if_neg hg, e1]
      exact getK_rep r
theorem look_rep {x y : V} {dd d : D} {o : Option D} (ex : Same I H) (rx : Rep K mg I x dd) (ry : Rep K mg I y d) (h : lookD dd d = some o) : ∃ a r, x = .ref a ∧ IsD H a ∧ DGet H a y r ∧ ((∃ v d', r = some v ∧ o = some d' ∧ Rep K mg I v d') ∨ (r = none ∧ o = none)) := by
  cases rx with
  | @dk a kvs ds ha ra =>
    cases e : keyD d with
    | none =>
      have h : (keyD d).map (fun k => getK k (kvs.map (·.1)) ds) = some o := h
      rw [e] at h
      cases h
    | some k =>
      have h : (keyD d).map (fun k => getK k (kvs.map (·.1)) ds) = some o := h
      rw [e] at h
      cases h
      have := keyD_v ry e
      subst this
      refine ⟨a, _, rfl, .inl ⟨kvs, same_rd ex ha⟩, .inl ⟨kvs, k, same_rd ex ha, rfl, rfl⟩, ?_⟩
      rcases getK_rep (k := k) ra with ⟨v, d', h1, h2, h3⟩ | ⟨h1, h2⟩
      · exact .inl ⟨v, d', h1, h2, h3⟩
      · exact .inr ⟨h1, h2⟩
  | @dt a kvs ds ha ra =>
    cases ry with
    | @tup b vs es hb rb =>
      have h : (keysD es).map (fun k => getK k (kvs.map (·.1)) ds) = some o := h
      cases e : keysD es with
      | none =>
        rw [e] at h
        cases h
      | some k =>
        rw [e] at h
        cases h
        have := keysD_v rb e
        subst this
        refine ⟨a, _, rfl, .inr ⟨kvs, same_rd ex ha⟩, .inr ⟨kvs, k, b, same_rd ex ha, rfl, ex _ _ hb, rfl⟩, ?_⟩
        rcases getK_rep (k := k) ra with ⟨v, d', h1, h2, h3⟩ | ⟨h1, h2⟩
        · exact .inl ⟨v, d', h1, h2, h3⟩
        · exact .inr ⟨h1, h2⟩
    | _ => cases h
  | _ => cases h
end
def dgetD (dd d : D) : R D := match lookD dd d with
  | some (some e) => .ok e
  | _ => .stuck
def dinD (d dd : D) : R D := match lookD dd d with
  | some o => .ok (.bl o.isSome)
  | none => .stuck
def dninD (d dd : D) : R D := match lookD dd d with
  | some o => .ok (.bl (!o.isSome))
  | none => .stuck
def dget2D : List D → R D
  | [dd, d, e] => match lookD dd d with
    | some o => .ok (o.getD e)
    | none => .stuck
  | _ => .stuck
section
variable {X : Cx} {E : Wh} {K : PySem.W.Frag} {mg : Gm} {I I' H H' : Hp} {σ : L2.St} {ρ : Env} {a b c e f : Expr} {es : List Expr} {pos p : Pos} {ma mb mc m : Env → R D} {x : Str} {ta tb tc t : TE}
/-- e.f -/
theorem me_fld (ns : List Str) {g : Str} (hT : ClF X.K (gm X E) ns g) (ha : ME X E a ta ma) (hb : attributeBase a g X.env (eval a X.env) = eval a X.env := by rfl) : ME X E (.Attribute a g pos) (tFld X.K ta g) (fun ρ => o1 (fldD ns g) (ma ρ)) := by
  obtain ⟨pa, sa⟩ := ha
  refine ⟨pe_fld pa hb, fun σ I H ρ Q re ex h => ?_⟩
  refine sa.run re ex h fun d v I1 H1 _ st rx h => ?_
  obtain ⟨z, hz, h9⟩ := out_calm h
  cases rx with
  | @obj a0 C dx n fs ds ha hc ra =>
    have hz : (if n ∈ ns then (match getF g (fs.map (·.1)) ds with | some d => R.ok d | none => .stuck) else .stuck) = R.ok z := hz
    by_cases hn : n ∈ ns
    · rw [if_pos hn] at hz
      cases e : getF g (fs.map (·.1)) ds with
      | none =>
        rw [e] at hz
        cases hz
      | some d' =>
        rw [e] at hz
        cases hz
        obtain ⟨v', h1, h2⟩ := getF_rep ra e
        obtain ⟨k1, k2⟩ := hT n hn C hc
        exact ⟨a0, C, dx, fs, v', rfl, st.e _ _ ha, k1, k2, h1, h9 _ _ _ (.refl st.e) h2⟩
    · rw [if_neg hn] at hz
      cases hz
  | _ => cases hz
/-- d[k] of a dict -/
theorem me_dget (hu : X.A.units + 1 < cLine) (ha : ME X E a ta ma) (hb : ME X E b tb mb) (hs : NoSl b := by exact fun _ _ => rfl) : ME X E (.Subscript a b pos) (tDGet ta tb) (fun ρ => o2 dgetD (ma ρ) (mb ρ)) := by
  obtain ⟨pa, sa⟩ := ha
  obtain ⟨pb, sb⟩ := hb
  refine ⟨pe_dget hu pa pb hs, fun σ I H ρ Q re ex h => ?_⟩
  refine sa.run re ex h fun d v I1 H1 _ st rx h => ?_
  refine sb.run (re.mono st.i) st.e h fun d2 v2 I2 H2 _ st2 ry h => ?_
  obtain ⟨z, hz, h⟩ := out_calm h
  unfold dgetD at hz
  cases e : lookD d d2 with
  | none =>
    rw [e] at hz
    cases hz
  | some o =>
    cases o with
    | none =>
      rw [e] at hz
      cases hz
    | some z' =>
      rw [e] at hz
      cases hz
      obtain ⟨a0, r, rfl, _, hg, hr⟩ := look_rep st2.e (rx.mono st2.i) ry e
      rcases hr with ⟨v', d', rfl, h1, h2⟩ | ⟨_, h1⟩
      · cases h1
        exact ⟨a0, v', rfl, hg, h _ _ _ (.refl st2.e) h2⟩
      · cases h1
/-- k in d, k not in d -/
theorem me_din (hu : X.A.units + 1 < cLine) (ha : ME X E a ta ma) (hb : ME X E b tb mb) (h1 : behindInMarks .In b = false := by rfl) : ME X E (.Compare a [.In] [b] pos) (tDIn ta tb) (fun ρ => o2 dinD (ma ρ) (mb ρ)) := by
  obtain ⟨pa, sa⟩ := ha
  obtain ⟨pb, sb⟩ := hb
  refine ⟨pe_cmp (pc_din hu pa pb) h1, fun σ I H ρ Q re ex h => ?_⟩
  refine sa.run re ex h fun d v I1 H1 _ st rx h => ?_
  refine sb.run (re.mono st.i) st.e h fun d2 v2 I2 H2 _ st2 ry h => ?_
  obtain ⟨z, hz, h⟩ := out_calm h
  unfold dinD at hz
  cases e : lookD d2 d with
  | none =>
    rw [e] at hz
    cases hz
  | some o =>
    rw [e] at hz
    cases hz
    obtain ⟨a0, r, rfl, _, hg, hr⟩ := look_rep st2.e ry (rx.mono st2.i) e
    refine ⟨a0, r, rfl, hg, ?_⟩
    rcases hr with ⟨v', d', rfl, rfl, _⟩ | ⟨rfl, rfl⟩
    · exact h _ _ _ (.refl st2.e) (.bl _)
    · exact h _ _ _ (.refl st2.e) (.bl _)
theorem me_dnin (hu : X.A.units + 1 < cLine) (ha : ME X E a ta ma) (hb : ME X E b tb mb) (h1 : behindInMarks .NotIn b = false := by rfl) : ME X E (.Compare a [.NotIn] [b] pos) (tDNotIn ta tb) (fun ρ => o2 dninD (ma ρ) (mb ρ)) := by
  obtain ⟨pa, sa⟩ := ha
  obtain ⟨pb, sb⟩ := hb
  refine ⟨pe_cmp (pc_dnotin hu pa pb) h1, fun σ I H ρ Q re ex h => ?_⟩
  refine sa.run re ex h fun d v I1 H1 _ st rx h => ?_
  refine sb.run (re.mono st.i) st.e h fun d2 v2 I2 H2 _ st2 ry h => ?_
  obtain ⟨z, hz, h⟩ := out_calm h
  unfold dninD at hz
  cases e : lookD d2 d with
  | none =>
    rw [e] at hz
    cases hz
  | some o =>
    rw [e] at hz
    cases hz
    obtain ⟨a0, r, rfl, _, hg, hr⟩ := look_rep st2.e ry (rx.mono st2.i) e
    refine ⟨a0, r, rfl, hg, ?_⟩
    rcases hr with ⟨v', d', rfl, rfl, _⟩ | ⟨rfl, rfl⟩
    · exact h _ _ _ (.refl st2.e) (.bl _)
    · exact h _ _ _ (.refl st2.e) (.bl _)
end
end DL
namespace DL
open PySem PySem.Spec L2

/-! ### an own object's attribute, an own dict's pair -/
def putNs (f : Str) : List Str → List Str
  | [] => [f]
  | g :: ks => if g = f then g :: ks else g :: putNs f ks
def putDs (f : Str) (d : D) : List Str → List D → List D
  | g :: ks, e :: ds => if g = f then d :: ds else e :: putDs f d ks ds
  | _, _ => [d]
def putKs {κ : Type} [DecidableEq κ] (k : κ) (ks : List κ) : List κ := if k ∈ ks then ks else ks ++ [k]
def repK {κ : Type} [DecidableEq κ] (k : κ) (d : D) : List κ → List D → List D
  | k' :: ks, e :: ds => (if k' = k then d else e) :: repK k d ks ds
  | _, _ => []
def putKd {κ : Type} [DecidableEq κ] (k : κ) (d : D) (ks : List κ) (ds : List D) : List D := if k ∈ ks then repK k d ks ds else ds ++ [d]
section
variable {K : PySem.W.Frag} {mg : Gm} {I : Hp}
theorem putF_ns {f : Str} {v : V} : ∀ fs : List (Str × V), (putF f v fs).map (·.1) = putNs f (fs.map (·.1))
  | [] => rfl
  | (g, x) :: fs => by
    show (if g = f then (g, v) :: fs else (g, x) :: putF f v fs).map (·.1) = if g = f then g :: fs.map (·.1) else g :: putNs f (fs.map (·.1))
    by_cases h : g = f
    · rw [if_pos h, if_pos h]
      rfl
    · rw [if_neg h, if_neg h, ← putF_ns fs]
      rfl
theorem putF_ds {f : Str} {v : V} {d : D} (r : Rep K mg I v d) : ∀ {fs : List (Str × V)} {ds : List D}, Reps K mg I (fs.map (·.2)) ds → Reps K mg I ((putF f v fs).map (·.2)) (putDs f d (fs.map (·.1)) ds)
  | [], _, .nil => .cons r .nil
  | (g, x) :: fs, e :: ds, .cons h t => by
    show Reps K mg I ((if g = f then (g, v) :: fs else (g, x) :: putF f v fs).map (·.2)) (if g = f then d :: ds else e :: putDs f d (fs.map (·.1)) ds)
    by_cases h0 : g = f
    · rw [if_pos h0, if_pos h0]
      exact .cons r t
    · rw [if_neg h0, if_neg h0]
      exact .cons h (putF_ds r t)
theorem putK_ks {κ : Type} [DecidableEq κ] {k : κ} {v : V} (kvs : List (κ × V)) : (putK kvs k v).map (·.1) = putKs k (kvs.map (·.1)) := by
  unfold putK putKs
  by_cases h : (kvs.any fun kv => decide (kv.1 = k)) = true
  · have hm : k ∈ kvs.map (·.1) := by
      obtain ⟨p, hp, e⟩ := List.any_eq_true.mp h
      exact List.mem_map.mpr ⟨p, hp, of_decide_eq_true e⟩
    rw [if_pos h, if_pos hm, List.map_map]
    refine List.map_congr_left fun p _ => ?_
    show (if p.1 = k then (p.1, v) else p).1 = p.1
    split <;> rfl
  · have hm : ¬ k ∈ kvs.map (·.1) := fun z => by
      obtain ⟨p, hp, e⟩ := List.mem_map.mp z
      exact h (List.any_eq_true.mpr ⟨p, hp, decide_eq_true e⟩)
    rw [if_neg h, if_neg hm, List.map_append]
    rfl
theorem repK_rep {κ : Type} [DecidableEq κ] {k : κ} {v : V} {d : D} (r : Rep K mg I v d) : ∀ {kvs : List (κ × V)} {ds : List D}, Reps K mg I (kvs.map (·.2)) ds → Reps K mg I ((kvs.map fun kv => if kv.1 = k then (kv.1, v) else kv).map (·.2)) (repK k d (kvs.map (·.1)) ds)
  | [], _, .nil => .nil
  | (g, x) :: kvs, e :: ds, .cons h t => by
    show Reps K mg I ((if g = k then (g, v) else (g, x)).2 :: (kvs.map fun kv => if kv.1 = k then (kv.1, v) else kv).map (·.2)) ((if g = k then d else e) :: repK k d (kvs.map (·.1)) ds)
    refine .cons ?_ (repK_rep r t)
    by_cases h0 : g = k
    · rw [if_pos h0, if_pos h0]
      exact r
    · rw [if_neg h0, if_neg h0]
      exact h
theorem putK_ds {κ : Type} [DecidableEq κ] {k : κ} {v : V} {d : D} {kvs : List (κ × V)} {ds : List D} (r : Rep K mg I v d) (t : Reps K mg I (kvs.map (·.2)) ds) : Reps K mg I ((putK kvs k v).map (·.2)) (putKd k d (kvs.map (·.1)) ds) := by
  unfold putK putKd
  by_cases h : (kvs.any fun kv => decide (kv.1 = k)) = true
  · have hm : k ∈ kvs.map (·.1) := by
      obtain ⟨p, hp, e⟩ := List.any_eq_true.mp h
      exact List.mem_map.mpr ⟨p, hp, of_decide_eq_true e⟩
    rw [if_pos h, if_pos hm]
    exact repK_rep r t
  · have hm : ¬ k ∈ kvs.map (·.1) := fun z => by
      obtain ⟨p, hp, e⟩ := List.mem_map.mp z
      exact h (List.any_eq_true.mpr ⟨p, hp, decide_eq_true e⟩)
    rw [if_neg h, if_neg hm, List.map_append]
    exact t.app (.cons r .nil)
end
def fldG (i : Nat) (n f : Str) (ρ : Env) (d : D) : R Fl := match ρ[i]? with
  | some (some (.obj n' ks ds)) => if n' = n ∧ ks.length < 900 then .ok (.nx (ρ.set i (some (.obj n (putNs f ks) (putDs f d ks ds))))) else .stuck
  | _ => .stuck
def fldS (M : List Nat) (i : Nat) (n f : Str) (ρ : Env) (a : R D) : R Fl := a >>= fun d => if keepOk M ρ d = true then fldG i n f ρ d else .stuck
def dputG (i : Nat) (ρ : Env) (d : D) : D → D → R Fl
  | .dk ks ds, kd => match keyD kd with
    | some k => if ks.length < LIM then .ok (.nx (ρ.set i (some (.dk (putKs k ks) (putKd k d ks ds))))) else .stuck
    | none => .stuck
  | .dt ks ds, .tup es => match keysD es with
    | some k => if ks.length < LIM then .ok (.nx (ρ.set i (some (.dt (putKs k ks) (putKd k d ks ds))))) else .stuck
    | none => .stuck
  | _, _ => .stuck
def dputS (M : List Nat) (i : Nat) (ρ : Env) (a k : R D) : R Fl := a >>= fun d => if keepOk M ρ d = true then (calm (get ρ i) >>= fun d0 => k >>= dputG i ρ d d0) else .stuck
theorem get_of {ρ : Env} {i : Nat} {d : D} (h : get ρ i = .ok d) : ρ[i]? = some (some d) := by
  unfold get at h
  split at h
  · cases h
    assumption
  · cases h
section
variable {X : Cx} {E : XK} {Mb M M' M1 : List Nat} {s : Stmt} {ss : List Stmt} {t u : TS} {ms mr : Env → R Fl} {e c : Expr} {te : TE} {m : Env → R D} {pos pos' : Pos} {x : Str}
/-- self.f = e, self one's own -/
theorem ms_fldV (i : Nat) (n : Str) {g : Str} {px : Pos} (hT : ∀ C, X.mg n = some (.ref C) → Cls X.K C ∧ NoAttr X.K C g) (he : ME X (kE E) e te m) (hi : X.N[i]? = some x := by rfl) (hv : Vis X.env.scope x := by first | exact Or.inl rfl | exact Or.inr (Or.inl rfl)) (hM : i ∈ M := by decide) (hD : deep M i = false := by decide)
    (hd : (x == ("__debug__" : Str)) = false := by decide) (hcd : (x == ("__classdict__" : Str)) = false := by decide) (hs : swapsWith e (some (.Attribute (.Name x px) g pos')) pos.line X.env = pure false := by rfl) :
    MS X E Mb M M (.Assign [.Attribute (.Name x px) g pos'] e pos) (sFld X.K (tVar i) te g) (fun ρ => fldS M i n g ρ (m ρ)) :=
  ⟨ps_fld (pe_var (i := i) hi hv hd hcd) he.pe hs, fun Ie He σ I H ρ D0 s h => he.sn.mild s h fun d v I1 H1 s1 t r q => by
    unfold fldG at q
    split at q
    · rename_i n' ks ds q0
      obtain ⟨⟨rfl, hl⟩, q⟩ := outS_if q
      obtain ⟨p, o, h2, h3, h4, h5, h6⟩ := s1.own_ i _ hM q0
      have h6 := h6.of hD
      cases h6 with
      | @ins C dx _ fs _ hc ra =>
        obtain ⟨k1, k2⟩ := hT C hc
        rw [List.length_map] at hl
        refine ⟨_, h2, p, C, dx, fs, rfl, h5, k1, k2, by omega, ?_⟩
        have := s1.putO hM q0 h2 (OwnR.ins (dx := dx) hc (putF_ds (f := g) r ra)) (fun _ => rfl) hD
        rw [putF_ns] at this
        exact q _ I1 _ this t.i
    · exact q.elim⟩
/-- d[k] = e, d one's own -/
theorem ms_dputV (i : Nat) {px : Pos} {k : Expr} {tk : TE} {mk : Env → R D} (hu : X.A.units + 1 < cLine) (he : ME X (kE E) e te m) (hk : ME X (kE E) k tk mk) (hi : X.N[i]? = some x := by rfl) (hv : Vis X.env.scope x := by first | exact Or.inl rfl | exact Or.inr (Or.inl rfl)) (hM : i ∈ M := by decide) (hD : deep M i = false := by decide)
    (hd : (x == ("__debug__" : Str)) = false := by decide) (hcd : (x == ("__classdict__" : Str)) = false := by decide) (hs : swapsWith e (some (.Subscript (.Name x px) k pos')) pos.line X.env = pure false := by rfl) :
    MS X E Mb M M (.Assign [.Subscript (.Name x px) k pos'] e pos) (sDPut (tVar i) tk te) (fun ρ => dputS M i ρ (m ρ) (mk ρ)) :=
  ⟨ps_dput hu (pe_var (i := i) hi hv hd hcd) hk.pe he.pe hs, fun Ie He σ I H ρ D0 s h => he.sn.mild (k := fun d => calm (get ρ i) >>= fun d0 => mk ρ >>= dputG i ρ d d0) s h fun d v I1 H1 s1 t r q => by
    obtain ⟨d0, hg, q⟩ := outS_calm q
    have q0 := get_of hg
    obtain ⟨p, o, h2, h3, h4, h5, h6⟩ := s1.own_ i _ hM q0
    have h6 := h6.of hD
    refine ⟨_, h2, hk.sn.weak s1 (q.mono t.i) fun kd vk I2 H2 s2 t2 rk q => ?_⟩
    obtain ⟨p', o', g2, g3, g4, g5, g6⟩ := s2.own_ i _ hM q0
    rw [h2] at g2
    cases g2
    have g9 := g6.of hD
    cases g9 with
    | @dk kvs ds ra =>
      have q : OutS X.K (g0 X.mg) E Mb M Ie He I1 D0 (match keyD kd with
        | some k => if (kvs.map (·.1)).length < LIM then .ok (.nx (ρ.set i (some (.dk (putKs k (kvs.map (·.1))) (putKd k d (kvs.map (·.1)) ds))))) else .stuck
        | none => .stuck) := q
      cases e : keyD kd with
      | none =>
        rw [e] at q
        exact q.elim
      | some k =>
        rw [e] at q
        obtain ⟨hl, q⟩ := outS_if q
        rw [List.length_map] at hl
        have := keyD_v rk e
        subst this
        have st := s2.putO hM q0 h2 (OwnR.dk (putK_ds (k := k) r ra)) (fun h => by cases h) hD
        rw [putK_ks] at st
        exact ⟨p, _, rfl, DPut.k g5 (lim_lt (Nat.le_of_lt hl)), q _ I1 _ st (.refl _)⟩
    | @dt kvs ds ra =>
      cases rk with
      | @tup b vs es hb rb =>
        have q : OutS X.K (g0 X.mg) E Mb M Ie He I1 D0 (match keysD es with
          | some k => if (kvs.map (·.1)).length < LIM then .ok (.nx (ρ.set i (some (.dt (putKs k (kvs.map (·.1))) (putKd k d (kvs.map (·.1)) ds))))) else .stuck
          | none => .stuck) := q
        cases e : keysD es with
        | none =>
          rw [e] at q
          exact q.elim
        | some k =>
          rw [e] at q
          obtain ⟨hl, q⟩ := outS_if q
          rw [List.length_map] at hl
          have := keysD_v rb e
          subst this
          have st := s2.putO hM q0 h2 (OwnR.dt (putK_ds (k := k) r ra)) (fun h => by cases h) hD
          rw [putK_ks] at st
          exact ⟨p, _, rfl, DPut.t g5 (t2.e _ _ hb) (lim_lt (Nat.le_of_lt hl)), q _ I1 _ st (.refl _)⟩
      | _ => exact q.elim
    | lst _ => exact q.elim
    | ins _ _ => exact q.elim⟩
/-- x = {} -/
theorem ms_newK (i : Nat) {px : Pos} (hN : X.N.Nodup) (hi : X.N[i]? = some x := by rfl) (hx : Loc X.env.scope x := by first | exact .inl rfl | exact .inr rfl) (hM : i ∈ M := by decide) (hD : deep M i = false := by decide) (hs : swapsWith (.Dict [] [] pos') (some (.Name x px)) pos.line X.env = pure false := by rfl) (hf : X.fn x = true ∨ X.env.scope.names.lookup x = some .local := by first | exact .inl rfl | exact .inr rfl) :
    MS X E Mb M M (.Assign [.Name x px] (.Dict [] [] pos') pos) (tAsg tDNewK (gName i)) (fun ρ => .ok (.nx (ρ.set i (some (.dk [] []))))) :=
  ⟨ps_set hN hi hx pe_dnewK hs hf, fun Ie He σ I H ρ D0 s h p hp => by
    have t : Stp I H I (upd H p (.dK [])) := .side s.st.e hp
    exact h _ I _ (s.ownO (d9 := .dk [] []) hM t (s.st.e.free hp) hp upd_same (OwnR.dk (kvs := []) .nil) (fun h => by cases h) hD) (.refl _)⟩
theorem ms_newT (i : Nat) {px : Pos} (hN : X.N.Nodup) (hi : X.N[i]? = some x := by rfl) (hx : Loc X.env.scope x := by first | exact .inl rfl | exact .inr rfl) (hM : i ∈ M := by decide) (hD : deep M i = false := by decide) (hs : swapsWith (.Dict [] [] pos') (some (.Name x px)) pos.line X.env = pure false := by rfl) (hf : X.fn x = true ∨ X.env.scope.names.lookup x = some .local := by first | exact .inl rfl | exact .inr rfl) :
    MS X E Mb M M (.Assign [.Name x px] (.Dict [] [] pos') pos) (tAsg tDNewT (gName i)) (fun ρ => .ok (.nx (ρ.set i (some (.dt [] []))))) :=
  ⟨ps_set hN hi hx pe_dnewT hs hf, fun Ie He σ I H ρ D0 s h p hp => by
    have t : Stp I H I (upd H p (.dT [])) := .side s.st.e hp
    exact h _ I _ (s.ownO (d9 := .dt [] []) hM t (s.st.e.free hp) hp upd_same (OwnR.dt (kvs := []) .nil) (fun h => by cases h) hD) (.refl _)⟩
end
end DL
namespace DL
open PySem PySem.Spec L2

/-! ### a subscript, a membership: of a dict or of what has places -/
def ixA : D → D → R D
  | .dk ks ds, k => dgetD (.dk ks ds) k
  | .dt ks ds, k => dgetD (.dt ks ds) k
  | d, k => ixD d k
def inA (d : D) : D → R D
  | .dk ks ds => dinD d (.dk ks ds)
  | .dt ks ds => dinD d (.dt ks ds)
  | e => inD d e
def ninA (d : D) : D → R D
  | .dk ks ds => dninD d (.dk ks ds)
  | .dt ks ds => dninD d (.dt ks ds)
  | e => notInD d e
theorem PE.or {X : Cx} {e : Expr} {t t' : TE} (h : PE X e t) (h' : PE X e t') : PE X e (fun σ H Q => t σ H Q ∨ t' σ H Q) := ⟨fun pins s σ H Q I q => by
  rcases q with q | q
  · exact h.run pins s σ H Q I q
  · exact h'.run pins s σ H Q I q⟩
theorem PT.or {X : Cx} {e : Expr} {t t' : TT} (h : PT X e t) (h' : PT X e t') : PT X e (fun σ H Q => t σ H Q ∨ t' σ H Q) := ⟨fun pins s σ H Q I q => by
  rcases q with q | q
  · exact h.run pins s σ H Q I q
  · exact h'.run pins s σ H Q I q⟩
theorem sn_or {K : PySem.W.Frag} {mg : Gm} {E : XS} {α β : Type} {rp : Hp → β → α → Prop} {t t' : L2.St → Hp → (β → Hp → Prop) → Prop} {m m' mm : Env → R α} (h : Sn K mg E rp t m) (h' : Sn K mg E rp t' m') (hc : ∀ ρ, mm ρ = m ρ ∨ mm ρ = m' ρ) : Sn K mg E rp (fun σ H Q => t σ H Q ∨ t' σ H Q) mm := by
  intro σ I H ρ Q re ex q
  rcases hc ρ with e | e
  · rw [e] at q
    exact .inl (h σ I H ρ Q re ex q)
  · rw [e] at q
    exact .inr (h' σ I H ρ Q re ex q)
theorem o2_l {f g h : D → D → R D} (hf : ∀ x, (∀ y, f x y = g x y) ∨ (∀ y, f x y = h x y)) (a b : R D) : o2 f a b = o2 g a b ∨ o2 f a b = o2 h a b := by
  cases a with
  | ok x =>
    rcases hf x with e | e
    · refine .inl ?_
      show (b >>= fun y => calm (f x y)) = b >>= fun y => calm (g x y)
      congr 1
      funext y
      rw [e]
    · refine .inr ?_
      show (b >>= fun y => calm (f x y)) = b >>= fun y => calm (h x y)
      congr 1
      funext y
      rw [e]
  | err _ _ => exact .inl rfl
  | stuck => exact .inl rfl
theorem o2_r {f g h : D → D → R D} (hf : ∀ y, (∀ x, f x y = g x y) ∨ (∀ x, f x y = h x y)) (a b : R D) : o2 f a b = o2 g a b ∨ o2 f a b = o2 h a b := by
  cases b with
  | ok y =>
    rcases hf y with e | e
    · refine .inl ?_
      show (a >>= fun x => calm (f x y)) = a >>= fun x => calm (g x y)
      congr 1
      funext x
      rw [e]
    · refine .inr ?_
      show (a >>= fun x => calm (f x y)) = a >>= fun x => calm (h x y)
      congr 1
      funext x
      rw [e]
  | err _ _ => exact .inl rfl
  | stuck => exact .inl rfl
theorem ixA_or (x : D) : (∀ y, ixA x y = dgetD x y) ∨ (∀ y, ixA x y = ixD x y) := by
  cases x <;> first | exact .inl fun _ => rfl | exact .inr fun _ => rfl
theorem inA_or (y : D) : (∀ x, inA x y = dinD x y) ∨ (∀ x, inA x y = inD x y) := by
  cases y <;> first | exact .inl fun _ => rfl | exact .inr fun _ => rfl
theorem ninA_or (y : D) : (∀ x, ninA x y = dninD x y) ∨ (∀ x, ninA x y = notInD x y) := by
  cases y <;> first | exact .inl fun _ => rfl | exact .inr fun _ => rfl
section
variable {X : Cx} {E : Wh} {a b : Expr} {pos : Pos} {ma mb : Env → R D} {ta tb : TE}
theorem me_ixA (K : PySem.W.Frag) (hu : X.A.units + 1 < cLine) (ha : ME X E a ta ma) (hb : ME X E b tb mb) (hs : NoSl b := by exact fun _ _ => rfl) (hp : PlainIx b := by exact fun _ _ => rfl) (hK : X.K = K := by rfl) : ME X E (.Subscript a b pos) (fun σ H Q => tDGet ta tb σ H Q ∨ tOp (rIx K) ta tb σ H Q) (fun ρ => o2 ixA (ma ρ) (mb ρ)) := by
  subst hK
  have h1 : ME X E (.Subscript a b pos) _ _ := me_dget hu ha hb hs
  have h2 : ME X E (.Subscript a b pos) _ _ := me_ix (r := rIx X.K) ix_seq rs_ix ha hb hp
  exact ⟨PE.or h1.pe h2.pe, sn_or h1.sn h2.sn fun ρ => o2_l ixA_or _ _⟩
theorem me_inA (K : PySem.W.Frag) (hu : X.A.units + 1 < cLine) (ha : ME X E a ta ma) (hb : ME X E b tb mb) (hm : behindInMarks .In b = false := by rfl) (hK : X.K = K := by rfl) : ME X E (.Compare a [.In] [b] pos) (fun σ H Q => tDIn ta tb σ H Q ∨ tOp (rInX K) ta tb σ H Q) (fun ρ => o2 inA (ma ρ) (mb ρ)) := by
  subst hK
  have h1 : ME X E (.Compare a [.In] [b] pos) _ _ := me_din hu ha hb hm
  have h2 : ME X E (.Compare a [.In] [b] pos) _ _ := me_cmp (r := rInX X.K) op_inX rs_in ha hb hm
  exact ⟨PE.or h1.pe h2.pe, sn_or h1.sn h2.sn fun ρ => o2_r inA_or _ _⟩
theorem me_ninA (K : PySem.W.Frag) (hu : X.A.units + 1 < cLine) (ha : ME X E a ta ma) (hb : ME X E b tb mb) (hm : behindInMarks .NotIn b = false := by rfl) (hK : X.K = K := by rfl) : ME X E (.Compare a [.NotIn] [b] pos) (fun σ H Q => tDNotIn ta tb σ H Q ∨ tOp (rNinX K) ta tb σ H Q) (fun ρ => o2 ninA (ma ρ) (mb ρ)) := by
  subst hK
  have h1 : ME X E (.Compare a [.NotIn] [b] pos) _ _ := me_dnin hu ha hb hm
  have h2 : ME X E (.Compare a [.NotIn] [b] pos) _ _ := me_cmp (r := rNinX X.K) op_ninX rs_notIn ha hb hm
  exact ⟨PE.or h1.pe h2.pe, sn_or h1.sn h2.sn fun ρ => o2_r ninA_or _ _⟩
theorem sn_tB {K : PySem.W.Frag} {mg : Gm} {E : XS} {te : TE} {m : Env → R D} (h : Sn K mg E (Rep K mg) te m) : Sn K mg E rB (tB te) (fun ρ => tst (m ρ)) := by
  intro σ I H ρ Q re ex q
  refine h.run re ex q fun d v I1 H1 _ st rx h => ?_
  cases rx with
  | bl k => exact ⟨k, rfl, h.here st.e rfl⟩
  | _ => exact h.elim
theorem tst_or {m m' mm : R D} (h : mm = m ∨ mm = m') : tst mm = tst m ∨ tst mm = tst m' := h.imp (congrArg tst) (congrArg tst)
theorem mt_inA (K : PySem.W.Frag) (hu : X.A.units + 1 < cLine) (ha : ME X E a ta ma) (hb : ME X E b tb mb) (hm : behindInMarks .In b = false := by rfl) (hK : X.K = K := by rfl) : MT X E (.Compare a [.In] [b] pos) (fun σ H Q => tB (tDIn ta tb) σ H Q ∨ tTest (tOp (rInX K) ta tb) σ H Q) (fun ρ => tst (o2 inA (ma ρ) (mb ρ))) := by
  subst hK
  have h1 : ME X E (.Compare a [.In] [b] pos) _ _ := me_din hu ha hb hm
  have h2 : MT X E (.Compare a [.In] [b] pos) _ _ := mt_cmp (r := rInX X.K) op_inX rs_in ha hb hm
  exact ⟨PT.or (pt_cmp (pc_din hu ha.pe hb.pe) hm) h2.pe, sn_or (sn_tB h1.sn) h2.sn fun ρ => tst_or (o2_r inA_or _ _)⟩
theorem mt_ninA (K : PySem.W.Frag) (hu : X.A.units + 1 < cLine) (ha : ME X E a ta ma) (hb : ME X E b tb mb) (hm : behindInMarks .NotIn b = false := by rfl) (hK : X.K = K := by rfl) : MT X E (.Compare a [.NotIn] [b] pos) (fun σ H Q => tB (tDNotIn ta tb) σ H Q ∨ tTest (tOp (rNinX K) ta tb) σ H Q) (fun ρ => tst (o2 ninA (ma ρ) (mb ρ))) := by
  subst hK
  have h1 : ME X E (.Compare a [.NotIn] [b] pos) _ _ := me_dnin hu ha hb hm
  have h2 : MT X E (.Compare a [.NotIn] [b] pos) _ _ := mt_cmp (r := rNinX X.K) op_ninX rs_notIn ha hb hm
  exact ⟨PT.or (pt_cmp (pc_dnotin hu ha.pe hb.pe) hm) h2.pe, sn_or (sn_tB h1.sn) h2.sn fun ρ => tst_or (o2_r ninA_or _ _)⟩
/-! ### d.get(k, e) -/
def isDct : D → Bool
  | .dk _ _ => true
  | .dt _ _ => true
  | _ => false
def og2 (f : D → D → D → R D) (a b c : R D) : R D := a >>= fun d => if isDct d = true then (b >>= fun k => c >>= fun e => calm (f d k e)) else .stuck
def dgetE (d k e : D) : R D := match lookD d k with
  | some o => .ok (o.getD e)
  | none => .stuck
theorem isDct_rep {K : PySem.W.Frag} {mg : Gm} {I H : Hp} {v : V} {d : D} (ex : Same I H) (r : Rep K mg I v d) (h : isDct d = true) : ∃ a, v = .ref a ∧ IsD H a := by
  cases r with
  | dk ha _ => exact ⟨_, rfl, .inl ⟨_, same_rd ex ha⟩⟩
  | dt ha _ => exact ⟨_, rfl, .inr ⟨_, same_rd ex ha⟩⟩
  | _ => cases h
theorem me_get2 {c : Expr} {mc : Env → R D} {tc : TE} {apos : Pos} (hu : X.A.units + 1 < cLine) (ha : ME X E a ta ma) (hb : ME X E b tb mb) (hc : ME X E c tc mc) (hm : M2 X a "get" apos b c pos := by exact ⟨rfl, rfl, rfl, rfl⟩) :
    ME X E (.Call (.Attribute a "get" apos) [b, c] [] pos) (tDGet2 ta tb tc) (fun ρ => og2 dgetE (ma ρ) (mb ρ) (mc ρ)) := by
  obtain ⟨pa, sa⟩ := ha
  obtain ⟨pb, sb⟩ := hb
  obtain ⟨pc, sc⟩ := hc
  refine ⟨pe_dget2 hu pa pb pc hm, fun σ I H ρ Q re ex h => ?_⟩
  refine sa.run re ex h fun d v I1 H1 _ st rx h => ?_
  obtain ⟨hd, h⟩ := out_if h
  obtain ⟨a0, rfl, hi⟩ := isDct_rep st.e rx hd
  refine ⟨a0, rfl, hi, ?_⟩
  refine sb.run (re.mono st.i) st.e h fun d2 v2 I2 H2 _ st2 ry h => ?_
  refine sc.run ((re.mono st.i).mono st2.i) st2.e h fun d3 v3 I3 H3 _ st3 rz h => ?_
  obtain ⟨z, hz, h⟩ := out_calm h
  unfold dgetE at hz
  cases e : lookD d d2 with
  | none =>
    rw [e] at hz
    cases hz
  | some o =>
    rw [e] at hz
    cases hz
    obtain ⟨a1, r, ea, _, hg, hr⟩ := look_rep st3.e ((rx.mono st2.i).mono st3.i) (ry.mono st3.i) e
    cases ea
    refine ⟨r, hg, ?_⟩
    rcases hr with ⟨v', d', rfl, rfl, h2⟩ | ⟨rfl, rfl⟩
    · exact h _ _ _ (.refl st3.e) h2
    · exact h _ _ _ (.refl st3.e) rz
end
end DL
namespace DL
open PySem PySem.Spec L2

/-! ### len(set(row)) -/
def ded : List Int → List Int
  | [] => []
  | x :: xs => if x ∈ xs then ded xs else x :: ded xs
theorem ded_mem : ∀ (xs : List Int) (y : Int), y ∈ ded xs ↔ y ∈ xs
  | [], y => Iff.rfl
  | x :: xs, y => by
    unfold ded
    by_cases h : x ∈ xs
    · rw [if_pos h, ded_mem xs y, List.mem_cons]
      exact ⟨.inr, fun z => z.elim (fun e => e ▸ h) id⟩
    · rw [if_neg h, List.mem_cons, List.mem_cons, ded_mem xs y]
theorem ded_nodup : ∀ xs : List Int, (ded xs).Nodup
  | [] => .nil
  | x :: xs => by
    unfold ded
    by_cases h : x ∈ xs
    · rw [if_pos h]
      exact ded_nodup xs
    · rw [if_neg h]
      exact List.nodup_cons.mpr ⟨fun z => h ((ded_mem xs x).mp z), ded_nodup xs⟩
theorem ded_self {xs : List Int} (h : xs.Nodup) : ded xs = xs := by
  induction xs with
  | nil => rfl
  | cons x xs ih =>
    have h2 := List.nodup_cons.mp h
    unfold ded
    rw [if_neg h2.1, ih h2.2]
theorem ded_le : ∀ xs : List Int, (ded xs).length ≤ xs.length
  | [] => Nat.le_refl _
  | x :: xs => by
    unfold ded
    have := ded_le xs
    split
    · show _ ≤ xs.length + 1
      omega
    · show (ded xs).length + 1 ≤ xs.length + 1
      omega
theorem ded_lt {xs : List Int} (h : ¬ xs.Nodup) : (ded xs).length < xs.length := by
  induction xs with
  | nil => exact absurd .nil h
  | cons x xs ih =>
    unfold ded
    by_cases hx : x ∈ xs
    · rw [if_pos hx]
      have := ded_le xs
      show _ < xs.length + 1
      omega
    · rw [if_neg hx]
      have : ¬ xs.Nodup := fun z => h (List.nodup_cons.mpr ⟨hx, z⟩)
      have := ih this
      show (ded xs).length + 1 < xs.length + 1
      omega
theorem len_ded {l xs : List Int} (hn : l.Nodup) (hm : ∀ k, k ∈ l ↔ k ∈ xs) : l.length = (ded xs).length :=
  ((List.perm_ext_iff_of_nodup hn (ded_nodup xs)).mpr fun k => (hm k).trans (ded_mem xs k).symm).length_eq
open PyProof.Rows in
theorem fold_dedup : ∀ (xs acc : List Int), acc.Nodup → (xs.foldl step_dedup acc).Nodup ∧ ∀ k, k ∈ xs.foldl step_dedup acc ↔ k ∈ acc ∨ k ∈ xs
  | [], acc, h => ⟨h, fun k => by simp⟩
  | x :: xs, acc, h => by
    have hs : (step_dedup acc x).Nodup ∧ ∀ k, k ∈ step_dedup acc x ↔ k ∈ acc ∨ k = x := by
      unfold step_dedup
      by_cases hx : acc.any (· == x) = true
      · rw [if_pos hx]
        have hm : x ∈ acc := by
          obtain ⟨y, hy, e⟩ := List.any_eq_true.mp hx
          rw [beq_iff_eq.mp e] at hy
          exact hy
        exact ⟨h, fun k => ⟨.inl, fun z => z.elim id fun e => e ▸ hm⟩⟩
      · rw [if_neg hx]
        have hm : x ∉ acc := fun z => hx (List.any_eq_true.mpr ⟨x, z, beq_self_eq_true x⟩)
        refine ⟨List.nodup_append.mpr ⟨h, List.pairwise_singleton _ _, fun a ha b hb e => ?_⟩, fun k => by simp⟩
        rw [List.mem_singleton.mp hb] at e
        exact hm (e ▸ ha)
    obtain ⟨a, b⟩ := fold_dedup xs (step_dedup acc x) hs.1
    refine ⟨a, fun k => ?_⟩
    rw [List.foldl_cons, b k, hs.2 k, List.mem_cons, or_assoc]
open PyProof.Rows in
theorem firstMet_ded (ns : List Int) : (firstMet (fun i => ns.getD i 0) ns.length).length = (ded ns).length := by
  have e : (List.range ns.length).map (fun i => ns.getD i 0) = ns := by
    refine List.ext_getElem? fun i => ?_
    rw [List.getElem?_map]
    by_cases h : i < ns.length
    · rw [List.getElem?_range h, List.getElem?_eq_getElem h]
      show some (ns.getD i 0) = _
      rw [List.getD_eq_getElem?_getD, List.getElem?_eq_getElem h]
      rfl
    · rw [List.getElem?_eq_none (by rw [List.length_range]; omega), List.getElem?_eq_none (by omega)]
      rfl
  unfold firstMet
  rw [e]
  obtain ⟨a, b⟩ := fold_dedup ns [] .nil
  exact len_ded a fun k => (b k).trans (by simp)
def tLenSetA (K : PySem.W.Frag) (ta : TE) : TE := fun σ H Q => ta σ H fun x H1 => ∃ (l : Addr) (ns : List Int), x = V.ref l ∧ (SqL K H1 l (ns.map V.int) ∨ SqT K H1 l (ns.map V.int)) ∧ ns.length ≤ 1000 ∧ Q (.int ((ded ns).length : Nat)) H1
section
variable {X : Cx} {E : Wh} {a : Expr} {ta : TE} {ma : Env → R D} {p p2 q pos : Pos}
open PyProof.Rows in
theorem pe_lenSetA (hc : X.calm = true) (hg : Gl X "len") (hm : X.mg "len" = none) (hg2 : Gl X "set") (hm2 : X.mg "set" = none) (ha : PE X a ta)
    (na : starEach [a] X.env = [(false, eval a X.env)] := by rfl) : PE X (.Call (.Name "len" p) [.Call (.Name "set" p2) [a] [] q] [] pos) (tLenSetA X.K ta) := by
  constructor
  intro pins s σ H Q I h
  refine Call_ (ld_blt I hg hm PySem.boot_len (PyProof.Rows.callWith_builtin1 (PyProof.Rows.args_cons ?_ rfl) rfl rfl))
  refine Call_ (ld_blt I hg2 hm2 PyProof.Rows.boot_set (PyProof.Rows.callWith_type1 (PyProof.Rows.args_cons (thn (ha.run pins s σ H _ I h) fun v s1 ⟨x, H1, I1, r1, q1⟩ => PyProof.Rows.args_nil ?_) na) na rfl))
  obtain ⟨l, ns, ex, hq, hz, q1⟩ := q1
  subst ex
  cases r1
  have hd := I1.ok.hd hc
  have hle := ded_le ns
  rcases hq with hq | hq
  · obtain ⟨its, r, pl, _⟩ := I1.list hq
    have hl : its.toArray.size = ns.length := by rw [List.size_toArray, ← r.length, List.length_map]
    refine call_set_list hd pl.isList (ns := ns) (by simpa using r.ints) (by unfold scanBound; omega) fun h' tk hS hk => PyProof.Rows.args_nil ?_
    rw [hl, firstMet_ded] at hS
    obtain ⟨o, es, ep, t, ho, hex, hdt, _, _, _, hf, hn⟩ := hS
    have I2 : Inv X pins σ H1 { s1 with heap := h', toks := tk } := I1.kept fun b o e => hk b o (Heap.lt_size e) e
    exact call_len_set ho hex hdt hf (by omega) ⟨.int ((ded ns).length : Nat), H1, I2.tok _, ⟨_, by rw [hn]⟩, q1⟩
  · obtain ⟨its, rv, pt, _⟩ := I1.tuple hq
    have hi : IntsAre its.toArray.toList ns := ints_of_vals rv
    refine call_set_tupI ns hd (show s1.heap.IsTuple l its.toArray from pt) hi (by unfold scanBound; omega) fun h' tk c R1 hcn k => PyProof.Rows.args_nil ?_
    obtain ⟨o, es, ep, t, ho, hex, hdt, g, nd, hm3, hb, hf, hn, _, _⟩ := R1
    have e := len_ded nd fun k => (hm3 k).symm.trans decide_eq_true_iff
    rw [List.length_map, Array.length_toList] at e
    have I2 : Inv X pins σ H1 { s1 with heap := h', toks := tk } := I1.kept k
    exact call_len_set ho hex hdt hf (by omega) ⟨.int ((ded ns).length : Nat), H1, I2.tok _, ⟨_, by rw [e]⟩, q1⟩
def lenSetD : D → R D
  | .lst ds => match intsOf ds with
    | some ns => if ns.length ≤ 1000 then .ok (.int ((ded ns).length : Nat)) else .stuck
    | none => .stuck
  | .tup ds => match intsOf ds with
    | some ns => if ns.length ≤ 1000 then .ok (.int ((ded ns).length : Nat)) else .stuck
    | none => .stuck
  | .scr ns => if ns.length ≤ 1000 then .ok (.int ((ded ns).length : Nat)) else .stuck
  | _ => .stuck
theorem me_lenSet (hc : X.calm = true) (hg : Gl X "len") (hm : X.mg "len" = none) (hg2 : Gl X "set") (hm2 : X.mg "set" = none) (ha : ME X E a ta ma) (na : starEach [a] X.env = [(false, eval a X.env)] := by rfl) :
    ME X E (.Call (.Name "len" p) [.Call (.Name "set" p2) [a] [] q] [] pos) (tLenSetA X.K ta) (fun ρ => o1 lenSetD (ma ρ)) := by
  obtain ⟨pa, sa⟩ := ha
  refine ⟨pe_lenSetA hc hg hm hg2 hm2 pa na, fun σ I H ρ Q re ex h => ?_⟩
  refine sa.run re ex h fun d v I1 H1 _ st rx h9 => ?_
  obtain ⟨z, hz, h9⟩ := out_calm h9
  have fin : ∀ (ds : List D) (vs : List V) (l : Addr), v = .ref l → Reps X.K (gm X E) I1 vs ds → (SqL X.K H1 l vs ∨ SqT X.K H1 l vs) → (match intsOf ds with
    | some ns => if ns.length ≤ 1000 then R.ok (.int ((ded ns).length : Nat)) else .stuck
    | none => .stuck) = R.ok z → ∃ (l : Addr) (ns : List Int), v = V.ref l ∧ (SqL X.K H1 l (ns.map V.int) ∨ SqT X.K H1 l (ns.map V.int)) ∧ ns.length ≤ 1000 ∧ Q (.int ((ded ns).length : Nat)) H1 := fun ds vs l e r hs hz => by
    cases e1 : intsOf ds with
    | none =>
      rw [e1] at hz
      cases hz
    | some ns =>
      rw [e1] at hz
      have hz : (if ns.length ≤ 1000 then R.ok (D.int ((ded ns).length : Nat)) else .stuck) = R.ok z := hz
      by_cases hl : ns.length ≤ 1000
      · rw [if_pos hl] at hz
        cases hz
        obtain ⟨rfl, _⟩ := reps_ints r e1
        exact ⟨l, ns, e, hs, hl, h9 _ _ _ (.refl st.e) (.int _)⟩
      · rw [if_neg hl] at hz
        cases hz
  cases rx with
  | lst hh ra => exact fin _ _ _ rfl ra (.inl (SqL.of (st.e _ _ hh))) hz
  | tup hh ra => exact fin _ _ _ rfl ra (.inr (SqT.of (st.e _ _ hh))) hz
  | @scr a0 ns hh =>
    have hz : (if ns.length ≤ 1000 then R.ok (D.int ((ded ns).length : Nat)) else .stuck) = R.ok z := hz
    by_cases hl : ns.length ≤ 1000
    · rw [if_pos hl] at hz
      cases hz
      exact ⟨a0, ns, rfl, .inl (st.e.seq hh), hl, h9 _ _ _ (.refl st.e) (.int _)⟩
    · rw [if_neg hl] at hz
      cases hz
  | _ => cases hz
end
end DL
namespace DL
open PySem PySem.Spec L2

/-! ### exceptions: a class with an __init__ of its own that keeps its arguments -/
/-- what __init__ promises: the arguments under these names, the last one first -/
def spXI (C : Addr) (fs : List Str) : Sp := fun vs H Q _ => ∃ (a : Addr) (args : List V) (H1 : Hp), vs = .ref a :: args ∧ args.length = fs.length ∧ H1 a = none ∧ H = upd H1 a (exo a C none) ∧
  ∀ d H2, H1 d = none → d ≠ a → H2 a = some (exo a C (some d)) → H2 d = some (exd d (fs.zip args).reverse) → (∀ b, b ≠ a → b ≠ d → H2 b = H1 b) → Q .non H2
/-- its body: self.f = f, .. -/
def tX (K : PySem.W.Frag) : Nat → List Str → TS
  | _, [] => tNext
  | i, [f] => tOst K f (tVar 0) (tVar i)
  | i, f :: fs => tSeq (tOst K f (tVar 0) (tVar i)) (tX K (i + 1) fs)
structure ClX (K : PySem.W.Frag) (C : Addr) (fs : List Str) : Prop where
  t : OexC K C
  n : ∀ f ∈ fs, PySem.W.findIn K (.ref C) f = some none
theorem tX_rest {K : PySem.W.Frag} {C a d : Addr} {all : List Str} (T : ClX K C all) : ∀ (fs : List Str) (args : List V) (i : Nat) (σ : L2.St) (done : List (Str × V)) (H : Hp) (D0 : Ends), fs ≠ [] → (∀ f ∈ fs, f ∈ all) → σ[0]? = some (some (.ref a)) → args.length = fs.length → (∀ j v, args[j]? = some v → σ[i + j]? = some (some v)) →
    d ≠ a → H a = some (exo a C (some d)) → H d = some (exd d done) → done.length + fs.length ≤ 900 →
    (∀ H2, H2 a = some (exo a C (some d)) → H2 d = some (exd d ((fs.zip args).reverse ++ done)) → (∀ b, b ≠ a → b ≠ d → H2 b = H b) → D0.nx σ H2) → tX K i fs D0 σ H
  | [], _, _, _, _, _, _, h, _, _, _, _, _, _, _, _, _ => absurd rfl h
  | [f], [v], i, σ, done, H, D0, _, hf, h0, _, hv, hd, ha, hx, hl, q => by
    refine ⟨v, hv 0 v rfl, .ref a, h0, a, C, rfl, T.t, T.n f (hf f (by simp)), .inr ⟨d, done, ha, hx, by simp at hl; omega, ?_⟩⟩
    refine q _ ?_ upd_same fun b h1 h2 => upd_ne h2
    rw [upd_ne (Ne.symm hd)]
    exact ha
  | f :: g :: fs, v :: args, i, σ, done, H, D0, _, hf, h0, hlen, hv, hd, ha, hx, hl, q => by
    refine ⟨v, hv 0 v rfl, .ref a, h0, a, C, rfl, T.t, T.n f (hf f (by simp)), .inr ⟨d, done, ha, hx, by simp at hl; omega, ?_⟩⟩
    refine tX_rest T (g :: fs) args (i + 1) σ ((f, v) :: done) _ _ (by simp) (fun x hx => hf x (List.mem_cons_of_mem _ hx)) h0 (by simpa using hlen) (fun j v h => ?_) hd (by rw [upd_ne (Ne.symm hd)]; exact ha) upd_same (by simp at hl ⊢; omega) fun H2 e1 e2 e3 => ?_
    · rw [show i + 1 + j = i + (j + 1) from by omega]
      exact hv (j + 1) v h
    · refine q H2 e1 ?_ fun b h1 h2 => (e3 b h1 h2).trans (upd_ne h2)
      rw [e2]
      simp
  | [f], [], _, _, _, _, _, _, _, _, h, _, _, _, _, _, _ => by simp at h
  | [f], _ :: _ :: _, _, _, _, _, _, _, _, _, h, _, _, _, _, _, _ => by simp at h
  | _ :: _ :: _, [], _, _, _, _, _, _, _, _, h, _, _, _, _, _, _ => by simp at h
theorem tX_all {K : PySem.W.Frag} {C a : Addr} {all : List Str} (T : ClX K C all) (args : List V) (σ : L2.St) (H1 : Hp) (D0 : Ends) (hne : all ≠ []) (h0 : σ[0]? = some (some (.ref a))) (hlen : args.length = all.length) (hv : ∀ j v, args[j]? = some v → σ[1 + j]? = some (some v)) (hn : H1 a = none) (hl : all.length ≤ 900)
    (q : ∀ d H2, H1 d = none → d ≠ a → H2 a = some (exo a C (some d)) → H2 d = some (exd d (all.zip args).reverse) → (∀ b, b ≠ a → b ≠ d → H2 b = H1 b) → D0.nx σ H2) : tX K 1 all D0 σ (upd H1 a (exo a C none)) := by
  cases all with
  | nil => exact absurd rfl hne
  | cons f fs =>
    cases args with
    | nil => simp at hlen
    | cons v args =>
      have hd1 : ∀ d, (upd H1 a (exo a C none)) d = none → d ≠ a → H1 d = none := fun d e n => by
        rw [upd_ne n] at e
        exact e
      have key : ∀ (D1 : Ends), (∀ d, H1 d = none → d ≠ a → D1.nx σ (upd (upd (upd H1 a (exo a C none)) d (exd d [(f, v)])) a (exo a C (some d)))) → tOst K f (tVar 0) (tVar 1) D1 σ (upd H1 a (exo a C none)) := fun D1 k =>
        ⟨v, hv 0 v rfl, .ref a, h0, a, C, rfl, T.t, T.n f List.mem_cons_self, .inl ⟨upd_same, fun d e n => k d (hd1 d e n) n⟩⟩
      have other : ∀ d b, b ≠ a → b ≠ d → (upd (upd (upd H1 a (exo a C none)) d (exd d [(f, v)])) a (exo a C (some d))) b = H1 b := fun d b h1 h2 => by
        rw [upd_ne h1, upd_ne h2, upd_ne h1]
      cases fs with
      | nil =>
        have ea : args = [] := by
          cases args with
          | nil => rfl
          | cons _ _ => simp at hlen
        subst ea
        exact key D0 fun d e n => q d _ e n upd_same (by rw [upd_ne n, upd_same]; rfl) (other d)
      | cons g fs =>
        refine key _ fun d e n => ?_
        refine tX_rest T (g :: fs) args 2 σ [(f, v)] _ D0 (by simp) (fun x hx => List.mem_cons_of_mem _ hx) h0 (by simpa using hlen) (fun j v h => ?_) n upd_same (by rw [upd_ne n, upd_same]) (by simp at hl ⊢; omega) fun H2 e1 e2 e3 => ?_
        · rw [show 2 + j = 1 + (j + 1) from by omega]
          exact hv (j + 1) v h
        · refine q d H2 e n e1 ?_ fun b h1 h2 => (e3 b h1 h2).trans (other d b h1 h2)
          rw [e2]
          simp
theorem start_at {N : List Str} {vs : List V} {j : Nat} {v : V} (h : vs[j]? = some v) : (start N vs)[j]? = some (some v) := by
  have hl := (List.getElem?_eq_some_iff.mp h).1
  unfold L2.start
  rw [List.getElem?_append_left (by rw [List.length_map]; exact hl), List.getElem?_map, h]
  rfl
theorem fn_xi {P : Program} {w : World} {K : PySem.W.Frag} {mg : Str → Option Value} {base : Heap} {x qual : Str} {st : Stmt} {f C : Addr} {fd : FuncData} {N ps fs : List Str} {k : Nat} (F : Fun K x qual st f fd) (S : FnScope N ps (defScope st)) (hps : ps.length = fs.length + 1) (T : ClX K C fs) (hne : fs ≠ []) (hl : fs.length ≤ 900)
    (hb : ∀ (cdv : Value) (A : Around) (outer : List PySem.Env) (s : Shared) (H : Hp) (E : XK), PSs (cxOf CX0 P w K mg base N qual (defScope st) f cdv A outer s H E).nox (defBody st) (tX K 1 fs)) : FnOk P w K mg base CX0 (k + 1) f fd ps (spXI C fs) := by
  refine F.ok S (fun vs H Q E h => ?_) (fun cdv A outer s H vs Q E hr h => ?_)
  · obtain ⟨a, args, H1, rfl, hl, _⟩ := h
    rw [hps, List.length_cons, hl]
  · obtain ⟨a, args, H1, rfl, hlen, hn, rfl, q⟩ := h
    refine ⟨_, hb cdv A outer s _ E, tX_all T args _ H1 _ hne (start_at rfl) hlen (fun j v h => start_at ?_) hn hl fun d H2 e n e1 e2 e3 => q d H2 e n e1 e2 e3⟩
    rw [Nat.add_comm]
    exact h
/-- raise X(e, ..) -/
def raiseS (n : Str) (fs : List Str) (r : R (List D)) : R Fl := r >>= fun ds => if ds.length = fs.length ∧ fs.length ≤ 900 then .err n [.obj n fs.reverse ds.reverse] else .stuck
theorem zip_fst {args : List V} : ∀ {fs : List Str}, args.length = fs.length → (fs.zip args).reverse.map (·.1) = fs.reverse := fun {fs} h => by
  rw [List.map_reverse, List.map_fst_zip (by omega)]
theorem zip_snd {args : List V} : ∀ {fs : List Str}, args.length = fs.length → (fs.zip args).reverse.map (·.2) = args.reverse := fun {fs} h => by
  rw [List.map_reverse, List.map_snd_zip (by omega)]
theorem ms_raise {X : Cx} {E : XK} {Mb M M' : List Nat} {CX' : CXT} {x : Str} {C fI : Addr} {k : Nat} {fd : FuncData} {ps fs : List Str} {e : Expr} {es : List Expr} {tas : TA} {ms : Env → R (List D)} {p pos pos' : Pos} (hc : X.calm = true) (tk : Takes X (fun cls d _ H => E cls d H)) (T : ClX X.K C fs) (iC : PySem.W.findIn X.K (.ref C) "__init__" = some (some (.ref fI))) (tI : PySem.W.typeIn X.K (.ref fI) = some (.type "function"))
    (F1 : FnOk X.prog X.w X.K X.mg X.base CX' k fI fd ps (spXI C fs)) (hr : Room (k + 1) X.A) (hb : Binds X.K fd ps []) (hx : Passes CX' X (fun _ _ _ => False)) (hg : Gl X x) (hm : X.mg x = some (.ref C)) (ha : MA X (kE E) (e :: es) tas ms)
    (hdb : (x == ("__debug__" : Str)) = false := by decide) (he : starEach (e :: es) X.env = (false, eval e X.env) :: starEach es X.env := by rfl) (hpl : (backTo pos (starEach es X.env)).any (·.1) = false := by rfl) :
    MS X E Mb M M' (.Raise (some (.Call (.Name x p) (e :: es) [] pos)) none pos') (fun _ σ H => tMkO C (spXI C fs) [] tas σ H fun cls d H' => E cls d H') (fun ρ => raiseS x fs (ms ρ)) :=
  ⟨ps_raise hc tk (pmk_oex T.t iC tI F1 hr hb .nil hx hg hm ha.pe hdb he hpl), fun Ie He σ I H ρ D0 s h => ha.sn.weak (k := fun ds => if ds.length = fs.length ∧ fs.length ≤ 900 then .err x [.obj x fs.reverse ds.reverse] else .stuck) s h fun ds vs I1 H1 s1 st r q => by
    obtain ⟨⟨hl, hl9⟩, q⟩ := outS_if q
    have hvl : vs.length = fs.length := r.len.trans hl
    refine ⟨by omega, fun a hn => ⟨a, vs, H1, by rw [List.append_nil], hvl, hn, rfl, fun d H2 hd hne e1 e2 e3 => ⟨rfl, d, _, e1, e2, hd, ?_⟩⟩⟩
    have k1 : ∀ b o, H1 b = some o → (upd (del H2 a) d (.xd (fs.zip vs).reverse)) b = some o := fun b o hb => by
      have n1 : b ≠ a := fun z => by subst z; rw [hn] at hb; cases hb
      have n2 : b ≠ d := fun z => by subst z; rw [hd] at hb; cases hb
      rw [upd_ne n2, del_ne n1, e3 b n1 n2]
      exact hb
    have k2 : Same I1 (upd I1 d (.xd (fs.zip vs).reverse)) := fun b o hb => by
      rw [upd_ne (fun z => by subst z; rw [st.e _ _ hb] at hd; cases hd)]
      exact hb
    have q : ∀ C od I H, Stp Ie.1 He I H → XRep X.K (g0 X.mg) I H x [.obj x fs.reverse ds.reverse] C od → E C od H := q
    refine q (.ref C) (some d) (upd I1 d (.xd (fs.zip vs).reverse)) _ ⟨st.i.trans k2, fun b o hb => k1 b o (st.h b o hb), fun b o hb => ?_, fun b o hb => ?_⟩ ⟨⟨hm, C, rfl⟩, d, _, ds.reverse, rfl, upd_same, by rw [zip_fst hvl], ?_⟩
    · by_cases z : b = d
      · subst z
        rw [upd_same] at hb ⊢
        exact hb
      · rw [upd_ne z] at hb
        exact k1 b o (st.e b o hb)
    · by_cases z : b = d
      · subst z
        cases y : He b with
        | none => exact .inr (.inl y)
        | some o =>
          rw [st.h _ _ y] at hd
          cases hd
      · rw [upd_ne z] at hb
        exact st.f b o hb
    · rw [zip_snd hvl]
      exact r.rev.mono k2⟩
end DL
namespace DL
open PySem PySem.Spec L2

/-! ### defs that may raise: an error goes out -/
def runX (n : Nat) (ms : Env → R Fl) (ds : List D) : R D := ms (startE n ds) >>= endD
theorem runX_rt {n : Nat} {ms : Env → R Fl} {ds : List D} {d : D} (h : ms (startE n ds) = .ok (.rt d)) : runX n ms ds = .ok d := by
  unfold runX
  rw [h]
  rfl
theorem runX_err {n : Nat} {ms : Env → R Fl} {ds : List D} {x : Str} {es : List D} (h : ms (startE n ds) = .err x es) : runX n ms ds = .err x es := by
  unfold runX
  rw [h]
  rfl
/-- a new list of one's own is data from now on -/
theorem stp_put {K : PySem.W.Frag} {mg : Gm} {I0 H0 I H : Hp} {p : Addr} {vs : List V} {ds : List D} (s : Stp I0 H0 I H) (n : I p = none) (n0 : H0 p = none) (hp : H p = some (.lst vs)) (r : Reps K mg I vs ds) : Stp I0 H0 (upd I p (.lst vs)) H ∧ Rep K mg (upd I p (.lst vs)) (.ref p) (.lst ds) := by
  have k : Same I (upd I p (.lst vs)) := fun a o h => by
    rw [upd_ne (fun z => by subst z; rw [n] at h; cases h)]
    exact h
  refine ⟨⟨s.i.trans k, s.h, fun a o h => ?_, fun a o h => ?_⟩, .lst upd_same (r.mono k)⟩
  · by_cases z : a = p
    · subst z
      rw [upd_same] at h
      cases h
      exact hp
    · rw [upd_ne z] at h
      exact s.e a o h
  · by_cases z : a = p
    · subst z
      exact .inr (.inl n0)
    · rw [upd_ne z] at h
      exact s.f a o h
theorem fn_mirX {P : Program} {w : World} {K : PySem.W.Frag} {mg : Str → Option Value} {base : Heap} {x qual : Str} {st : Stmt} {f : Addr} {fd : FuncData} {N ps : List Str} {k : Nat} {M M' : List Nat} {ms : Env → R Fl} (F : Fun K x qual st f fd) (S : FnScope N ps (defScope st)) (hM : ∀ i ∈ M, ps.length ≤ i)
    (hb : ∀ (cdv : Value) (A : Around) (outer : List PySem.Env) (s : Shared) (H : Hp) (E : XK), Room k (A.deeper (PyProof.Rows.envOfC qual (defScope st) s.heap.objs.size f cdv)) →
      ∃ ts, MSs (cxOf (L2.CX P w) P w K mg base N qual (defScope st) f cdv A outer s H E) E [] M M' (defBody st) ts ms) : FnOk P w K mg base (L2.CX P w) (k + 1) f fd ps (spOf K (g0 mg) ps.length (runX N.length ms)) := by
  refine F.okX S (fun vs H Q E h => spOf.len h) (fun cdv A outer s H vs Q E hr h => ?_)
  obtain ⟨I, ds, hl, ex, rs, h⟩ := h
  obtain ⟨ts, hp⟩ := hb cdv A outer s H E hr
  refine ⟨ts, hp.pe, hp.sn (I, 0) H _ I H _ _ (start_SE ex rs (by rw [hl]; exact hM)) ?_⟩
  unfold runX at h
  cases e : ms (startE N.length ds) with
  | err nm es =>
    rw [e] at h
    exact h
  | stuck =>
    rw [e] at h
    exact h.elim
  | ok fl =>
    rw [e] at h
    cases fl with
    | nx ρ => exact fun σ I1 H1 s1 _ => h .non I1 H1 s1.st .non
    | rt d => exact fun v I1 H1 s1 r => h v I1 H1 s1 r
    | bk ρ => exact h.elim
    | rf es =>
      intro p vs I1 H1 s1 n1 n2 hp r
      obtain ⟨s2, r2⟩ := stp_put s1 n1 n2 hp r
      exact h _ _ H1 s2 r2
    | ct ρ => exact h.elim
structure KnX (P : Program) (w : World) (K : PySem.W.Frag) (mg : Str → Option Value) (base : Heap) (x : Str) (k n : Nat) (g : List D → R D) : Prop where
  ex : ∃ f fd ps, FnOk P w K mg base (L2.CX P w) k f fd ps (spOf K (g0 mg) n g) ∧ mg x = some (.ref f) ∧ PySem.W.keepIn K (.ref f) = true ∧ Binds K fd ps []
theorem KnX.mk' {P : Program} {w : World} {K : PySem.W.Frag} {mg : Str → Option Value} {base : Heap} {x : Str} {st : Stmt} {N ps : List Str} {k : Nat} {M M' : List Nat} {ms : Env → R Fl} (F : FnAt K mg x st ps) (S : FnScope N ps (defScope st)) (hM : ∀ i ∈ M, ps.length ≤ i)
    (hb : ∀ (f : Addr) (cdv : Value) (A : Around) (outer : List PySem.Env) (s : Shared) (H : Hp) (E : XK), Room k (A.deeper (PyProof.Rows.envOfC x (defScope st) s.heap.objs.size f cdv)) →
      ∃ ts, MSs (cxOf (L2.CX P w) P w K mg base N x (defScope st) f cdv A outer s H E) E [] M M' (defBody st) ts ms) : KnX P w K mg base x (k + 1) ps.length (runX N.length ms) := by
  obtain ⟨f, fd, F, g, b⟩ := F.ex
  exact ⟨f, fd, ps, fn_mirX F S hM (hb f), g, F.kp, b⟩
/-- nothing is known -/
theorem KnX.stuck {P : Program} {w : World} {K : PySem.W.Frag} {mg : Str → Option Value} {base : Heap} {x : Str} {st : Stmt} {ps : List Str} {k n : Nat} (F : FnAt K mg x st ps) : KnX P w K mg base x k n (fun _ => .stuck) := by
  obtain ⟨f, fd, F, g, b⟩ := F.ex
  refine ⟨f, fd, ps, ⟨fun vs H Q E h => ?_, fun A outer s H args us vs Q E _ _ _ _ h => ?_⟩, g, F.kp, b⟩
  · obtain ⟨_, _, _, _, _, h⟩ := h
    exact h.elim
  · obtain ⟨_, _, _, _, _, h⟩ := h
    exact h.elim
/-- a call: what the callee lets out goes the same way -/
theorem me_callX {X : Cx} {E : Wh} {P : Program} {w : World} {K : PySem.W.Frag} {mg : Str → Option Value} {base : Heap} {k j n : Nat} {g : List D → R D} {x : Str} {p pos : Pos} {e : Expr} {es : List Expr} {tas : TA} {ms : Env → R (List D)} (F : KnX P w K mg base x k n g) (hr : Room j X.A) (hx : ∀ σ, PassesAt (L2.CX X.prog X.w) X σ (E.e σ)) (hg : Gl X x) (ha : MA X E (e :: es) tas ms) (h0 : E.x = fun _ => none := by rfl) (hj : k ≤ j := by first | decide | omega)
    (hP : X.prog = P := by rfl) (hw : X.w = w := by rfl) (hK : X.K = K := by rfl) (hm : X.mg = mg := by rfl) (hb : X.base = base := by rfl)
    (hdb : (x == ("__debug__" : Str)) = false := by decide) (he : starEach (e :: es) X.env = (false, eval e X.env) :: starEach es X.env := by rfl) (hpl : (backTo pos (starEach es X.env)).any (·.1) = false := by rfl) :
    ME X E (.Call (.Name x p) (e :: es) [] pos) (tCallS (spOf K (g0 mg) n g) E.e tas) (fun ρ => call_ n g (ms ρ)) := by
  subst hP hw hK hm hb
  obtain ⟨f, fd, ps, F, hm, hk, hb⟩ := F.ex
  exact me_call F (hr.mono hj) hg hm hk hb hx h0 ha hdb he hpl
theorem px {X : Cx} {E : XK} (tk : Takes X (fun cls d _ H => E cls d H)) : ∀ σ, PassesAt (L2.CX X.prog X.w) X σ ((kE E).e σ) := fun σ => passAt (W := fun cls d _ H => E cls d H) tk σ
/-- within a comprehension -/
theorem pxL {X : Cx} {E : Wh} : ∀ σ, PassesAt (L2.CX X.prog X.w) X σ (E.calm.e σ) := fun σ pins H s e s' I c => passL pins σ H s e s' I c
theorem cx_no {P : Program} {w : World} {outer : List PySem.Env} {H : Hp} {s s' : Shared} {e : Value} (h : L2.CX P w outer H s (fun _ _ _ => False) e s') : False := by
  obtain ⟨_, _, _, _, _, _, _, _, _, _, _, _, z⟩ := h
  exact z
/-- an exception class of the text's own -/
structure XcAt (P : Program) (w : World) (K : PySem.W.Frag) (mg : Str → Option Value) (base : Heap) (x : Str) (C : Addr) (fs : List Str) : Prop where
  m : mg x = some (.ref C)
  c : ClX K C fs
  ex : ∃ fI fd ps, PySem.W.findIn K (.ref C) "__init__" = some (some (.ref fI)) ∧ PySem.W.typeIn K (.ref fI) = some (.type "function") ∧ FnOk P w K mg base CX0 1 fI fd ps (spXI C fs) ∧ Binds K fd ps []
theorem ms_raiseX {X : Cx} {E : XK} {Mb M M' : List Nat} {P : Program} {w : World} {K : PySem.W.Frag} {mg : Str → Option Value} {base : Heap} {x : Str} {C : Addr} {j : Nat} {fs : List Str} {e : Expr} {es : List Expr} {tas : TA} {ms : Env → R (List D)} {p pos pos' : Pos} (T : XcAt P w K mg base x C fs) (tk : Takes X (fun cls d _ H => E cls d H)) (hr : Room j X.A) (hg : Gl X x) (ha : MA X (kE E) (e :: es) tas ms) (hc : X.calm = true := by rfl) (hj : 2 ≤ j := by decide)
    (hP : X.prog = P := by rfl) (hw : X.w = w := by rfl) (hK : X.K = K := by rfl) (hm : X.mg = mg := by rfl) (hb : X.base = base := by rfl)
    (hdb : (x == ("__debug__" : Str)) = false := by decide) (he : starEach (e :: es) X.env = (false, eval e X.env) :: starEach es X.env := by rfl) (hpl : (backTo pos (starEach es X.env)).any (·.1) = false := by rfl) :
    MS X E Mb M M' (.Raise (some (.Call (.Name x p) (e :: es) [] pos)) none pos') (fun _ σ H => tMkO C (spXI C fs) [] tas σ H fun cls d H' => E cls d H') (fun ρ => raiseS x fs (ms ρ)) := by
  subst hP hw hK hm hb
  obtain ⟨fI, fd, ps, h1, h2, h3, h4⟩ := T.ex
  exact ms_raise hc tk T.c h1 h2 h3 (hr.mono hj) h4 pass0 hg T.m ha hdb he hpl
end DL
namespace DL
open PySem PySem.Spec L2

/-! ### a class of one's own: what __init__ makes of a new object -/
def endI : Fl → R D
  | .nx ρ => match (ρ : List (Option D))[0]? with
    | some (some (D.obj n ks ds)) => .ok (.obj n ks ds)
    | _ => .stuck
  | _ => .stuck
theorem endI_nx (ρ : Env) : (∃ n ks ds, endI (.nx ρ) = .ok (.obj n ks ds) ∧ (ρ : List (Option D))[0]? = some (some (.obj n ks ds))) ∨ endI (.nx ρ) = .stuck := by
  cases q : (ρ : List (Option D))[0]? with
  | none => exact .inr (by simp only [endI, q])
  | some o =>
    cases o with
    | none => exact .inr (by simp only [endI, q])
    | some d =>
      cases d with
      | obj n ks ds => exact .inl ⟨n, ks, ds, by simp only [endI, q], rfl⟩
      | _ => exact .inr (by simp only [endI, q])
def runI (n : Nat) (nm : Str) (ms : Env → R Fl) (ds : List D) : R D := ms (some (.obj nm [] []) :: startE (n - 1) ds) >>= endI
def spMk (K : PySem.W.Frag) (mg : Str → Option Value) (nm : Str) (n : Nat) (g : List D → R D) : Sp := fun vs H Q E => ∃ (I H0 : Hp) (x dx C : Addr) (ws : List V) (ds : List D), vs = .ref x :: ws ∧ ds.length = n ∧ mg nm = some (.ref C) ∧ H0 x = none ∧ H0 dx = none ∧ dx ≠ x ∧
  H = upd (upd H0 dx (.own x)) x (.ins C dx []) ∧ Same I H0 ∧ Reps K (g0 mg) I ws ds ∧ Out K (g0 mg) E (fun I' (v : V) d => v = .non ∧ Rep K (g0 mg) I' (.ref x) d) I H0 (g ds) Q
theorem startE_get {n : Nat} {ds : List D} {i : Nat} {d : D} (q : (startE n ds)[i]? = some (some d)) : i < ds.length ∧ ds[i]? = some d := by
  unfold startE at q
  by_cases hi : i < ds.length
  · rw [List.getElem?_append_left (by rw [List.length_map]; exact hi), List.getElem?_map] at q
    refine ⟨hi, ?_⟩
    cases z : ds[i]? with
    | none =>
      rw [z] at q
      cases q
    | some e =>
      rw [z] at q
      cases q
      rfl
  · rw [List.getElem?_append_right (by rw [List.length_map]; omega), List.getElem?_replicate] at q
    split at q <;> cases q
theorem start_SEI {K : PySem.W.Frag} {mg : Gm} {M : List Nat} {I H0 : Hp} {N : List Str} {ws : List V} {ds : List D} {x dx C : Addr} {nm : Str} (ex : Same I H0) (rs : Reps K mg I ws ds) (hM : ∀ i ∈ M, i = 0 ∨ ds.length + 1 ≤ i) (h0 : 0 ∈ M) (hD0 : deep M 0 = false) (hc : mg nm = some (.ref C)) (n1 : H0 x = none) (n2 : H0 dx = none) (hd : dx ≠ x) :
    SE K mg M (I, x) H0 (start N (.ref x :: ws)) I (upd (upd H0 dx (.own x)) x (.ins C dx [])) (some (.obj nm [] []) :: startE (N.length - 1) ds) := by
  have k : Same H0 (upd (upd H0 dx (.own x)) x (.ins C dx [])) := fun b o hb => by
    rw [upd_ne (fun z => by subst z; rw [n1] at hb; cases hb), upd_ne (fun z => by subst z; rw [n2] at hb; cases hb)]
    exact hb
  have own0 : ∀ (i : Nat) (d : D), i ∈ M → (some (D.obj nm [] []) :: startE (N.length - 1) ds)[i]? = some (some d) → i = 0 ∧ d = .obj nm [] [] := fun i d hi q => by
    cases i with
    | zero =>
      cases q
      exact ⟨rfl, rfl⟩
    | succ j =>
      have := (startE_get (show (startE (N.length - 1) ds)[j]? = some (some d) from q)).1
      rcases hM _ hi with z | z
      · cases z
      · omega
  have s0 : (start N (V.ref x :: ws))[0]? = some (some (.ref x)) := start_at rfl
  refine ⟨⟨.refl _, k, ex.trans k, fun _ _ z => .inl z⟩, ?_, fun i d hi q => ?_, fun i d hi q => ?_, fun i j p p9 d e hi hj hne q1 q2 => ?_, fun i d p hi q g _ => ?_⟩
  · unfold L2.start startE
    rw [List.length_append, List.length_map, List.length_replicate, List.length_cons, List.length_cons, List.length_append, List.length_map, List.length_replicate, rs.len]
    omega
  · cases i with
    | zero => exact absurd h0 hi
    | succ j =>
      obtain ⟨_, hd⟩ := startE_get (show (startE (N.length - 1) ds)[j]? = some (some d) from q)
      obtain ⟨v, hv, r⟩ := rs.get hd
      exact ⟨v, start_at hv, r⟩
  · obtain ⟨rfl, rfl⟩ := own0 i d hi q
    exact ⟨x, _, s0, ex.free n1, n1, upd_same, .mk (OwnR.ins (fs := []) hc .nil) hD0⟩
  · obtain ⟨rfl, _⟩ := own0 i d hi q1
    obtain ⟨rfl, _⟩ := own0 j e hj q2
    exact absurd rfl hne
  · obtain ⟨rfl, _⟩ := own0 i d hi q
    rw [s0] at g
    cases g
    rfl
theorem fn_mirI {P : Program} {w : World} {K : PySem.W.Frag} {mg : Str → Option Value} {base : Heap} {x qual nm : Str} {st : Stmt} {f : Addr} {fd : FuncData} {N ps : List Str} {k n : Nat} {M : List Nat} {ms : Env → R Fl} (F : Fun K x qual st f fd) (S : FnScope N ps (defScope st)) (hp : ps.length = n + 1) (hM : ∀ i ∈ M, i = 0 ∨ n + 1 ≤ i) (h0 : 0 ∈ M) (hD0 : deep M 0 = false)
    (hb : ∀ (cdv : Value) (A : Around) (outer : List PySem.Env) (s : Shared) (H : Hp) (E : XK), Room k (A.deeper (PyProof.Rows.envOfC qual (defScope st) s.heap.objs.size f cdv)) →
      ∃ ts, MSs (cxOf (L2.CX P w) P w K mg base N qual (defScope st) f cdv A outer s H E) E [] M M (defBody st) ts ms) : FnOk P w K mg base (L2.CX P w) (k + 1) f fd ps (spMk K mg nm n (runI N.length nm ms)) := by
  refine F.okX S (fun vs H Q E h => ?_) (fun cdv A outer s H vs Q E hr h => ?_)
  · obtain ⟨I, H0, x, dx, C, ws, ds, rfl, hl, _, _, _, _, _, _, rs, _⟩ := h
    rw [hp, List.length_cons, rs.len, hl]
  · obtain ⟨I, H0, x, dx, C, ws, ds, rfl, hl, hc, n1, n2, hd, rfl, ex, rs, h⟩ := h
    obtain ⟨ts, hq⟩ := hb cdv A outer s _ E hr
    refine ⟨ts, hq.pe, hq.sn (I, x) H0 _ I _ _ _ (start_SEI (nm := nm) ex rs (by rw [hl]; exact hM) h0 hD0 hc n1 n2 hd) ?_⟩
    unfold runI at h
    cases e : ms (some (.obj nm [] []) :: startE (N.length - 1) ds) with
    | err em es =>
      rw [e] at h
      exact h
    | stuck =>
      rw [e] at h
      exact h.elim
    | ok fl =>
      rw [e] at h
      cases fl with
      | nx ρ =>
        intro σ I1 H1 s1 _
        have h : Out K (g0 mg) E (fun I' (v : V) d => v = .non ∧ Rep K (g0 mg) I' (.ref x) d) I H0 (endI (.nx ρ)) Q := h
        rcases endI_nx ρ with ⟨m, ks, es, e2, q⟩ | e2
        · rw [e2] at h
          obtain ⟨p, o, g2, _⟩ := s1.own_ 0 _ h0 q
          have hp : p = x := s1.slf 0 _ p h0 q g2 rfl
          obtain ⟨I2, _, s2⟩ := s1.all
          obtain ⟨v, g3, r⟩ := s2.imm 0 _ (by simp) q
          rw [g2] at g3
          cases g3
          subst hp
          exact h .non I2 H1 s2.st ⟨rfl, r⟩
        · rw [e2] at h
          exact h.elim
      | rt d => exact h.elim
      | bk ρ => exact h.elim
      | rf ds => exact h.elim
      | ct ρ => exact h.elim
/-- a class of the text's own as it stands under its name -/
structure CkAt (P : Program) (w : World) (K : PySem.W.Frag) (mg : Str → Option Value) (base : Heap) (x : Str) (C : Addr) (k n : Nat) (g : List D → R D) : Prop where
  m : mg x = some (.ref C)
  ex : ∃ fI fd ps, Mk K C fI ∧ FnOk P w K mg base (L2.CX P w) k fI fd ps (spMk K mg x n g) ∧ Binds K fd ps []
/-- X(e, ..) where the wish goes by the slots -/
theorem run_makeS {X : Cx} {CX : CXT} {k : Nat} {f C : Addr} {fd : FuncData} {ps : List Str} {sp : Sp} {E : XK} {pins : List (Addr × Obj)} {σ : L2.St} {H : Hp} {s : Shared} {Q : VK} {us : List Value} {vs : List V} (M : Mk X.K C f) (F : FnOk X.prog X.w X.K X.mg X.base CX k f fd ps sp) (hr : Room (k + 1) X.A) (hb : Binds X.K fd ps []) (hx : PassesAt CX X σ E) (I : L2.Inv X pins σ H s) (r : Vals vs us)
    (h : ∀ x dx, H x = none → H dx = none → dx ≠ x → sp (.ref x :: vs) (upd (upd H dx (.own x)) x (.ins C dx [])) (fun v H2 => v = .non ∧ Q (.ref x) H2) E) : wpAny (model X.prog X.w) X.A (call (.ref C) us) (EP X pins σ Q) X.xe s := by
  have hq := h (s.heap.objs.size + 1) s.heap.objs.size (HOk.fresh I.hok (Nat.le_succ _)) (HOk.fresh I.hok (Nat.le_refl _)) (Nat.ne_of_lt (Nat.lt_succ_self _))
  have I2 := Inv.made (C := C) I
  have r2 : Vals (.ref (s.heap.objs.size + 1) :: vs) (.ref (s.heap.objs.size + 1) :: us) := Paired.cons rfl r
  have hl : (Value.ref (s.heap.objs.size + 1) :: us).length = ps.length := by
    rw [← Vals.length r2]
    exact F.len _ _ _ _ hq
  refine wpAny_call (make_map (Inv.kIn I) M.makes M.init (beq_iff_eq.mp M.fn) (codeAny_mono (F.run _ X.stack _ _ ⟨.ref (s.heap.objs.size + 1) :: us, []⟩ _ _ _ E (Room.make hr C us []) (Env0.make (Inv.env0 I2) C us []) (hb _ _ (Inv.kIn I2) (by rw [List.append_nil]; exact hl)) (by rw [List.append_nil]; exact r2) hq) fun r s' hq' => ?_))
  cases r with
  | error e => exact hx pins _ _ e s' I2 hq'
  | ok fl =>
    cases fl with
    | ret u =>
      obtain ⟨v, H', I3, rv, ev, q3⟩ := Inv.after I2 hq'
      subst ev
      exact ⟨rv, V.ref (s.heap.objs.size + 1), H', I3, rfl, q3⟩
    | _ => exact hq'.elim
def tMakeS (C : Addr) (sp : Sp) (E : XS) (t : TA) : TE := fun σ H Q => t σ H fun vs H1 => ∀ x dx, H1 x = none → H1 dx = none → dx ≠ x → sp (.ref x :: vs) (upd (upd H1 dx (.own x)) x (.ins C dx [])) (fun v H2 => v = .non ∧ Q (.ref x) H2) (E σ)
theorem pe_makeS {X : Cx} {CX : CXT} {k : Nat} {f C : Addr} {fd : FuncData} {ps : List Str} {sp : Sp} {E : XS} {x : Str} {p pos : Pos} {e : Expr} {es : List Expr} {t : TA} (M : Mk X.K C f) (F : FnOk X.prog X.w X.K X.mg X.base CX k f fd ps sp) (hr : Room (k + 1) X.A) (hg : Gl X x) (hm : X.mg x = some (.ref C)) (hb : Binds X.K fd ps []) (hx : ∀ σ, PassesAt CX X σ (E σ)) (ha : PA X (e :: es) t)
    (hdb : (x == ("__debug__" : Str)) = false := by decide) (he : starEach (e :: es) X.env = (false, eval e X.env) :: starEach es X.env := by rfl) (hpl : (backTo pos (starEach es X.env)).any (·.1) = false := by rfl) : PE X (.Call (.Name x p) (e :: es) [] pos) (tMakeS C sp E t) :=
  ⟨fun pins s σ H Q I h => by
    refine wpAny_Call_Name_kw (ld_glob I hg hm ?_ hdb)
    refine PySem.W.callWith_K (h₀ := X.base) I.ok.mod.kin M.kp (thn (ha.run pos pins s σ H _ I h) fun us s1 hh => ?_) he hpl
    obtain ⟨vs, H1, I1, r, q⟩ := hh
    exact ⟨I1.kIn, run_makeS M F hr hb (hx σ) I1 r q⟩⟩
/-- X(e, ..) -/
theorem me_make {X : Cx} {E : Wh} {P : Program} {w : World} {K : PySem.W.Frag} {mg : Str → Option Value} {base : Heap} {C : Addr} {k j n : Nat} {g : List D → R D} {x : Str} {p pos : Pos} {e : Expr} {es : List Expr} {tas : TA} {ms : Env → R (List D)} (F : CkAt P w K mg base x C k n g) (hr : Room j X.A) (hx : ∀ σ, PassesAt (L2.CX X.prog X.w) X σ (E.e σ)) (hg : Gl X x) (ha : MA X E (e :: es) tas ms) (h0 : E.x = fun _ => none := by rfl) (hj : k + 1 ≤ j := by decide)
    (hP : X.prog = P := by rfl) (hw : X.w = w := by rfl) (hK : X.K = K := by rfl) (hm : X.mg = mg := by rfl) (hb : X.base = base := by rfl)
    (hdb : (x == ("__debug__" : Str)) = false := by decide) (he : starEach (e :: es) X.env = (false, eval e X.env) :: starEach es X.env := by rfl) (hpl : (backTo pos (starEach es X.env)).any (·.1) = false := by rfl) :
    ME X E (.Call (.Name x p) (e :: es) [] pos) (tMakeS C (spMk K mg x n g) E.e tas) (fun ρ => call_ n g (ms ρ)) := by
  subst hP hw hK hm hb
  obtain ⟨E1, E2⟩ := E
  have h0 : E2 = fun _ => none := h0
  subst h0
  obtain ⟨fI, fd, ps, M, F1, hb⟩ := F.ex
  obtain ⟨pt, st⟩ := ha
  refine ⟨pe_makeS M F1 (hr.mono hj) hg F.m hb hx pt hdb he hpl, fun σ I H ρ Q re ex h => ?_⟩
  refine st.run re ex h fun ds vs I1 H1 _ s1 rs h => ?_
  obtain ⟨hl, h⟩ := out_if h
  intro x0 dx n1 n2 hd
  refine ⟨I1, H1, x0, dx, C, vs, ds, rfl, hl, F.m, n1, n2, hd, rfl, s1.e, rs, ?_⟩
  cases e1 : g ds with
  | ok d =>
    rw [e1] at h
    intro v I' H' t ⟨hv, r⟩
    exact ⟨hv, h _ I' H' t r⟩
  | err em es =>
    rw [e1] at h
    exact h
  | stuck =>
    rw [e1] at h
    exact h.elim
end DL
namespace DL
open PySem PySem.Spec L2

/-! ### several clauses, each with a name -/
/-- the suites' ends: the name's slot is empty behind them -/
def endsAs (i : Nat) (D : Ends) : Ends := { nx := fun σ' H' => D.nx (σ'.set i none) H', rt := D.rt, bk := fun σ' H' => D.bk (σ'.set i none) H', ct := fun σ' H' => D.ct (σ'.set i none) H' }
def wAss (K : PySem.W.Frag) (Wout : WX) (D : Ends) : List (Nat × Value × (Addr → Value → Option Addr → TS)) → WX
  | [] => Wout
  | (i, c, ts) :: r => fun cls d σ H => ∃ b, PySem.W.exmOne K cls c = some b ∧ (b = true → ∀ a, H a = none → ts a cls d (endsAs i D) (σ.set i (some (.ref a))) H) ∧ (b = false → wAss K Wout D r cls d σ H)
inductive AsOk (X : Cx) : List ExceptHandler → List (Nat × Value × (Addr → Value → Option Addr → TS)) → Prop
  | nil : AsOk X [] []
  | cons {x n : Str} {c : Value} {i : Nat} {ts : Addr → Value → Option Addr → TS} {b₀ : Stmt} {suite : List Stmt} {np pos' : Pos} {hds : List ExceptHandler} {l : List (Nat × Value × (Addr → Value → Option Addr → TS))} (hc : Names X x c) (hi : X.N[i]? = some n) (hln : X.env.kindOf n = some .local)
      (hsu : ∀ (a : Addr) (oe : Obj) (cls : Value) (d : Option Addr) (pn : List (Addr × Obj)), Zc cls d oe → (∃ vs, oe.data = .fields vs) → PSs (X.suite a ((a, oe) :: pn)) (b₀ :: suite) (ts a cls d)) (r : AsOk X hds l) :
      AsOk X (.ExceptHandler (some (.Name x np)) (some n) (b₀ :: suite) pos' :: hds) ((i, c, ts) :: l)
theorem ps_try_ass {X : Cx} {body : List Stmt} {h₀ : ExceptHandler} {hds : List ExceptHandler} {l : List (Nat × Value × (Addr → Value → Option Addr → TS))} {pos : Pos} {tb : WX → TS} {Wout : WX} (hs : X.stack = X.env :: X.outer) (hf : X.env.frame = some X.env.locals) (hN : X.N.Nodup) (tk : Takes X Wout)
    (hb : ∀ (W : WX) (pn : List (Addr × Obj)) (xe : Value → Shared → Prop), Takes (X.tr pn xe) W → PassesOwn (model X.prog X.w) X.A X.env xe → PSs (X.tr pn xe) body (tb W)) (hh : AsOk X (h₀ :: hds) l) :
    PS X (.Try body (h₀ :: hds) [] [] pos) (fun D σ H => tb (wAss X.K Wout D l) D σ H) := by
  refine ⟨fun pins s σ H D I h => ?_⟩
  have ok := I.ok
  have hfr := ok.frames
  rw [hs] at hfr
  refine wpAny_Try_except (wpAny_mono ((hb (wAss X.K Wout D l) (X.pn ++ pins) (fun e s₁ => wpAny (model X.prog X.w) X.A (noteFrame e X.env) (fun _ s₂ => wpAny (model X.prog X.w) X.A (setFlight e none) (fun _ s₃ => wpAny (model X.prog X.w) X.A (handleBy e X.env (h₀ :: hds)) (SP X pins D) X.xe s₃) X.xe s₂) X.xe s₁) (fun u s' xx => ?_) PassesOwn.looking).run [] s σ H D (Inv.toTry I _) h) (fun f s1 hsp => ?_) (fun e s1 he => he))
  · obtain ⟨a, B, sI, pins', σ', H', cls, d, rfl, J', nb, up, sky, na, os, ag, w⟩ := xx
    have J := Inv.ofTry J' ok
    have sky' := sky
    rw [show (X.tr (X.pn ++ pins) _).stack = X.stack from rfl, hs] at sky'
    refine Sky.land Zc.steady hfr hf sky' fun h3 fl3 up3 => ?_
    have J3 : L2.Inv X pins σ' H' { heap := h3, gens := s'.gens, drawn := s'.drawn, toks := s'.toks, os := s'.os } := Inv.landed J nb fl3.left (Heap.UpToSlots.trans up up3) os ag
    obtain ⟨oe3, vs3, he3, hz3, hd3⟩ := HandSPX.FlyingZ.there fl3
    have nfr : ∀ L ∈ List.filterMap (fun e : PySem.Env => e.frame) (X.env :: X.outer), L ≠ a := fun L hL z => by
      obtain ⟨_, o', e', hnf⟩ := Heap.FunFrames.mem fl3.right.right.left hL
      rw [z, he3] at e'
      cases e'
      exact hnf vs3 hd3
    have nL : a ≠ X.env.locals := fun z => nfr _ (List.mem_filterMap.mpr ⟨X.env, List.mem_cons_self, hf⟩) z.symm
    have nF : a ∉ X.fs := fun hm => by
      obtain ⟨e, he, q⟩ := List.mem_filterMap.mp hm
      exact nfr a (List.mem_filterMap.mpr ⟨e, List.mem_cons_of_mem _ he, q⟩) rfl
    have S3 := Inv.suite J3 he3 hd3 na nL nF
    have go : ∀ {hds' : List ExceptHandler} {l' : List (Nat × Value × (Addr → Value → Option Addr → TS))}, AsOk X hds' l' → wAss X.K Wout D l' cls d σ' H' →
        wpAny (model X.prog X.w) X.A (handleBy (Value.ref a) X.env hds') (SP X pins D) X.xe { heap := h3, gens := s'.gens, drawn := s'.drawn, toks := s'.toks, os := s'.os } := by
      intro hds' l' hk
      induction hk with
      | nil =>
        intro w
        refine wpAny_handleBy_nil ?_
        obtain ⟨k1, k2, k3, oe, vs, T, oT, ts', he, hz, hd, h1, hr⟩ := id fl3
        refine wpAny_bind (wpAny_field he hd h1 ?_)
        rw [if_neg (by simp)]
        refine wpAny_bind ?_
        rw [hf]
        refine HandSPX.setFlight_upZ fl3 fun h4 hh4 up4 => wpAny_throw (tk (Value.ref a) _ ?_)
        refine ⟨a, B, sI, pins, σ', H', cls, d, rfl, J, nb, Heap.UpToSlots.trans (Heap.UpToSlots.trans up up3) up4, .inr (.inr ?_), na, os, ag, w⟩
        rw [hs]
        exact hh4
      | @cons x n c i ts b₀ suite np pos' hds2 l2 hc hi hln hsu r ih =>
        rintro ⟨b, hb1, hyes, hno⟩
        refine wpAny_handleBy_cons (codeAny_handlers_test ?_) (fun q => by cases q)
        have LT : PySem.W.Looks (model X.prog X.w) h3 (typeOf (Value.ref a)) cls := fun A Q E s k q => wpAny_typeOf_ref (k a oe3 he3) (by rw [hz3.left]; exact q)
        have LM := PySem.W.exm_one (M := model X.prog X.w) (Inv.kIn J3) LT hb1
        obtain ⟨hg, hdbg, hcc⟩ := hc
        have test : ∀ {Q : Value → Shared → Prop} {E : Value → Shared → Prop}, Q c { heap := h3, gens := s'.gens, drawn := s'.drawn, toks := s'.toks, os := s'.os } → wpAny (model X.prog X.w) (X.A.mark (some (Value.ref a))) (eval (.Name x np) X.env) Q E { heap := h3, gens := s'.gens, drawn := s'.drawn, toks := s'.toks, os := s'.os } := fun q => by
          rcases hcc with hm | ⟨hm, hv, hnn⟩
          · exact ld_glob S3 hg hm q hdbg
          · exact ld_blt S3 hg hm hv q hnn hdbg
        refine test (PySem.W.Looks.here LM ?_)
        cases b with
        | false => exact ih (hno rfl)
        | true =>
          refine codeAny_handlers_suite_as (HandSPX.lands_againZ fl3 fun h4 fl4 up4 => ?_)
          have J4 : L2.Inv X pins σ' H' { heap := h4, gens := s'.gens, drawn := s'.drawn, toks := s'.toks, os := s'.os } := Inv.landed J nb fl4.left (Heap.UpToSlots.trans (Heap.UpToSlots.trans up up3) up4) os ag
          obtain ⟨oe4, vs4, he4, hz4, hd4⟩ := HandSPX.FlyingZ.there fl4
          have S4 := Inv.suite J4 he4 hd4 na nL nF
          refine store_ok (X := X.suite a ((a, oe4) :: (X.pn ++ pins))) (v := .ref a) S4 hN hi (.inl hln) rfl (fun s5 S5 => ?_) (.inr hln)
          refine wpAny_mono ((hsu a oe4 cls d (X.pn ++ pins) hz4 ⟨vs4, hd4⟩).run [] s5 _ H' _ S5 (hyes rfl a na)) (fun f s6 hsp => ?_) (fun _ _ z => z.elim)
          have end_ : ∀ {σ6 : L2.St} {H6 : Hp} {Q : Unit → Shared → Prop}, L2.Inv (X.suite a ((a, oe4) :: (X.pn ++ pins))) [] σ6 H6 s6 → (∀ s7, L2.Inv X pins (σ6.set i none) H6 s7 → Q () s7) → wpAny (model X.prog X.w) X.A (do bindName X.env n Value.none; unbindBehindTheSuite X.env n pos') Q X.xe s6 := fun S6 hq => gone_ok (Inv.unsuite S6 ok) hN hi hln hq
          cases f with
          | ret v =>
            obtain ⟨v6, σ6, H6, S6, r6, q6⟩ := hsp
            exact end_ S6 fun s7 J7 => ⟨v6, σ6.set i none, H6, J7, r6, q6⟩
          | _ =>
            obtain ⟨σ6, H6, S6, q6⟩ := hsp
            exact end_ S6 fun s7 J7 => ⟨σ6.set i none, H6, J7, q6⟩
    exact go hh w
  · cases f with
    | next =>
      obtain ⟨σ', H', J', q⟩ := hsp
      exact wpAny_execs_nil ⟨σ', H', Inv.ofTry J' ok, q⟩
    | ret v =>
      obtain ⟨v', σ', H', J', r, q⟩ := hsp
      exact ⟨v', σ', H', Inv.ofTry J' ok, r, q⟩
    | _ =>
      obtain ⟨σ', H', J', q⟩ := hsp
      exact ⟨σ', H', Inv.ofTry J' ok, q⟩
end DL
namespace DL
open PySem PySem.Spec L2

/-! ### errors that are caught -/
mutual
def D.noX : D → Bool
  | .exc _ _ _ => false
  | .lst ds => D.noXs ds
  | .tup ds => D.noXs ds
  | .obj _ _ ds => D.noXs ds
  | .dk _ ds => D.noXs ds
  | .dt _ ds => D.noXs ds
  | _ => true
def D.noXs : List D → Bool
  | [] => true
  | d :: ds => D.noX d && D.noXs ds
end
section
variable {K : PySem.W.Frag} {m : Str → Option Value} {x y : Addr → Option (Addr × Addr)} {I : Hp}
mutual
/-- no error in it: the errors that are held do not matter -/
theorem Rep.noX : ∀ {v : V} {d : D}, Rep K ⟨m, x⟩ I v d → d.noX = true → Rep K ⟨m, y⟩ I v d
  | _, _, .non, _ => .non
  | _, _, .bl b, _ => .bl b
  | _, _, .int i, _ => .int i
  | _, _, .str x, _ => .str x
  | _, _, .lst h r, q => .lst h (Reps.noX r q)
  | _, _, .tup h r, q => .tup h (Reps.noX r q)
  | _, _, .scr h, _ => .scr h
  | _, _, .rng h, _ => .rng h
  | _, _, .ty n, _ => .ty n
  | _, _, .cls h, _ => .cls h
  | _, _, .obj h c r, q => .obj h c (Reps.noX r q)
  | _, _, .dk h r, q => .dk h (Reps.noX r q)
  | _, _, .dt h r, q => .dt h (Reps.noX r q)
  | _, _, .exc _ _ _ _, q => nomatch q
theorem Reps.noX : ∀ {vs : List V} {ds : List D}, Reps K ⟨m, x⟩ I vs ds → D.noXs ds = true → Reps K ⟨m, y⟩ I vs ds
  | _, _, .nil, _ => .nil
  | _, _, .cons h r, q => by
    rw [D.noXs, Bool.and_eq_true] at q
    exact .cons (Rep.noX h q.1) (Reps.noX r q.2)
end
mutual
/-- data in which no error is held -/
theorem Rep.more : ∀ {v : V} {d : D}, Rep K (g0 m) I v d → Rep K ⟨m, y⟩ I v d
  | _, _, .non => .non
  | _, _, .bl b => .bl b
  | _, _, .int i => .int i
  | _, _, .str x => .str x
  | _, _, .lst h r => .lst h (Reps.more r)
  | _, _, .tup h r => .tup h (Reps.more r)
  | _, _, .scr h => .scr h
  | _, _, .rng h => .rng h
  | _, _, .ty n => .ty n
  | _, _, .cls h => .cls h
  | _, _, .obj h c r => .obj h c (Reps.more r)
  | _, _, .dk h r => .dk h (Reps.more r)
  | _, _, .dt h r => .dt h (Reps.more r)
  | _, _, .exc h _ _ _ => nomatch h
theorem Reps.more : ∀ {vs : List V} {ds : List D}, Reps K (g0 m) I vs ds → Reps K ⟨m, y⟩ I vs ds
  | _, _, .nil => .nil
  | _, _, .cons h r => .cons (Rep.more h) (Reps.more r)
end
end
/-- the error that the suite holds: at a, of class cls, its dict d -/
def xcV (a : Addr) (cls : Value) (d : Option Addr) : Addr → Option (Addr × Addr) := fun b => if b = a then (match cls, d with | .ref C, some e => some (C, e) | _, _ => none) else none
theorem xcV_of {a b C e : Addr} {cls : Value} {d : Option Addr} (h : xcV a cls d b = some (C, e)) : b = a ∧ cls = .ref C ∧ d = some e := by
  unfold xcV at h
  by_cases z : b = a
  · rw [if_pos z] at h
    split at h
    · cases h
      exact ⟨z, rfl, rfl⟩
    · cases h
  · rw [if_neg z] at h
    cases h
theorem xcV_at {a C e : Addr} : xcV a (.ref C) (some e) a = some (C, e) := if_pos rfl

/-! #### suites -/
def OutH (K : PySem.W.Frag) (gm : Gm) (I H : Hp) (σ : L2.St) (D0 : Ends) (r : R Fl) : Prop := match r with
  | .ok (.nx _) => ∀ I' H', Stp I H I' H' → D0.nx σ H'
  | .ok (.rt d) => ∀ v I' H', Stp I H I' H' → Rep K gm I' v d → D0.rt v H'
  | _ => False
def SnH (K : PySem.W.Frag) (gm : Gm) (ts : TS) (mh : Env → R Fl) : Prop := ∀ (σ : L2.St) (I H : Hp) (ρ : Env) (D0 : Ends), RE K gm I σ ρ → Same I H → OutH K gm I H σ D0 (mh ρ) → ts D0 σ H
structure MH (X : Cx) (x : Addr → Option (Addr × Addr)) (s : Stmt) (ts : TS) (mh : Env → R Fl) : Prop where
  pe : PS X s ts
  sn : SnH X.K ⟨X.mg, x⟩ ts mh
structure MHs (X : Cx) (x : Addr → Option (Addr × Addr)) (s : List Stmt) (ts : TS) (mh : Env → R Fl) : Prop where
  pe : PSs X s ts
  sn : SnH X.K ⟨X.mg, x⟩ ts mh
abbrev hE (x : Addr → Option (Addr × Addr)) : Wh := ⟨fun _ => E0, x⟩
theorem OutH.mono {K : PySem.W.Frag} {gm : Gm} {I H I' H' : Hp} {σ : L2.St} {D0 : Ends} {r : R Fl} (s : Stp I H I' H') (h : OutH K gm I H σ D0 r) : OutH K gm I' H' σ D0 r := by
  cases r with
  | ok f =>
    cases f with
    | nx ρ => exact fun I2 H2 t => h I2 H2 (s.trans t)
    | rt d => exact fun v I2 H2 t q => h v I2 H2 (s.trans t) q
    | _ => exact h
  | _ => exact h
/-- a value's reading in a suite -/
theorem SnH.of {K : PySem.W.Frag} {gm : Gm} {α β : Type} {rp : Hp → β → α → Prop} {te : L2.St → Hp → (β → Hp → Prop) → Prop} {m : Env → R α} {k : α → R Fl} {P : β → Hp → Prop} {I H : Hp} {σ : L2.St} {ρ : Env} {D0 : Ends} (h : Sn K gm (fun _ => E0) rp te m) (re : RE K gm I σ ρ) (ex : Same I H) (hq : OutH K gm I H σ D0 (m ρ >>= k))
    (hk : ∀ d v I' H', Stp I H I' H' → rp I' v d → OutH K gm I' H' σ D0 (k d) → P v H') : te σ H P := by
  refine h σ I H ρ P re ex ?_
  cases e : m ρ with
  | ok d =>
    rw [e] at hq
    exact fun v I' H' s q => hk d v I' H' s q (OutH.mono s hq)
  | err nm ds =>
    rw [e] at hq
    exact hq.elim
  | stuck =>
    rw [e] at hq
    exact hq.elim
section
variable {X : Cx} {x : Addr → Option (Addr × Addr)} {s : Stmt} {ss : List Stmt} {t u : TS} {e c : Expr} {te : TE} {tt : TT} {m : Env → R D} {mt : Env → R Bool} {ma mb mh mr : Env → R Fl} {pos : Pos} {a b : List Stmt}
theorem mhs_nil : MHs X x [] tNext (fun ρ => .ok (.nx ρ)) := ⟨pss_nil, fun σ I H ρ D0 re ex h => h I H (.refl ex)⟩
theorem mhs_one (h : MH X x s t mh) : MHs X x [s] t mh := ⟨pss_one h.pe, h.sn⟩
def seqH (a : R Fl) (b : R Fl) : R Fl := a >>= fun f => match f with
  | .nx _ => b
  | f => .ok f
theorem mhs_cons (h : MH X x s t mh) (h2 : MHs X x ss u mr) : MHs X x (s :: ss) (tSeq t u) (fun ρ => seqH (mh ρ) (mr ρ)) := ⟨pss_cons h.pe h2.pe, fun σ I H ρ D0 re ex q => by
  refine h.sn σ I H ρ _ re ex ?_
  cases z : mh ρ with
  | ok f =>
    simp only [z, seqH] at q
    cases f with
    | nx ρ' => exact fun I' H' s => h2.sn σ I' H' ρ D0 (re.mono s.i) s.e (OutH.mono s q)
    | rt d => exact q
    | _ => exact q
  | err n ds =>
    simp only [z, seqH] at q
    exact q
  | stuck =>
    simp only [z, seqH] at q
    exact q⟩
theorem mh_ret (h : ME X (hE x) e te m) : MH X x (.Return (some e) pos) (tRet te) (fun ρ => ret (m ρ)) := ⟨ps_ret h.pe, fun σ I H ρ D0 re ex q => SnH.of (k := fun d => .ok (.rt d)) h.sn re ex q fun d v I' H' s r q => q v I' H' (.refl s.e) r⟩
theorem mh_pass : MH X x (.Pass pos) tNext (fun ρ => .ok (.nx ρ)) := ⟨ps_pass, fun σ I H ρ D0 re ex h => h I H (.refl ex)⟩
theorem mh_if (hc : MT X (hE x) c tt mt) (ha : MHs X x a t ma) (hb : MHs X x b u mb) : MH X x (.If c a b pos) (tIfS tt t u) (fun ρ => ifv (mt ρ) (ma ρ) (mb ρ)) := ⟨ps_if hc.pe ha.pe hb.pe, fun σ I H ρ D0 re ex q => by
  refine SnH.of (k := fun k => if k = true then ma ρ else mb ρ) hc.sn re ex q fun d v I' H' s r q => ?_
  have r : v = d := r
  subst r
  cases v with
  | true => exact ha.sn σ I' H' ρ D0 (re.mono s.i) s.e q
  | false => exact hb.sn σ I' H' ρ D0 (re.mono s.i) s.e q⟩
end

/-! #### what is tried -/
/-- an error goes out at the slots' values of the start -/
def OutY (K : PySem.W.Frag) (gm : Gm) (W : WX) (M : List Nat) (Ie : Hp × Addr) (He I0 : Hp) (σ0 : L2.St) (ρ0 : Env) (D0 : Ends) (r : R Fl) : Prop := match r with
  | .ok (.nx ρ) => ∀ σ I H, SE K gm M Ie He σ I H ρ → Same I0 I → D0.nx σ H
  | .ok (.rt d) => ∀ v I H, Stp Ie.1 He I H → Rep K gm I v d → D0.rt v H
  | .err nm ds => ∀ C od I H, SE K gm M Ie He σ0 I H ρ0 → Same I0 I → XRep K gm I H nm ds C od → W C od σ0 H
  | _ => False
def SnY (K : PySem.W.Frag) (gm : Gm) (W : WX) (M : List Nat) (ts : TS) (ms : Env → R Fl) : Prop :=
  ∀ (Ie : Hp × Addr) (He : Hp) (σ : L2.St) (I H : Hp) (ρ : Env) (D0 : Ends), SE K gm M Ie He σ I H ρ → OutY K gm W M Ie He I σ ρ D0 (ms ρ) → ts D0 σ H
abbrev yE (W : WX) : Wh := ⟨WE W, fun _ => none⟩
/-- within a try -/
structure MY (X : Cx) (M : List Nat) (s : Stmt) (tb : WX → TS) (ms : Env → R Fl) : Prop where
  pe : ∀ (W : WX) (pn : List (Addr × Obj)) (xe : Value → Shared → Prop), Takes (X.tr pn xe) W → PassesOwn (model X.prog X.w) X.A X.env xe → PS (X.tr pn xe) s (tb W)
  sn : ∀ W, SnY X.K (g0 X.mg) W M (tb W) ms
structure MYs (X : Cx) (M : List Nat) (s : List Stmt) (tb : WX → TS) (ms : Env → R Fl) : Prop where
  pe : ∀ (W : WX) (pn : List (Addr × Obj)) (xe : Value → Shared → Prop), Takes (X.tr pn xe) W → PassesOwn (model X.prog X.w) X.A X.env xe → PSs (X.tr pn xe) s (tb W)
  sn : ∀ W, SnY X.K (g0 X.mg) W M (tb W) ms
section
variable {X : Cx} {M : List Nat} {s : Stmt} {ss : List Stmt} {t u : WX → TS} {e c : Expr} {te : WX → TE} {tt : WX → TT} {m : Env → R D} {mt : Env → R Bool} {ma mb mr : Env → R Fl} {pos pos' : Pos} {a b : List Stmt}
theorem SnY.of {K : PySem.W.Frag} {gm : Gm} {W : WX} {Ie : Hp × Addr} {He I H : Hp} {σ : L2.St} {ρ : Env} {D0 : Ends} {α β : Type} {rp : Hp → β → α → Prop} {te : L2.St → Hp → (β → Hp → Prop) → Prop} {m : Env → R α} {k : α → R Fl} {P : β → Hp → Prop} (h : Sn K gm (WE W) rp te m) (s : SE K gm M Ie He σ I H ρ) (hq : OutY K gm W M Ie He I σ ρ D0 (m (wipeE ρ M) >>= k))
    (hk : ∀ d v I' H', SE K gm M Ie He σ I' H' ρ → Stp I H I' H' → rp I' v d → OutY K gm W M Ie He I σ ρ D0 (k d) → P v H') : te σ H P := by
  refine h σ I H _ P s.re s.st.e ?_
  cases e : m (wipeE ρ M) with
  | ok d =>
    rw [e] at hq
    exact fun v I' H' t r => hk d v I' H' (s.step t) t r hq
  | err nm ds =>
    rw [e] at hq
    exact fun C od I' H' t x => hq C od I' H' (s.step t) t.i x
  | stuck =>
    rw [e] at hq
    exact hq.elim
theorem OutY.mono {K : PySem.W.Frag} {gm : Gm} {W : WX} {Ie : Hp × Addr} {He I0 I1 : Hp} {σ : L2.St} {ρ : Env} {D0 : Ends} {r : R Fl} (k : Same I0 I1) (h : OutY K gm W M Ie He I0 σ ρ D0 r) : OutY K gm W M Ie He I1 σ ρ D0 r := by
  cases r with
  | ok f =>
    cases f with
    | nx ρ => exact fun σ I H s q => h σ I H s (k.trans q)
    | rt d => exact h
    | _ => exact h
  | err nm ds => exact fun C od I H s q x => h C od I H s (k.trans q) x
  | stuck => exact h
theorem mys_one (h : MY X M s t ma) : MYs X M [s] t ma := ⟨fun W pn xe tk hp => pss_one (h.pe W pn xe tk hp), h.sn⟩
theorem mys_nil : MYs X M [] (fun _ => tNext) (fun ρ => .ok (.nx ρ)) := ⟨fun W pn xe tk hp => pss_nil, fun W Ie He σ I H ρ D0 s h => h σ I H s (.refl _)⟩
theorem my_expr (h : ∀ (W : WX) (pn : List (Addr × Obj)) (xe : Value → Shared → Prop), Takes (X.tr pn xe) W → ME (X.tr pn xe) (yE W) e (te W) m) (hw : ∀ (pn : List (Addr × Obj)) (xe : Value → Shared → Prop), swapsWith e none pos.line (X.tr pn xe).env = pure false := by intro _ _; rfl) : MY X M (.Expr e pos) (fun W => tDrop (te W)) (fun ρ => drp ρ (m (wipeE ρ M))) :=
  ⟨fun W pn xe tk hp => ps_expr (h W pn xe tk).pe (hw pn xe), fun W Ie He σ I H ρ D0 s q => SnY.of (k := fun _ => .ok (.nx ρ)) (h W [] (fun _ _ => True) (fun _ _ _ => True.intro)).sn s q fun d v I' H' s' t r q => q σ I' H' s' t.i⟩
theorem my_ret (h : ∀ (W : WX) (pn : List (Addr × Obj)) (xe : Value → Shared → Prop), Takes (X.tr pn xe) W → ME (X.tr pn xe) (yE W) e (te W) m) : MY X M (.Return (some e) pos) (fun W => tRet (te W)) (fun ρ => ret (m (wipeE ρ M))) :=
  ⟨fun W pn xe tk hp => ps_ret (h W pn xe tk).pe, fun W Ie He σ I H ρ D0 s q => SnY.of (k := fun d => .ok (.rt d)) (h W [] (fun _ _ => True) (fun _ _ _ => True.intro)).sn s q fun d v I' H' s' t r q => q v I' H' s'.st r⟩
theorem my_set (i : Nat) {x : Str} (hi : X.N[i]? = some x) (hN : X.N.Nodup) (hx : Loc X.env.scope x) (hM : i ∉ M) (h : ∀ (W : WX) (pn : List (Addr × Obj)) (xe : Value → Shared → Prop), Takes (X.tr pn xe) W → ME (X.tr pn xe) (yE W) e (te W) m)
    (hw : ∀ (pn : List (Addr × Obj)) (xe : Value → Shared → Prop) (t : TE), PE (X.tr pn xe) e t → PS (X.tr pn xe) (.Assign [.Name x pos'] e pos) (tAsg t (gName i))) : MY X M (.Assign [.Name x pos'] e pos) (fun W => tAsg (te W) (gName i)) (fun ρ => asg i ρ (m (wipeE ρ M))) :=
  ⟨fun W pn xe tk hp => hw pn xe _ (h W pn xe tk).pe, fun W Ie He σ I H ρ D0 s q => SnY.of (k := fun d => .ok (.nx (ρ.set i (some d)))) (h W [] (fun _ _ => True) (fun _ _ _ => True.intro)).sn s q fun d v I' H' s' t r q => q _ I' H' (s'.set hM r) t.i⟩
theorem my_if (hc : ∀ (W : WX) (pn : List (Addr × Obj)) (xe : Value → Shared → Prop), Takes (X.tr pn xe) W → MT (X.tr pn xe) (yE W) c (tt W) mt) (ha : MYs X M a t ma) (hb : MYs X M b u mb) : MY X M (.If c a b pos) (fun W => tIfS (tt W) (t W) (u W)) (fun ρ => ifv (mt (wipeE ρ M)) (ma ρ) (mb ρ)) :=
  ⟨fun W pn xe tk hp => ps_if (hc W pn xe tk).pe (ha.pe W pn xe tk hp) (hb.pe W pn xe tk hp), fun W Ie He σ I H ρ D0 s q => by
    refine SnY.of (k := fun k => if k = true then ma ρ else mb ρ) (hc W [] (fun _ _ => True) (fun _ _ _ => True.intro)).sn s q fun d v I' H' s' t r q => ?_
    have r : v = d := r
    subst r
    cases v with
    | true => exact (ha.sn W) Ie He σ I' H' ρ D0 s' (OutY.mono t.i q)
    | false => exact (hb.sn W) Ie He σ I' H' ρ D0 s' (OutY.mono t.i q)⟩
end
end DL
namespace DL
open PySem PySem.Spec PyProof.Rows L2

/-! #### what a suite asks of its error -/
def tXfA (K : PySem.W.Frag) (a : Addr) (cls : Value) (d : Option Addr) (f : Str) (te : TE) : TE := fun σ H Q => te σ H fun x H1 => x = .ref a ∧ ∃ (C dd : Addr) (fs : List (Str × V)) (v : V), cls = .ref C ∧ XfC K C ∧ PySem.W.findIn K (.ref C) f = some none ∧ d = some dd ∧ H1 dd = some (.xd fs) ∧ fs.lookup f = some v ∧ Q v H1
theorem pe_xfA {X : Cx} {a : Addr} {oe : Obj} {cls : Value} {d : Option Addr} {pn : List (Addr × Obj)} {e : Expr} {te : TE} {pos : Pos} {f : Str} (hz : Zc cls d oe) (hf : ∃ vs, oe.data = .fields vs) (he : PE (X.suite a ((a, oe) :: pn)) e te) (hb : attributeBase e f X.env (eval e X.env) = eval e X.env := by rfl) :
    PE (X.suite a ((a, oe) :: pn)) (.Attribute e f pos) (tXfA X.K a cls d f te) := by
  refine ⟨fun pins s σ H Q I h => ?_⟩
  refine attr_of hb (thn (he.run pins s σ H _ I h) fun u s1 hh => ?_)
  obtain ⟨x, H1, I1, rx, ex, C, dd, fs, v, ec, T, hno, ed, ea, l, q⟩ := hh
  subst ex
  obtain rfl : u = Value.ref a := rx
  subst ec
  subst ed
  obtain ⟨ha, _⟩ := I1.pin (a, oe) (List.mem_append_left _ List.mem_cons_self)
  obtain ⟨vs, hd⟩ := hf
  have hx : ObjOk X.prog X.w H1 s1.heap dd (.xd fs) := I1.hok dd _ ea
  obtain ⟨mA, hns, hr⟩ := hx
  obtain ⟨od, ho, hl⟩ := lookIn_ns hns
  obtain ⟨u, hu, ru⟩ := RelO.some_of (v := v) (o := mA f) (by rw [← l]; exact hr f)
  have J : PySem.W.InstAt s1.heap a oe C (some od) := ⟨ha, hz.1, by unfold PySem.W.notCls; rw [hd] <;> rfl, by rw [hz.2]; exact ho⟩
  exact HandSPX.exc_get I1.kIn J T.ga T.gg T.exC (PySem.W.findObj_own T.hdC hno rfl (by rw [hl, hu])) (handed_of ru) ⟨v, H1, I1.tok _, ru, q⟩
def xfD (ns : List Str) (f : Str) : D → R D
  | .exc n ks ds => if n ∈ ns then (match getF f ks ds with | some d => .ok d | none => .stuck) else .stuck
  | _ => .stuck
def XcF (K : PySem.W.Frag) (mg : Str → Option Value) (ns : List Str) (f : Str) : Prop := ∀ n ∈ ns, ∀ C, mg n = some (.ref C) → XfC K C ∧ PySem.W.findIn K (.ref C) f = some none
theorem me_xf {X : Cx} {a : Addr} {oe : Obj} {cls : Value} {d : Option Addr} {pn : List (Addr × Obj)} {e : Expr} {te : TE} {m : Env → R D} {pos : Pos} (ns : List Str) {f : Str} (T : XcF X.K X.mg ns f) (hz : Zc cls d oe) (hf : ∃ vs, oe.data = .fields vs) (he : ME (X.suite a ((a, oe) :: pn)) (hE (xcV a cls d)) e te m) (hb : attributeBase e f X.env (eval e X.env) = eval e X.env := by rfl) :
    ME (X.suite a ((a, oe) :: pn)) (hE (xcV a cls d)) (.Attribute e f pos) (tXfA X.K a cls d f te) (fun ρ => o1 (xfD ns f) (m ρ)) := by
  obtain ⟨pa, sa⟩ := he
  refine ⟨pe_xfA hz hf pa hb, fun σ I H ρ Q re ex h => ?_⟩
  refine sa.run re ex h fun u v I1 H1 _ st rx h => ?_
  obtain ⟨z, hz, h9⟩ := out_calm h
  cases rx with
  | @exc a0 C dd n fs ds hx hn ha ra =>
    have hz : (if n ∈ ns then (match getF f (fs.map (·.1)) ds with | some d => R.ok d | none => .stuck) else .stuck) = R.ok z := hz
    by_cases hm : n ∈ ns
    · rw [if_pos hm] at hz
      cases e : getF f (fs.map (·.1)) ds with
      | none =>
        rw [e] at hz
        cases hz
      | some d' =>
        rw [e] at hz
        cases hz
        obtain ⟨v', h1, h2⟩ := getF_rep ra e
        obtain ⟨k1, k2⟩ := T n hm C hn
        obtain ⟨rfl, rfl, rfl⟩ := xcV_of hx
        exact ⟨rfl, C, dd, fs, v', rfl, k1, k2, rfl, st.e _ _ ha, h1, h9 _ _ _ (.refl st.e) h2⟩
    · rw [if_neg hm] at hz
      cases hz
  | _ => cases hz

/-! #### isinstance(e, X) -/
/-- which class is below which: of the text's own, of the built-in ones -/
structure XSub (K : PySem.W.Frag) (mg : Str → Option Value) (T : Str → Str → Option Bool) (B : Str → String → Option Bool) : Prop where
  cl : ∀ n C, (∃ c b, T n c = some b) ∨ (∃ c b, B n c = some b) → mg n = some (.ref C) → ExcC K C ∧ (PySem.W.clsIn K C).isSome = true
  own : ∀ n c b C u, T n c = some b → mg n = some (.ref C) → mg c = some u → PySem.W.kitOne K (.ref C) u = some b ∧ PySem.W.exmOne K (.ref C) u = some b
  bt : ∀ n c b C, B n c = some b → mg n = some (.ref C) → PySem.W.kitOne K (.ref C) (.type c) = some b ∧ PySem.W.exmOne K (.ref C) (.type c) = some b
def rIsX (K : PySem.W.Frag) (a : Addr) (cls : Value) (d : Option Addr) : List V → Hp → VK → Prop := fun xs H Q => ∃ (c : V) (u : Value) (b : Bool) (C dd : Addr) (fs : List (Str × V)), xs = [.ref a, c] ∧ ClsV c u ∧ cls = .ref C ∧ d = some dd ∧ H dd = some (.xd fs) ∧ ExcC K C ∧ (PySem.W.clsIn K C).isSome = true ∧ PySem.W.kitOne K (.ref C) u = some b ∧ Q (.bl b) H
theorem call_isX {X : Cx} {a : Addr} {oe : Obj} {cls : Value} {d : Option Addr} {pn : List (Addr × Obj)} (hz : Zc cls d oe) (hf : ∃ vs, oe.data = .fields vs) : CallR (X.suite a ((a, oe) :: pn)) (.builtin "isinstance") (rIsX X.K a cls d) := by
  intro pins s σ H xs us Q I r h
  obtain ⟨c, u, b, C, dd, fs, rfl, hc, rfl, rfl, ea, T, ic, ek, q⟩ := h
  cases r with
  | cons r1 r =>
    cases r with
    | cons r2 r =>
      cases r
      rename_i u1 u2
      obtain rfl : u1 = Value.ref a := r1
      obtain rfl : u2 = u := by
        cases hc with
        | ty n => exact r2
        | own C => exact r2
      obtain ⟨ha, _⟩ := I.pin (a, oe) (List.mem_append_left _ List.mem_cons_self)
      obtain ⟨vs, hd⟩ := hf
      obtain ⟨mA, hns, hr⟩ : ObjOk X.prog X.w H s.heap dd (.xd fs) := I.hok dd _ ea
      obtain ⟨od, ho, hl⟩ := lookIn_ns hns
      have J : PySem.W.InstAt s.heap a oe C (some od) := ⟨ha, hz.1, by unfold PySem.W.notCls; rw [hd] <;> rfl, by rw [hz.2]; exact ho⟩
      exact PySem.W.kia_one (PySem.W.kitx_exc ic T.hg T.hk T.hs T.ha T.hn T.ht T.hm) I.kIn J ek (fun z => nomatch z) fun tk => ⟨.bl b, H, I.tok _, rfl, q⟩
def isxD (T : Str → Str → Option Bool) (B : Str → String → Option Bool) : List D → R D
  | [.exc n _ _, .cls c] => match T n c with | some b => .ok (.bl b) | none => .stuck
  | [.exc n _ _, .ty c] => match B n c with | some b => .ok (.bl b) | none => .stuck
  | _ => .stuck
theorem cs_isx {K : PySem.W.Frag} {mg : Str → Option Value} {T : Str → Str → Option Bool} {B : Str → String → Option Bool} {a : Addr} {cls : Value} {d : Option Addr} (S : XSub K mg T B) : CSn K ⟨mg, xcV a cls d⟩ (rIsX K a cls d) (isxD T B) := by
  intro xs I H ds z Q ex rs hz q
  cases rs with
  | nil => cases hz
  | cons r1 rs =>
    cases rs with
    | nil => cases r1 <;> cases hz
    | cons r2 rs =>
      cases rs with
      | cons _ _ => cases r1 <;> cases r2 <;> cases hz
      | nil =>
        cases r1 with
        | @exc a0 C dd n fs es hx hn ha ra =>
          obtain ⟨rfl, rfl, rfl⟩ := xcV_of hx
          cases r2 with
          | @cls c C2 hc =>
            have hz : (match T n c with | some b => R.ok (D.bl b) | none => .stuck) = .ok z := hz
            cases e : T n c with
            | none =>
              rw [e] at hz
              cases hz
            | some b =>
              rw [e] at hz
              cases hz
              obtain ⟨k1, k2⟩ := S.cl n C (.inl ⟨c, b, e⟩) hn
              exact ⟨_, _, b, C, dd, fs, rfl, .own C2, rfl, rfl, ex _ _ ha, k1, k2, (S.own n c b C _ e hn hc).1, q _ _ _ (.refl ex) (.bl b)⟩
          | ty c =>
            have hz : (match B n c with | some b => R.ok (D.bl b) | none => .stuck) = .ok z := hz
            cases e : B n c with
            | none =>
              rw [e] at hz
              cases hz
            | some b =>
              rw [e] at hz
              cases hz
              obtain ⟨k1, k2⟩ := S.cl n C (.inr ⟨c, b, e⟩) hn
              exact ⟨_, _, b, C, dd, fs, rfl, .ty c, rfl, rfl, ex _ _ ha, k1, k2, (S.bt n c b C e hn).1, q _ _ _ (.refl ex) (.bl b)⟩
          | _ => cases hz
        | _ => cases r2 <;> cases hz
/-- a class of the text's own as a value -/
theorem me_cls {X : Cx} {E : Wh} {x : Str} {C : Addr} {pos : Pos} (hg : Gl X x) (hm : X.mg x = some (.ref C)) (hd : (x == ("__debug__" : Str)) = false := by decide) : ME X E (.Name x pos) (tC (.ref C)) (fun _ => .ok (.cls x)) :=
  ⟨pe_glob hg hm rfl hd, fun σ I H ρ Q re ex h => h.here ex (.cls hm)⟩

/-! #### try .. except X as e .. -/
/-- the clauses: the slot, the class, whether it is one's own, what the suite does -/
structure Cl where
  i : Nat
  own : Bool
  c : String
  h : Env → R Fl
def clM (T : Str → Str → Option Bool) (B : Str → String → Option Bool) (M : List Nat) (n : Str) (ks : List Str) (es : List D) (ρ : Env) : List Cl → R Fl
  | [] => .err n [.obj n ks es]
  | k :: r => match (if k.own = true then T n k.c else B n k.c) with
    | some true => calm (k.h ((wipeE ρ M).set k.i (some (.exc n ks es)))) >>= fun f => match f with
      | .nx _ => .ok (.nx (ρ.set k.i none))
      | .rt d => if d.noX = true then .ok (.rt d) else .stuck
      | _ => .stuck
    | some false => clM T B M n ks es ρ r
    | none => .stuck
def tryM (T : Str → Str → Option Bool) (B : Str → String → Option Bool) (M : List Nat) (mb : Env → R Fl) (l : List Cl) (ρ : Env) : R Fl := match mb ρ with
  | .err n ds => match ds with
    | [.obj _ ks es] => clM T B M n ks es ρ l
    | _ => .stuck
  | .ok (.nx ρ) => .ok (.nx ρ)
  | .ok (.rt d) => .ok (.rt d)
  | _ => .stuck
/-- the clauses' texts -/
inductive ClOk (X : Cx) : List ExceptHandler → List (Nat × Value × (Addr → Value → Option Addr → TS)) → List Cl → Prop
  | nil : ClOk X [] [] []
  | cons {x : String} {n : Str} {c : Value} {i : Nat} {o : Bool} {ts : Addr → Value → Option Addr → TS} {mh : Env → R Fl} {b₀ : Stmt} {suite : List Stmt} {np pos' : Pos} {hds : List ExceptHandler} {l : List (Nat × Value × (Addr → Value → Option Addr → TS))} {ms : List Cl} (hc : Names X x c) (ho : if o = true then X.mg x = some c else c = .type x) (hi : X.N[i]? = some n) (hln : X.env.kindOf n = some .local)
      (hsu : ∀ (a : Addr) (oe : Obj) (cls : Value) (d : Option Addr) (pn : List (Addr × Obj)), Zc cls d oe → (∃ vs, oe.data = .fields vs) → MHs (X.suite a ((a, oe) :: pn)) (xcV a cls d) (b₀ :: suite) (ts a cls d) mh) (r : ClOk X hds l ms) :
      ClOk X (.ExceptHandler (some (.Name x np)) (some n) (b₀ :: suite) pos' :: hds) ((i, c, ts) :: l) (⟨i, o, x, mh⟩ :: ms)
theorem ClOk.ass {X : Cx} {hds : List ExceptHandler} {l : List (Nat × Value × (Addr → Value → Option Addr → TS))} {ms : List Cl} (h : ClOk X hds l ms) : AsOk X hds l := by
  induction h with
  | nil => exact .nil
  | cons hc ho hi hln hsu r ih => exact .cons hc hi hln (fun a oe cls d pn hz hf => (hsu a oe cls d pn hz hf).pe) ih
theorem SE.unset {K : PySem.W.Frag} {mg : Gm} {M : List Nat} {Ie : Hp × Addr} {He I H : Hp} {σ τ : L2.St} {ρ : Env} {i : Nat} (s : SE K mg M Ie He σ I H ρ) (hi : i ∉ M) (hl : τ.length = σ.length) (h : ∀ j, j ≠ i → τ[j]? = σ[j]?) : SE K mg M Ie He τ I H (ρ.set i none) where
  st := s.st
  len := by rw [List.length_set, hl, s.len]
  imm := fun j d hj q => by
    by_cases e : i = j
    · subst e
      by_cases hl : i < ρ.length
      · rw [List.getElem?_set_self hl] at q
        cases q
      · rw [List.getElem?_eq_none (by rw [List.length_set]; omega)] at q
        cases q
    · rw [List.getElem?_set_ne e] at q
      rw [h j (Ne.symm e)]
      exact s.imm j d hj q
  own_ := fun j d hj q => by
    have e : i ≠ j := fun z => hi (z ▸ hj)
    rw [List.getElem?_set_ne e] at q
    rw [h j (Ne.symm e)]
    exact s.own_ j d hj q
  dis := fun j k p p' d e hj hk hne q1 q2 h1 h2 => by
    have n1 : i ≠ j := fun z => hi (z ▸ hj)
    have n2 : i ≠ k := fun z => hi (z ▸ hk)
    rw [List.getElem?_set_ne n1] at q1
    rw [List.getElem?_set_ne n2] at q2
    rw [h j (Ne.symm n1)] at h1
    rw [h k (Ne.symm n2)] at h2
    exact s.dis j k p p' d e hj hk hne q1 q2 h1 h2
  slf := fun j e p hj q g => by
    have hne : i ≠ j := fun z => hi (z ▸ hj)
    rw [List.getElem?_set_ne hne] at q
    rw [h j (Ne.symm hne)] at g
    exact s.slf j e p hj q g
theorem RE.more {K : PySem.W.Frag} {m : Str → Option Value} {x : Addr → Option (Addr × Addr)} {I : Hp} {σ : L2.St} {ρ : Env} (h : RE K (g0 m) I σ ρ) : RE K ⟨m, x⟩ I σ ρ := ⟨h.len, fun i d q => by
  obtain ⟨v, a, b⟩ := h.at_ i d q
  exact ⟨v, a, b.more⟩⟩
/-- the clauses' reading at an error -/
theorem cl_sn {X : Cx} {E : XK} {Mb M : List Nat} {T : Str → Str → Option Bool} {B : Str → String → Option Bool} (S : XSub X.K X.mg T B) {Ie : Hp × Addr} {He I0 : Hp} {D0 : Ends} {σ : L2.St} {ρ : Env} {n : Str} {ks : List Str} {es : List D} {C : Value} {od : Option Addr} {I H : Hp} (s : SE X.K (g0 X.mg) M Ie He σ I H ρ) (k0 : Same I0 I) (xr : XRep X.K (g0 X.mg) I H n [.obj n ks es] C od) :
    ∀ {hds : List ExceptHandler} {l : List (Nat × Value × (Addr → Value → Option Addr → TS))} {ms : List Cl}, ClOk X hds l ms → (∀ k ∈ ms, k.i ∉ M) → OutS X.K (g0 X.mg) E Mb M Ie He I0 D0 (clM T B M n ks es ρ ms) → wAss X.K (fun cls d _ H => E cls d H) D0 l C od σ H := by
  intro hds l ms h
  induction h with
  | nil => exact fun _ q => q C od I H s.st xr
  | @cons x nn c i o ts mh b₀ suite np pos' hds l ms hc ho hi hln hsu r ih =>
    intro hM q
    obtain ⟨d, fs, es', rfl, hd, he, ra⟩ := xr.d
    obtain ⟨hcn, C0, rfl⟩ := xr.c
    cases he
    have hiM : i ∉ M := hM ⟨i, o, x, mh⟩ List.mem_cons_self
    have ek : ∀ b, (if o = true then T n x else B n x) = some b → PySem.W.exmOne X.K (.ref C0) c = some b := fun b e => by
      cases o with
      | true => exact (S.own n x b C0 c e hcn ho).2
      | false =>
        have ho : c = .type x := ho
        subst ho
        exact (S.bt n x b C0 e hcn).2
    have q : OutS X.K (g0 X.mg) E Mb M Ie He I0 D0 (match (if o = true then T n x else B n x) with
      | some true => calm (mh ((wipeE ρ M).set i (some (.exc n (fs.map (·.1)) es)))) >>= fun f => match f with
        | .nx _ => .ok (.nx (ρ.set i none))
        | .rt d => if d.noX = true then .ok (.rt d) else .stuck
        | _ => .stuck
      | some false => clM T B M n (fs.map (·.1)) es ρ ms
      | none => .stuck) := q
    cases eb : (if o = true then T n x else B n x) with
    | none =>
      rw [eb] at q
      exact q.elim
    | some b =>
      rw [eb] at q
      refine ⟨b, ek b eb, fun hb a ha => ?_, fun hb => ?_⟩
      · subst hb
        have q : OutS X.K (g0 X.mg) E Mb M Ie He I0 D0 (calm (mh ((wipeE ρ M).set i (some (.exc n (fs.map (·.1)) es)))) >>= fun f => match f with
          | .nx _ => .ok (.nx (ρ.set i none))
          | .rt d => if d.noX = true then .ok (.rt d) else .stuck
          | _ => .stuck) := q
        have re := (RE.more (x := xcV a (.ref C0) (some d)) s.re).set (i := i) (v := .ref a) (d := .exc n (fs.map (·.1)) es) (Rep.exc (mg := ⟨X.mg, xcV a (.ref C0) (some d)⟩) xcV_at hcn hd ra.more)
        refine (hsu a { cls := .ref C0, dict := some d, data := .fields #[] } (.ref C0) (some d) [] ⟨rfl, rfl⟩ ⟨_, rfl⟩).sn _ I H _ _ re s.st.e ?_
        cases e : mh ((wipeE ρ M).set i (some (.exc n (fs.map (·.1)) es))) with
        | err _ _ =>
          rw [e] at q
          exact q.elim
        | stuck =>
          rw [e] at q
          exact q.elim
        | ok f =>
          rw [e] at q
          cases f with
          | nx ρ' =>
            have q : ∀ σ I H, SE X.K (g0 X.mg) M Ie He σ I H (ρ.set i none) → Same I0 I → D0.nx σ H := q
            exact fun I' H' t => q _ I' H' ((s.step t).unset hiM (by rw [List.length_set, List.length_set]) fun j hj => by rw [List.getElem?_set_ne (Ne.symm hj), List.getElem?_set_ne (Ne.symm hj)]) (k0.trans t.i)
          | rt r =>
            have q : OutS X.K (g0 X.mg) E Mb M Ie He I0 D0 (if r.noX = true then .ok (.rt r) else .stuck) := q
            obtain ⟨hx, q⟩ := outS_if q
            exact fun v I' H' t rv => q v I' H' (s.st.trans t) (rv.noX hx)
          | bk _ => exact q.elim
          | rf _ => exact q.elim
          | ct _ => exact q.elim
      · subst hb
        exact ih (fun k hk => hM k (List.mem_cons_of_mem _ hk)) q
theorem ms_try {X : Cx} {E : XK} {Mb M : List Nat} {body : List Stmt} {h₀ : ExceptHandler} {hds : List ExceptHandler} {l : List (Nat × Value × (Addr → Value → Option Addr → TS))} {ms : List Cl} {pos : Pos} {tb : WX → TS} {mb : Env → R Fl} {T : Str → Str → Option Bool} {B : Str → String → Option Bool} (S : XSub X.K X.mg T B) (hb : MYs X M body tb mb) (hc : ClOk X (h₀ :: hds) l ms) (tk : Takes X (fun cls d _ H => E cls d H)) (hN : X.N.Nodup) (hM : ∀ k ∈ ms, k.i ∉ M := by decide) (hs : X.stack = X.env :: X.outer := by rfl) (hf : X.env.frame = some X.env.locals := by rfl) :
    MS X E Mb M M (.Try body (h₀ :: hds) [] [] pos) (fun D σ H => tb (wAss X.K (fun cls d _ H => E cls d H) D l) D σ H) (tryM T B M mb ms) :=
  ⟨ps_try_ass hs hf hN tk hb.pe hc.ass, fun Ie He σ I H ρ D0 s q => by
    refine hb.sn _ Ie He σ I H ρ D0 s ?_
    unfold tryM at q
    cases e : mb ρ with
    | ok f =>
      rw [e] at q
      cases f with
      | nx ρ' => exact q
      | rt d => exact q
      | bk ρ' => exact q.elim
      | rf _ => exact q.elim
      | ct ρ' => exact q.elim
    | stuck =>
      rw [e] at q
      exact q.elim
    | err n ds =>
      rw [e] at q
      intro C od I' H' s' k' xr
      obtain ⟨d, fs, es', rfl, hd, rfl, ra⟩ := xr.d
      exact cl_sn S s' k' xr hc hM q⟩
end DL
namespace DL
open PySem PySem.Spec PyProof.Rows L2

/-! ### truth -/
def truD : D → R Bool
  | .bl b => .ok b
  | .int i => .ok (i != 0)
  | .non => .ok false
  | _ => .stuck
def tru (a : R D) : R Bool := a >>= truD
@[simp] theorem tru_ok (d : D) : tru (.ok d) = truD d := rfl
theorem mt_truth {X : Cx} {E : Wh} {e : Expr} {t : TE} {m : Env → R D} (h : ME X E e t m) (he : ∀ whole, isTrue e X.env whole = (do let v ← whole; standAt e.pos; holding [v] (truthy v)) := by intro _; rfl) : MT X E e (fun σ H Q => t σ H fun x H' => ∃ k, TruV X.K x H' k ∧ Q k H') (fun ρ => tru (m ρ)) := by
  obtain ⟨pt, st⟩ := h
  refine ⟨pt_truth pt he, fun σ I H ρ Q re ex h => ?_⟩
  refine st.run re ex h fun d v I1 H1 _ st rx h => ?_
  cases rx with
  | bl k => exact ⟨k, rfl, h.here st.e rfl⟩
  | int i => exact ⟨(i != 0), rfl, h.here st.e rfl⟩
  | non => exact ⟨false, rfl, h.here st.e rfl⟩
  | _ => exact h.elim

/-! ### any, all over bools and ints -/
inductive Tru1 : V → Value → Bool → Prop
  | bl (b : Bool) : Tru1 (.bl b) (.bool b) b
  | int (i : Int) (t : Tok) : Tru1 (.int i) (.int i t) (i != 0)
def TrV : V → Option Bool
  | .bl b => some b
  | .int i => some (i != 0)
  | _ => none
def TrVs : List V → Option (List Bool)
  | [] => some []
  | v :: vs => match TrV v, TrVs vs with
    | some b, some bs => some (b :: bs)
    | _, _ => none
theorem truth_trs {prog : Program} {w : World} {A : Around} : ∀ {vs : List V} {its : List Value} {bs : List Bool}, Vals vs its → TrVs vs = some bs → its.length = bs.length ∧ ∀ (i : Nat) (v : Value) (s : Shared) (Q : Bool → Shared → Prop) (E : Value → Shared → Prop), its[i]? = some v → Q (bs.getD i false) s → wpAny (model prog w) A (truthy v) Q E s
  | [], _, _, .nil, h => by
    cases h
    exact ⟨rfl, fun i v s Q E h _ => by simp at h⟩
  | x :: vs, u :: its, bs, .cons r rs, h => by
    unfold TrVs at h
    cases e1 : TrV x with
    | none =>
      rw [e1] at h
      cases h
    | some b =>
      cases e2 : TrVs vs with
      | none =>
        rw [e1, e2] at h
        cases h
      | some bs' =>
        rw [e1, e2] at h
        cases h
        obtain ⟨hl, hr⟩ := truth_trs (prog := prog) (w := w) (A := A) rs e2
        refine ⟨congrArg (· + 1) hl, fun i v s Q E hv q => ?_⟩
        cases i with
        | succ j => exact hr j v s Q E hv q
        | zero =>
          have e := Option.some.inj hv
          subst e
          cases x with
          | bl k =>
            cases e1
            have r : u = Value.bool b := r
            subst r
            exact wpAny_truthy_bool q
          | int i =>
            cases e1
            obtain ⟨t, rfl⟩ := r
            exact PySem.P.truthy_int q
          | _ => cases e1
def rAllT (K : PySem.W.Frag) : List V → Hp → VK → Prop := fun vs H Q => ∃ (a : Addr) (xs : List V) (bs : List Bool), vs = [.ref a] ∧ SqL K H a xs ∧ TrVs xs = some bs ∧ Q (.bl (bs.all id)) H
def rAnyT (K : PySem.W.Frag) : List V → Hp → VK → Prop := fun vs H Q => ∃ (a : Addr) (xs : List V) (bs : List Bool), vs = [.ref a] ∧ SqL K H a xs ∧ TrVs xs = some bs ∧ Q (.bl (bs.any id)) H
theorem cr_allT {X : Cx} (hc : X.calm = true) : CallR X (.builtin "all") (rAllT X.K) := by
  intro pins s σ H vs us Q I r h
  obtain ⟨a, xs, bs, rfl, hs, ht, q⟩ := h
  obtain ⟨its, rv, hl, _⟩ := Inv.list I hs
  obtain ⟨hlen, htr⟩ := truth_trs (prog := X.prog) (w := X.w) (A := X.A.in1) rv ht
  rw [Vals.ref1 r]
  refine call_all_walk (iter_any (PlainL.isList hl) fun s₂ e2 st hne => ?_)
  subst e2
  refine ⟨s.heap.objs.size, [s.heap.objs.size, a], [s.heap.objs.size], its.toArray.size, fun i v => its.toArray[i]? = some v, fun i h => h.IsListIter s.heap.objs.size a i ∧ h.IsList a its.toArray, fun i => bs.getD i false, rfl, Walks.list (A := X.A.in1) (I.ok.hd hc) s.heap.objs.size a hne its.toArray, st, fun i v s Q E hv q => htr i v s Q E (by have hv : its.toArray[i]? = some v := hv; rw [List.getElem?_toArray] at hv; exact hv) q, fun h' tk hk => ?_⟩
  have J : L2.Inv X pins σ H { heap := h', gens := s.gens, drawn := s.drawn, toks := tk, os := s.os } := Inv.kept I fun b o eo => hk b o (fun hm => by
    rw [List.mem_singleton.mp hm] at eo
    exact absurd (Heap.lt_size eo) (Nat.lt_irrefl _)) (Heap.get?_push_of_some _ eo)
  refine ⟨.bl (bs.all id), H, J, ?_, q⟩
  show Value.bool _ = Value.bool _
  rw [List.size_toArray, hlen, L2.all_range]
theorem cr_anyT {X : Cx} (hc : X.calm = true) : CallR X (.builtin "any") (rAnyT X.K) := by
  intro pins s σ H vs us Q I r h
  obtain ⟨a, xs, bs, rfl, hs, ht, q⟩ := h
  obtain ⟨its, rv, hl, _⟩ := Inv.list I hs
  obtain ⟨hlen, htr⟩ := truth_trs (prog := X.prog) (w := X.w) (A := X.A.in1) rv ht
  rw [Vals.ref1 r]
  refine call_any_walk (iter_any (PlainL.isList hl) fun s₂ e2 st hne => ?_)
  subst e2
  refine ⟨s.heap.objs.size, [s.heap.objs.size, a], [s.heap.objs.size], its.toArray.size, fun i v => its.toArray[i]? = some v, fun i h => h.IsListIter s.heap.objs.size a i ∧ h.IsList a its.toArray, fun i => bs.getD i false, rfl, Walks.list (A := X.A.in1) (I.ok.hd hc) s.heap.objs.size a hne its.toArray, st, fun i v s Q E hv q => htr i v s Q E (by have hv : its.toArray[i]? = some v := hv; rw [List.getElem?_toArray] at hv; exact hv) q, fun h' tk hk => ?_⟩
  have J : L2.Inv X pins σ H { heap := h', gens := s.gens, drawn := s.drawn, toks := tk, os := s.os } := Inv.kept I fun b o eo => hk b o (fun hm => by
    rw [List.mem_singleton.mp hm] at eo
    exact absurd (Heap.lt_size eo) (Nat.lt_irrefl _)) (Heap.get?_push_of_some _ eo)
  refine ⟨.bl (bs.any id), H, J, ?_, q⟩
  show Value.bool _ = Value.bool _
  rw [List.size_toArray, hlen, L2.any_range]
def trsOf : List D → Option (List Bool)
  | [] => some []
  | .bl b :: ds => (trsOf ds).map (b :: ·)
  | .int i :: ds => (trsOf ds).map ((i != 0) :: ·)
  | _ => none
theorem reps_trs {K : PySem.W.Frag} {mg : Gm} {I : Hp} : ∀ {vs : List V} {ds : List D} {bs : List Bool}, Reps K mg I vs ds → trsOf ds = some bs → TrVs vs = some bs
  | _, _, _, .nil, h => h
  | _, _, bs, .cons (d := d) (ds := ds) r rs, h => by
    cases r with
    | bl b =>
      have h : (trsOf ds).map (b :: ·) = some bs := h
      cases e : trsOf ds with
      | none =>
        rw [e] at h
        cases h
      | some cs =>
        rw [e] at h
        cases h
        simp only [TrVs, TrV, reps_trs rs e]
    | int i =>
      have h : (trsOf ds).map ((i != 0) :: ·) = some bs := h
      cases e : trsOf ds with
      | none =>
        rw [e] at h
        cases h
      | some cs =>
        rw [e] at h
        cases h
        simp only [TrVs, TrV, reps_trs rs e]
    | _ => cases h
def anyT : List D → R D
  | [.lst ds] => match trsOf ds with
    | some bs => .ok (.bl (bs.any id))
    | none => .stuck
  | _ => .stuck
def allT : List D → R D
  | [.lst ds] => match trsOf ds with
    | some bs => .ok (.bl (bs.all id))
    | none => .stuck
  | _ => .stuck
theorem cs_anyT {K : PySem.W.Frag} {mg : Gm} : CSn K mg (rAnyT K) anyT := by
  intro xs I H ds d Q ex rs h q
  unfold anyT at h
  split at h
  · rename_i es
    obtain ⟨v, rfl, r⟩ := reps1 rs
    cases e : trsOf es with
    | none =>
      rw [e] at h
      cases h
    | some bs =>
      rw [e] at h
      cases h
      cases r with
      | lst hh ra => exact ⟨_, _, bs, rfl, SqL.of (ex _ _ hh), reps_trs ra e, q _ _ _ (.refl ex) (.bl _)⟩
  · cases h
theorem cs_allT {K : PySem.W.Frag} {mg : Gm} : CSn K mg (rAllT K) allT := by
  intro xs I H ds d Q ex rs h q
  unfold allT at h
  split at h
  · rename_i es
    obtain ⟨v, rfl, r⟩ := reps1 rs
    cases e : trsOf es with
    | none =>
      rw [e] at h
      cases h
    | some bs =>
      rw [e] at h
      cases h
      cases r with
      | lst hh ra => exact ⟨_, _, bs, rfl, SqL.of (ex _ _ hh), reps_trs ra e, q _ _ _ (.refl ex) (.bl _)⟩
  · cases h
end DL
namespace DL
open PySem PySem.Spec PyProof.Rows L2

/-! ### methods -/
def tMethS (C : Addr) (m : Str) (sp : Sp) (E : XS) (ta : TE) (t : TA) : TE := fun σ H Q => ta σ H fun x H1 => ∃ a dx fs, x = .ref a ∧ H1 a = some (.ins C dx fs) ∧ fs.lookup m = none ∧ t σ H1 fun vs H2 => sp (x :: vs) H2 Q (E σ)
theorem pe_methS {X : Cx} {CX : CXT} {k : Nat} {f C : Addr} {fd : FuncData} {ps : List Str} {sp : Sp} {E : XS} {m : Str} {pos apos : Pos} {e o : Expr} {es : List Expr} {ta : TE} {t : TA} {pl : Sem Bool} (he : PE X o ta) (c : Cls X.K C) (hm : Meth X.K C m f) (F : FnOk X.prog X.w X.K X.mg X.base CX k f fd ps sp) (hr : Room k X.A) (hb : Binds X.K fd ps []) (hx : ∀ σ, PassesAt CX X σ (E σ)) (ha : PA X (e :: es) t)
    (hst : starEach (e :: es) X.env = (false, eval e X.env) :: starEach es X.env) (hpl : (backTo pos (starEach es X.env)).any (·.1) = false)
    (ht : eval (.Call (.Attribute o m apos) (e :: es) [] pos) X.env = (do
      let ov ← eval o X.env
      standAt apos.atName
      let (f, first) ← holding [ov] (getMethod ov m pl)
      callWith pos f first (backTo pos (starEach (e :: es) X.env)) (backToKw pos (keywordEach [] X.env)))) : PE X (.Call (.Attribute o m apos) (e :: es) [] pos) (tMethS C m sp E ta t) := by
  refine ⟨fun pins s σ H Q I h => PySem.W.methodCall_KW (thn (he.run pins s σ H _ I h) fun u s1 hh => ?_) ht⟩
  obtain ⟨x, H1, I1, rx, a, dx, fs, ex, ea, l, q⟩ := hh
  subst ex
  obtain rfl : u = Value.ref a := rx
  refine getmeth_ok I1 ea c hm l (PySem.W.callWith_K I.ok.mod.kin hm.kp (thn (ha.run pos pins s1 σ H1 _ I1 q) fun us s2 hh => ?_) hst hpl)
  obtain ⟨vs, H2, I2, r, q2⟩ := hh
  exact ⟨I2.kIn, run_fnS F hr hb (hx σ) I2 (Paired.cons (show RelV (.ref a) (.ref a) from rfl) r) q2⟩
def tMethS0 (C : Addr) (m : Str) (sp : Sp) (E : XS) (ta : TE) : TE := fun σ H Q => ta σ H fun x H1 => ∃ a dx fs, x = .ref a ∧ H1 a = some (.ins C dx fs) ∧ fs.lookup m = none ∧ sp [x] H1 Q (E σ)
theorem pe_methS0 {X : Cx} {CX : CXT} {k : Nat} {f C : Addr} {fd : FuncData} {ps : List Str} {sp : Sp} {E : XS} {m : Str} {pos apos : Pos} {o : Expr} {ta : TE} {pl : Sem Bool} (he : PE X o ta) (c : Cls X.K C) (hm : Meth X.K C m f) (F : FnOk X.prog X.w X.K X.mg X.base CX k f fd ps sp) (hr : Room k X.A) (hb : Binds X.K fd ps []) (hx : ∀ σ, PassesAt CX X σ (E σ))
    (ht : eval (.Call (.Attribute o m apos) [] [] pos) X.env = (do
      let ov ← eval o X.env
      standAt apos.atName
      let (f, first) ← holding [ov] (getMethod ov m pl)
      callWith pos f first (backTo pos (starEach [] X.env)) (backToKw pos (keywordEach [] X.env)))) : PE X (.Call (.Attribute o m apos) [] [] pos) (tMethS0 C m sp E ta) := by
  refine ⟨fun pins s σ H Q I h => PySem.W.methodCall_KW (thn (he.run pins s σ H _ I h) fun u s1 hh => ?_) ht⟩
  obtain ⟨x, H1, I1, rx, a, dx, fs, ex, ea, l, q⟩ := hh
  subst ex
  obtain rfl : u = Value.ref a := rx
  exact getmeth_ok I1 ea c hm l (PySem.W.callWith_K0 I1.kIn hm.kp (run_fnS F hr hb (hx σ) I1 (Paired.cons (show RelV (.ref a) (.ref a) from rfl) .nil) q))
/-- a method of a class of the text's own -/
structure MtAt (P : Program) (w : World) (K : PySem.W.Frag) (mg : Str → Option Value) (base : Heap) (n : Str) (C : Addr) (m : Str) (k na : Nat) (g : List D → R D) : Prop where
  ex : ∃ f fd ps, mg n = some (.ref C) ∧ Cls K C ∧ Meth K C m f ∧ FnOk P w K mg base (L2.CX P w) k f fd ps (spOf K (g0 mg) na g) ∧ Binds K fd ps []
def mthG (n m : Str) (na : Nat) (g : List D → R D) (o : D) (as : R (List D)) : R D := match o with
  | .obj n' ks _ => if n' = n ∧ m ∉ ks then as >>= fun es => if es.length + 1 = na then g (o :: es) else .stuck else .stuck
  | _ => .stuck
def mth (n m : Str) (na : Nat) (g : List D → R D) (a : R D) (as : R (List D)) : R D := a >>= fun o => mthG n m na g o as
theorem lookup_no {m : Str} : ∀ {fs : List (Str × V)}, m ∉ fs.map (·.1) → fs.lookup m = none
  | [], _ => rfl
  | (g, v) :: fs, h => by
    rw [List.lookup_cons, show (m == g) = false from by rw [beq_eq_false_iff_ne]; exact fun e => h (by simp [e])]
    exact lookup_no fun z => h (by simp at z ⊢; exact .inr z)
section
variable {X : Cx} {E : Wh} {P : Program} {w : World} {K : PySem.W.Frag} {mg : Str → Option Value} {base : Heap} {k j na : Nat} {g : List D → R D} {n m : Str} {C : Addr} {pos apos p : Pos} {e o : Expr} {es : List Expr} {ta : TE} {tas : TA} {ma : Env → R D} {ms : Env → R (List D)}
theorem me_meth {pl : Sem Bool} (F : MtAt P w K mg base n C m k na g) (hr : Room j X.A) (hx : ∀ σ, PassesAt (L2.CX X.prog X.w) X σ (E.e σ)) (ho : ME X E o ta ma) (ha : MA X E (e :: es) tas ms) (h0 : E.x = fun _ => none := by rfl) (hj : k ≤ j := by decide)
    (hP : X.prog = P := by rfl) (hw : X.w = w := by rfl) (hK : X.K = K := by rfl) (hmg : X.mg = mg := by rfl) (hb : X.base = base := by rfl)
    (hst : starEach (e :: es) X.env = (false, eval e X.env) :: starEach es X.env := by rfl) (hpl : (backTo pos (starEach es X.env)).any (·.1) = false := by rfl)
    (ht : eval (.Call (.Attribute o m apos) (e :: es) [] pos) X.env = (do
      let ov ← eval o X.env
      standAt apos.atName
      let (f, first) ← holding [ov] (getMethod ov m pl)
      callWith pos f first (backTo pos (starEach (e :: es) X.env)) (backToKw pos (keywordEach [] X.env))) := by rfl) :
    ME X E (.Call (.Attribute o m apos) (e :: es) [] pos) (tMethS C m (spOf K (g0 mg) na g) E.e ta tas) (fun ρ => mth n m na g (ma ρ) (ms ρ)) := by
  subst hP hw hK hmg hb
  obtain ⟨E1, E2⟩ := E
  have h0 : E2 = fun _ => none := h0
  subst h0
  obtain ⟨f, fd, ps, hC, c, hm, F1, hb⟩ := F.ex
  obtain ⟨pa, sa⟩ := ho
  obtain ⟨pt, st⟩ := ha
  refine ⟨pe_methS pa c hm F1 (hr.mono hj) hb hx pt hst hpl ht, fun σ I H ρ Q re ex h => ?_⟩
  refine sa.run re ex h fun d v I1 H1 _ s1 rx h => ?_
  cases rx with
  | @obj a C' dx n' fs ds ha hc ra =>
    have h : Out X.K (g0 X.mg) (E1 σ) (Rep X.K (g0 X.mg)) I1 H1 (if n' = n ∧ m ∉ fs.map (·.1) then ms ρ >>= fun es => if es.length + 1 = na then g (.obj n' (fs.map (·.1)) ds :: es) else .stuck else .stuck) Q := h
    obtain ⟨hc9, h8⟩ := out_if h
    obtain ⟨rfl, hn⟩ := hc9
    clear h
    have h := h8
    have e1 : C' = C := by
      have z := hc.symm.trans hC
      cases z
      rfl
    subst e1
    refine ⟨a, dx, fs, rfl, s1.e _ _ ha, lookup_no hn, st.run (re.mono s1.i) s1.e h fun ds2 vs I2 H2 _ s2 rs h => ?_⟩
    obtain ⟨hl, h⟩ := out_if h
    exact ⟨I2, _ :: ds2, by rw [List.length_cons]; exact hl, s2.e, .cons ((Rep.obj ha hc ra).mono s2.i) rs, h⟩
  | _ => exact h.elim
theorem me_meth0 {pl : Sem Bool} (F : MtAt P w K mg base n C m k na g) (hr : Room j X.A) (hx : ∀ σ, PassesAt (L2.CX X.prog X.w) X σ (E.e σ)) (ho : ME X E o ta ma) (h0 : E.x = fun _ => none := by rfl) (hj : k ≤ j := by decide)
    (hP : X.prog = P := by rfl) (hw : X.w = w := by rfl) (hK : X.K = K := by rfl) (hmg : X.mg = mg := by rfl) (hb : X.base = base := by rfl)
    (ht : eval (.Call (.Attribute o m apos) [] [] pos) X.env = (do
      let ov ← eval o X.env
      standAt apos.atName
      let (f, first) ← holding [ov] (getMethod ov m pl)
      callWith pos f first (backTo pos (starEach [] X.env)) (backToKw pos (keywordEach [] X.env))) := by rfl) :
    ME X E (.Call (.Attribute o m apos) [] [] pos) (tMethS0 C m (spOf K (g0 mg) na g) E.e ta) (fun ρ => mth n m na g (ma ρ) (.ok [])) := by
  subst hP hw hK hmg hb
  obtain ⟨E1, E2⟩ := E
  have h0 : E2 = fun _ => none := h0
  subst h0
  obtain ⟨f, fd, ps, hC, c, hm, F1, hb⟩ := F.ex
  obtain ⟨pa, sa⟩ := ho
  refine ⟨pe_methS0 pa c hm F1 (hr.mono hj) hb hx ht, fun σ I H ρ Q re ex h => ?_⟩
  refine sa.run re ex h fun d v I1 H1 _ s1 rx h => ?_
  cases rx with
  | @obj a C' dx n' fs ds ha hc ra =>
    have h : Out X.K (g0 X.mg) (E1 σ) (Rep X.K (g0 X.mg)) I1 H1 (if n' = n ∧ m ∉ fs.map (·.1) then (if ([] : List D).length + 1 = na then g [.obj n' (fs.map (·.1)) ds] else .stuck) else .stuck) Q := h
    obtain ⟨hc9, h8⟩ := out_if h
    obtain ⟨rfl, hn⟩ := hc9
    clear h
    have h := h8
    have e1 : C' = C := by
      have z := hc.symm.trans hC
      cases z
      rfl
    subst e1
    obtain ⟨hl, h⟩ := out_if h
    exact ⟨a, dx, fs, rfl, s1.e _ _ ha, lookup_no hn, I1, [_], hl, s1.e, .cons (Rep.obj ha hc ra) .nil, h⟩
  | _ => exact h.elim
/-! ### properties -/
structure PrAt (P : Program) (w : World) (K : PySem.W.Frag) (mg : Str → Option Value) (base : Heap) (n : Str) (C : Addr) (m : Str) (k : Nat) (g : List D → R D) : Prop where
  ex : ∃ p f fd ps, mg n = some (.ref C) ∧ Cls K C ∧ PropOf K C m p f ∧ FnOk P w K mg base (L2.CX P w) k f fd ps (spOf K (g0 mg) 1 g) ∧ Binds K fd ps []
def prpG (n : Str) (g : List D → R D) (o : D) : R D := match o with
  | .obj n' _ _ => if n' = n then calm (g [o]) else .stuck
  | _ => .stuck
def prp (n : Str) (g : List D → R D) (a : R D) : R D := a >>= prpG n g
theorem me_prop (F : PrAt P w K mg base n C m k g) (hr : Room j X.A) (ho : ME X E o ta ma) (h0 : E.x = fun _ => none := by rfl) (hj : k + 1 ≤ j := by decide)
    (hP : X.prog = P := by rfl) (hw : X.w = w := by rfl) (hK : X.K = K := by rfl) (hmg : X.mg = mg := by rfl) (hb : X.base = base := by rfl) (hab : attributeBase o m X.env (eval o X.env) = eval o X.env := by rfl) :
    ME X E (.Attribute o m pos) (tProp C (spOf K (g0 mg) 1 g) [] E0 ta) (fun ρ => prp n g (ma ρ)) := by
  subst hP hw hK hmg hb
  obtain ⟨E1, E2⟩ := E
  have h0 : E2 = fun _ => none := h0
  subst h0
  obtain ⟨q, f, fd, ps, hC, c, hp, F1, hb⟩ := F.ex
  obtain ⟨pa, sa⟩ := ho
  refine ⟨pe_prop pa c hp F1 (hr.mono hj) hb .nil passL hab, fun σ I H ρ Q re ex h => ?_⟩
  refine sa.run re ex h fun d v I1 H1 _ s1 rx h => ?_
  cases rx with
  | @obj a C' dx n' fs ds ha hc ra =>
    have h : Out X.K (g0 X.mg) (E1 σ) (Rep X.K (g0 X.mg)) I1 H1 (if n' = n then calm (g [.obj n' (fs.map (·.1)) ds]) else .stuck) Q := h
    obtain ⟨hc9, h8⟩ := out_if h
    subst hc9
    clear h
    have h := h8
    have e1 : C' = C := by
      have z := hc.symm.trans hC
      cases z
      rfl
    subst e1
    obtain ⟨z, hz, h9⟩ := out_calm h
    refine ⟨a, dx, fs, rfl, s1.e _ _ ha, I1, [_], rfl, s1.e, .cons (Rep.obj ha hc ra) .nil, ?_⟩
    rw [hz]
    exact h9
  | _ => exact h.elim
end
/-! ### class methods -/
structure CmAt (P : Program) (w : World) (K : PySem.W.Frag) (mg : Str → Option Value) (base : Heap) (n : Str) (C : Addr) (m : Str) (k na : Nat) (g : List D → R D) : Prop where
  ex : ∃ mc p f fd ps, mg n = some (.ref C) ∧ ClX.CRead K C mc ∧ ClX.CMet K C mc m p f ∧ FnOk P w K mg base (L2.CX P w) k f fd ps (spOf K (g0 mg) na g) ∧ Binds K fd ps []
theorem FnOk.fnR {P : Program} {w : World} {K : PySem.W.Frag} {mg : Str → Option Value} {base : Heap} {CX : CXT} {k : Nat} {f : Addr} {fd : FuncData} {ps : List Str} {sp : Sp} (F : FnOk P w K mg base CX k f fd ps sp) (hb : Binds K fd ps []) : FnR P w K mg base CX k f sp := fun A outer s H us vs Q E hr he hv h => F.run A outer s H ⟨us, []⟩ us vs Q E hr he (by
  have hl : us.length = ps.length := (Vals.length hv).symm.trans (F.len vs H Q E h)
  have b := hb s us (he.mod.kin.keeps fun b o e => (he.bs b o e).1) (by rw [List.append_nil]; exact hl)
  rw [List.append_nil] at b
  exact b) hv h
def cmM (n : Str) (na : Nat) (g : List D → R D) (a : R D) (as : R (List D)) : R D := a >>= fun o => match o with
  | .cls n' => if n' = n then as >>= fun es => if es.length + 1 = na then g (o :: es) else .stuck else .stuck
  | _ => .stuck
section
variable {X : Cx} {E : XK} {P : Program} {w : World} {K : PySem.W.Frag} {mg : Str → Option Value} {base : Heap} {k j na : Nat} {g : List D → R D} {n m : Str} {C : Addr} {pos apos p : Pos} {e o : Expr} {es : List Expr} {ta : TE} {tas : TA} {ma : Env → R D} {ms : Env → R (List D)}
theorem me_cmeth {pl : Sem Bool} (F : CmAt P w K mg base n C m k na g) (hr : Room j X.A) (tk : Takes X (fun cls d _ H => E cls d H)) (ho : ME X (kE E) o ta ma) (ha : MA X (kE E) (e :: es) tas ms) (hj : k ≤ j := by decide)
    (hP : X.prog = P := by rfl) (hw : X.w = w := by rfl) (hK : X.K = K := by rfl) (hmg : X.mg = mg := by rfl) (hb : X.base = base := by rfl)
    (hst : starEach (e :: es) X.env = (false, eval e X.env) :: starEach es X.env := by rfl) (hpl : (backTo pos (starEach es X.env)).any (·.1) = false := by rfl)
    (ht : eval (.Call (.Attribute o m apos) (e :: es) [] pos) X.env = (do
      let ov ← eval o X.env
      standAt apos.atName
      let (f, first) ← holding [ov] (getMethod ov m pl)
      callWith pos f first (backTo pos (starEach (e :: es) X.env)) (backToKw pos (keywordEach [] X.env))) := by rfl) :
    ME X (kE E) (.Call (.Attribute o m apos) (e :: es) [] pos) (ClX.tCMeth C (spOf K (g0 mg) na g) E ta tas) (fun ρ => cmM n na g (ma ρ) (ms ρ)) := by
  subst hP hw hK hmg hb
  obtain ⟨mc, q, f, fd, ps, hC, r, c, F1, hb⟩ := F.ex
  obtain ⟨pa, sa⟩ := ho
  obtain ⟨pt, st⟩ := ha
  refine ⟨ClX.pe_cmeth pa r c (FnOk.fnR F1 hb) (hr.mono hj) (passes_call (W := fun cls d _ H => E cls d H) tk fun _ _ _ _ h => h) pt hst hpl ht, fun σ I H ρ Q re ex h => ?_⟩
  refine sa.run re ex h fun d v I1 H1 _ s1 rx h => ?_
  cases rx with
  | @cls n' C' hc =>
    have h : Out X.K (g0 X.mg) E (Rep X.K (g0 X.mg)) I1 H1 (if n' = n then ms ρ >>= fun es => if es.length + 1 = na then g (.cls n' :: es) else .stuck else .stuck) Q := h
    obtain ⟨hc9, h8⟩ := out_if h
    subst hc9
    clear h
    have h := h8
    have e1 : C' = C := by
      have z := hc.symm.trans hC
      cases z
      rfl
    subst e1
    refine ⟨rfl, st.run (re.mono s1.i) s1.e h fun ds2 vs I2 H2 _ s2 rs h => ?_⟩
    obtain ⟨hl, h⟩ := out_if h
    exact ⟨I2, _ :: ds2, by rw [List.length_cons]; exact hl, s2.e, .cons (.cls hc) rs, h⟩
  | _ => exact h.elim
end
/-! ### cls(..) -/
def tMakeV (i : Nat) (C : Addr) (sp : Sp) (E : XS) (t : TA) : TE := fun σ H Q => σ[i]? = some (some (.ref C)) ∧ tMakeS C sp E t σ H Q
theorem pe_makeV {X : Cx} {CX : CXT} {k i : Nat} {f C : Addr} {fd : FuncData} {ps : List Str} {sp : Sp} {E : XS} {x : Str} {p pos : Pos} {e : Expr} {es : List Expr} {t : TA} (M : Mk X.K C f) (F : FnOk X.prog X.w X.K X.mg X.base CX k f fd ps sp) (hr : Room (k + 1) X.A) (hb : Binds X.K fd ps []) (hx : ∀ σ, PassesAt CX X σ (E σ)) (hN : X.N[i]? = some x) (hv : Vis X.env.scope x) (ha : PA X (e :: es) t)
    (hd : (x == ("__debug__" : Str)) = false) (hcd : (x == ("__classdict__" : Str)) = false) (he : starEach (e :: es) X.env = (false, eval e X.env) :: starEach es X.env) (hpl : (backTo pos (starEach es X.env)).any (·.1) = false) : PE X (.Call (.Name x p) (e :: es) [] pos) (tMakeV i C sp E t) :=
  ⟨fun pins s σ H Q I ⟨hs, h⟩ => by
    refine wpAny_Call_Name_kw (thn ((pe_var hN hv hd hcd).run pins s σ H (fun v H1 => v = .ref C ∧ H1 = H) I ⟨_, hs, rfl, rfl⟩) fun u s1 hh => ?_)
    obtain ⟨v, H1, I1, r1, ev, eH⟩ := hh
    subst ev eH
    obtain rfl : u = Value.ref C := r1
    refine PySem.W.callWith_K (h₀ := X.base) I.ok.mod.kin M.kp (thn (ha.run pos pins s1 σ _ _ I1 h) fun us s2 hh => ?_) he hpl
    obtain ⟨vs, H2, I2, r, q⟩ := hh
    exact ⟨I2.kIn, run_makeS M F hr hb (hx σ) I2 r q⟩⟩
def mkV (i : Nat) (n : Str) (na : Nat) (g : List D → R D) (ρ : Env) (as : R (List D)) : R D := match ρ[i]? with
  | some (some (.cls n')) => if n' = n then call_ na g as else .stuck
  | _ => .stuck
theorem me_makeV {X : Cx} {E : Wh} {P : Program} {w : World} {K : PySem.W.Frag} {mg : Str → Option Value} {base : Heap} {C : Addr} {k j n i : Nat} {g : List D → R D} {nm x : Str} {p pos : Pos} {e : Expr} {es : List Expr} {tas : TA} {ms : Env → R (List D)} (F : CkAt P w K mg base nm C k n g) (hr : Room j X.A) (hx : ∀ σ, PassesAt (L2.CX X.prog X.w) X σ (E.e σ)) (ha : MA X E (e :: es) tas ms) (h0 : E.x = fun _ => none := by rfl) (hj : k + 1 ≤ j := by decide)
    (hN : X.N[i]? = some x := by rfl) (hv : Vis X.env.scope x := by first | exact Or.inl rfl | exact Or.inr (Or.inl rfl)) (hP : X.prog = P := by rfl) (hw : X.w = w := by rfl) (hK : X.K = K := by rfl) (hm : X.mg = mg := by rfl) (hb : X.base = base := by rfl)
    (hdb : (x == ("__debug__" : Str)) = false := by decide) (hcd : (x == ("__classdict__" : Str)) = false := by decide) (he : starEach (e :: es) X.env = (false, eval e X.env) :: starEach es X.env := by rfl) (hpl : (backTo pos (starEach es X.env)).any (·.1) = false := by rfl) :
    ME X E (.Call (.Name x p) (e :: es) [] pos) (tMakeV i C (spMk K mg nm n g) E.e tas) (fun ρ => mkV i nm n g ρ (ms ρ)) := by
  subst hP hw hK hm hb
  obtain ⟨E1, E2⟩ := E
  have h0 : E2 = fun _ => none := h0
  subst h0
  obtain ⟨fI, fd, ps, M, F1, hb⟩ := F.ex
  obtain ⟨pt, st⟩ := ha
  refine ⟨pe_makeV M F1 (hr.mono hj) hb hx hN hv pt hdb hcd he hpl, fun σ I H ρ Q re ex h => ?_⟩
  cases q : (ρ : List (Option D))[i]? with
  | none =>
    simp only [mkV, q] at h
    exact h.elim
  | some o =>
    cases o with
    | none =>
      simp only [mkV, q] at h
      exact h.elim
    | some d =>
      obtain ⟨v, hv1, rv⟩ := re.at_ i d q
      cases rv with
      | @cls n' C' hc =>
        simp only [mkV, q] at h
        obtain ⟨hc9, h8⟩ := out_if h
        subst hc9
        clear h
        have h := h8
        have e1 : C' = C := by
          have z := hc.symm.trans F.m
          cases z
          rfl
        subst e1
        refine ⟨hv1, st.run re ex h fun ds vs I1 H1 _ s1 rs h => ?_⟩
        obtain ⟨hl, h⟩ := out_if h
        intro x0 dx n1 n2 hd
        refine ⟨I1, H1, x0, dx, C', vs, ds, rfl, hl, F.m, n1, n2, hd, rfl, s1.e, rs, ?_⟩
        cases e1 : g ds with
        | ok d =>
          rw [e1] at h
          intro v I' H' t ⟨hv, r⟩
          exact ⟨hv, h _ I' H' t r⟩
        | err em es =>
          rw [e1] at h
          exact h
        | stuck =>
          rw [e1] at h
          exact h.elim
      | _ =>
        simp only [mkV, q] at h
        exact h.elim
/-! ### isinstance with classes of the text's own -/
structure OcOk (K : PySem.W.Frag) (C : Addr) : Prop where
  c : Cls K C
  a : PySem.W.findIn K (.ref C) "__class__" = some (some (.builtin "object.__class__"))
  s : PySem.W.specialIn K (.builtin "object.__class__") "__get__" = some (some (.builtin "getset_descriptor.__get__"))
  t : PySem.W.takesIn K (.builtin "object.__class__") = some true
  m : PySem.W.mroIn K C (.type "object") = some true
/-- which class is below which; what of an object of one's own and a built-in class; what of a built-in thing and a class of one's own -/
structure OSub (K : PySem.W.Frag) (mg : Str → Option Value) (T : Str → Str → Option Bool) (B : Str → String → Option Bool) (Z : String → Str → Option Bool) : Prop where
  cl : ∀ n C, (∃ c b, T n c = some b) ∨ (∃ c b, B n c = some b) → mg n = some (.ref C) → OcOk K C
  own : ∀ n c b C u, T n c = some b → mg n = some (.ref C) → mg c = some u → PySem.W.kitOne K (.ref C) u = some b
  bt : ∀ n c b C, B n c = some b → mg n = some (.ref C) → PySem.W.kitOne K (.ref C) (.type c) = some b
  bo : ∀ t c b u, Z t c = some b → mg c = some u → PySem.W.kitOne K (.type t) u = some b
def isoD (T : Str → Str → Option Bool) (B : Str → String → Option Bool) (Z : String → Str → Option Bool) : List D → R D
  | [.obj n ks ds, .cls c] => match T n c with | some b => .ok (.bl b) | none => .stuck
  | [.obj n ks ds, .ty c] => match B n c with | some b => .ok (.bl b) | none => .stuck
  | [x, .cls c] => match tyOf x with
    | some t => match Z t c with
      | some b => .ok (.bl b)
      | none => .stuck
    | none => .stuck
  | ds => isiD ds
theorem cs_iso {K : PySem.W.Frag} {gm : Gm} {T : Str → Str → Option Bool} {B : Str → String → Option Bool} {Z : String → Str → Option Bool} (S : OSub K gm.mg T B Z) : CSn K gm (rIsi K) (isoD T B Z) := by
  intro xs I H ds d Q ex rs h q
  unfold isoD at h
  split at h
  · rename_i n ks es c
    obtain ⟨v, w, rfl, r, r2⟩ := reps2 rs
    cases r with
    | @obj a C dx n fs es ha hc ra =>
      cases r2 with
      | @cls c C2 hc2 =>
        cases e : T n c with
        | none =>
          rw [e] at h
          cases h
        | some b =>
          rw [e] at h
          cases h
          have k := S.cl n C (.inl ⟨c, b, e⟩) hc
          exact ⟨_, _, _, _, b, rfl, .own C2, .base (.ins (ex _ _ ha) k.c k.a k.s k.t k.m), S.own n c b C _ e hc hc2, q _ _ _ (.refl ex) (.bl _)⟩
  · rename_i n ks es c
    obtain ⟨v, w, rfl, r, r2⟩ := reps2 rs
    cases r with
    | @obj a C dx n fs es ha hc ra =>
      cases r2 with
      | ty c =>
        cases e : B n c with
        | none =>
          rw [e] at h
          cases h
        | some b =>
          rw [e] at h
          cases h
          have k := S.cl n C (.inr ⟨c, b, e⟩) hc
          exact ⟨_, _, _, _, b, rfl, .ty c, .base (.ins (ex _ _ ha) k.c k.a k.s k.t k.m), S.bt n c b C e hc, q _ _ _ (.refl ex) (.bl _)⟩
  · rename_i x c _
    obtain ⟨v, w, rfl, r, r2⟩ := reps2 rs
    cases r2 with
    | @cls c C2 hc2 =>
      cases e : tyOf x with
      | none =>
        rw [e] at h
        cases h
      | some t =>
        rw [e] at h
        have h : (match Z t c with | some b => R.ok (D.bl b) | none => .stuck) = R.ok d := h
        cases e2 : Z t c with
        | none =>
          rw [e2] at h
          cases h
        | some b =>
          rw [e2] at h
          cases h
          exact ⟨_, _, _, _, b, rfl, .own C2, (r.mono ex).tyx e, S.bo t c b _ e2 hc2, q _ _ _ (.refl ex) (.bl _)⟩
  · exact cs_isi xs I H ds d Q ex rs h q
end DL
namespace DL
open PySem PySem.Spec PyProof.Rows L2

/-! ### {k: v for ..} with tuples as keys -/
def tDcT (wi : TI) (g : TG) (tt : TT) (tk tv : TE) (vs : List Nat) : TE := fun σ H Q => wi σ H fun J H1 => ∀ D, H1 D = none →
  ∃ W : Nat → Nat → Hp → Prop, (∃ m, W 0 m (upd H1 D (.dT []))) ∧ ∀ i m H, W i m H → (J.stop i H ∧ Q (.ref D) H) ∨ (J.go i H ∧ ∃ Nx : Hp → Prop, (∀ H', Nx H' → ∃ m', m' < m ∧ W (i + 1) m' H') ∧
    ∀ x H', J.yld i H x H' → g x (wipe σ vs) H' fun σ2 H2 => wipe σ2 vs = wipe σ vs ∧ tt σ2 H2 fun b H3 => if b = true then tk σ2 H3 fun y H4 => tv σ2 H4 fun z H5 => ∃ (kvs : List (List Key × V)) (k : List Key) (q : Addr), y = .ref q ∧ H5 q = some (.tup (k.map kV)) ∧ H5 D = some (.dT kvs) ∧ kvs.length < sizeLine ∧ Nx (upd H5 D (.dT (putK kvs k z))) else Nx H3)
theorem dt_dictSet {X : Cx} {pins : List (Addr × Obj)} {σ : L2.St} {H : Hp} {s : Shared} {E : Value → Shared → Prop} {D b : Addr} {kvs : List (List Key × V)} {k : List Key} {v : V} {r : Value} {Q : Unit → Shared → Prop} (hu : X.A.units + 1 < cLine) (I : L2.Inv X pins σ H s) (e : H D = some (.dT kvs)) (eb : H b = some (.tup (k.map kV))) (hz : kvs.length < sizeLine) (rv : RelV v r) (h : ∀ s', L2.Inv X pins σ (upd H D (.dT (putK kvs k v))) s' → Q () s') :
    wpAny (model X.prog X.w) X.A (dictSet D (.ref b) r) Q E s := by
  obtain ⟨z, hd, xs, rel, dd⟩ := dt_of I.hok e
  have hz2 : xs.length ≤ sizeLine := by
    rw [← Paired.length rel]
    exact z
  have hl : (putK kvs k v).length ≤ sizeLine := by
    have := length_putK kvs k v
    omega
  refine wpAny_dictSet_heap ?_ (key_of I.hok eb) dd (fun h' dd' hs => ?_) hz2
  · exact Nat.lt_of_succ_lt hu
  · refine h { heap := h', gens := s.gens, drawn := s.drawn, toks := _, os := s.os } ?_
    obtain ⟨q, es, ep, hq, h2, h3, h4, h5⟩ := dd'
    refine d_write I (by rw [e]; trivial) hs ⟨q, hq⟩ ⟨hl, hd, storedH xs k b r, ?_, q, es, ep, hq, h2, h3, h4, h5.2⟩
    refine KT.keeps (KT.put rel k eb rv) fun c ys ec => ?_
    rw [upd_ne (ne_of ec e fun z => nomatch z)]
    exact ec
theorem pe_dcT {X : Cx} {kx vx tg iter : Expr} {ifs : List Expr} {scope : Scope} {own : List (Str × Nat)} {pos : Pos} {wi : TI} {g : TG} {tt : TT} {tk tv : TE} (hu : X.A.units + 1 < cLine) (hc : X.calm = true) (hN : X.N.Nodup) (hi : PI X tg iter wi) (ok : BlkOk X.N X.env.scope scope own)
    (hg : ∀ (s : Shared) (H : Hp) (C : Addr) (cl : List (Str × Addr)) (fp : List Addr), PG (X.blk s H scope (compEnvC scope cl C X.env) fp) tg g) (ht : ∀ (s : Shared) (H : Hp) (C : Addr) (cl : List (Str × Addr)) (fp : List Addr), PTs (X.blk s H scope (compEnvC scope cl C X.env) fp) ifs tt)
    (hk : ∀ (s : Shared) (H : Hp) (C : Addr) (cl : List (Str × Addr)) (fp : List Addr), PE (X.blk s H scope (compEnvC scope cl C X.env) fp) kx tk) (he : ∀ (s : Shared) (H : Hp) (C : Addr) (cl : List (Str × Addr)) (fp : List Addr), PE (X.blk s H scope (compEnvC scope cl C X.env) fp) vx tv) (hs : ∀ x, foldedSetIterable iter X.env x = pure x := by intro _; rfl) :
    PE X (.DictComp kx vx [⟨tg, iter, ifs, 0⟩] scope pos) (tDcT wi g tt tk tv (own.map (·.2))) := by
  refine ⟨fun pins s σ H Q I h => ?_⟩
  rw [arm_eval_DictComp]
  have hfree : ∀ (y : Str × NameKind), y ∈ scope.names → y.snd = NameKind.free → ∃ c, List.lookup y.fst X.env.cells = some c := fun y hy e => by
    rcases ok.free y hy e with k | k
    · exact I.ok.has y.fst (.inl k)
    · exact I.ok.has y.fst (.inr k)
  refine wpAny_comprehension_free rfl hs (closure_ok hfree) ok.kind (fun y hy e => by rw [ok.uniq y hy, e]) (thn (hi.run pins s σ H _ I h) fun xv s1 hx => thn hx fun itv s2 h2 => ?_)
  obtain ⟨it, fp, tn, J, H2, rfl, I2, T, st2, f2, q⟩ := h2
  refine wpAny_newObj_type (newEnv_comp ?_)
  have hDn : H2 s2.heap.objs.size = none := HOk.fresh I2.hok (Nat.le_refl _)
  obtain ⟨W, ⟨m0, w0⟩, turn⟩ := q s2.heap.objs.size hDn
  have I3 : L2.Inv X pins σ (upd H2 s2.heap.objs.size (.dT [])) { heap := s2.heap.push { cls := .type "dict", data := .dict #[] }, gens := s2.gens, drawn := s2.drawn, toks := s2.toks, os := s2.os } := Inv.laid I2 (fun b o e => Heap.get?_push_of_some _ e) (Nat.le_refl _) (dt_empty s2.heap (Inv.big I2))
  generalize hS : ({ heap := s2.heap.push { cls := .type "dict", data := .dict #[] }, gens := s2.gens, drawn := s2.drawn, toks := s2.toks, os := s2.os } : Shared) = S3 at I3 ⊢
  have h3 : S3.heap = s2.heap.push { cls := .type "dict", data := .dict #[] } := by rw [← hS]
  have f3 : ∀ b ∈ fp, FpOk X pins (upd H2 s2.heap.objs.size (.dT [])) b ∧ b < S3.heap.objs.size := fun b hb => by
    obtain ⟨o, e, _⟩ := T.obj 0 s2.heap st2 b hb
    have hlt := Heap.lt_size e
    refine ⟨⟨?_, (f2 b hb).2⟩, ?_⟩
    · rw [upd_ne (Nat.ne_of_lt hlt)]
      exact (f2 b hb).1
    · rw [h3, Heap.size_push]
      exact Nat.lt_succ_of_lt hlt
  have st3 := T.keep 0 s2.heap S3.heap st2 fun b x o e => by
    rw [h3]
    exact Heap.get?_push_of_some _ e
  have I4 := block_start I3 ok hN f3
  have pg := hg S3 (upd H2 s2.heap.objs.size (.dT [])) S3.heap.objs.size (cellsFrom (S3.heap.objs.size + 1) scope.names (cloFrom X.env.cells scope.names [])) fp
  have pt := ht S3 (upd H2 s2.heap.objs.size (.dT [])) S3.heap.objs.size (cellsFrom (S3.heap.objs.size + 1) scope.names (cloFrom X.env.cells scope.names [])) fp
  have pk := hk S3 (upd H2 s2.heap.objs.size (.dT [])) S3.heap.objs.size (cellsFrom (S3.heap.objs.size + 1) scope.names (cloFrom X.env.cells scope.names [])) fp
  have pe := he S3 (upd H2 s2.heap.objs.size (.dT [])) S3.heap.objs.size (cellsFrom (S3.heap.objs.size + 1) scope.names (cloFrom X.env.cells scope.names [])) fp
  show codeAny (model X.prog X.w) X.A (.compStart (.DictComp kx vx [⟨tg, iter, ifs, 0⟩] scope pos) 0 (.ref it) (.ref s2.heap.objs.size) (compEnvC scope (cellsFrom (S3.heap.objs.size + 1) scope.names (cloFrom X.env.cells scope.names [])) S3.heap.objs.size X.env)) _ _
  have cL : (compEnvC scope (cellsFrom (S3.heap.objs.size + 1) scope.names (cloFrom X.env.cells scope.names [])) S3.heap.objs.size X.env).locals = S3.heap.objs.size := rfl
  generalize hCE : compEnvC scope (cellsFrom (S3.heap.objs.size + 1) scope.names (cloFrom X.env.cells scope.names [])) S3.heap.objs.size X.env = CE at I4 pg pt pk pe cL ⊢
  have nfp : ∀ b ∈ fp, (upd H2 s2.heap.objs.size (.dT [])) b = none := fun b hb => (f3 b hb).1.1
  have st4 := T.keep 0 S3.heap (pushCells (S3.heap.push { cls := .type "dict", data := .dict #[] }) scope.names) st3 fun b x o e => pushCells_keeps scope.names _ b o (Heap.get?_push_of_some _ e)
  have stat : ∀ {σ' : L2.St} {H' : Hp} {s' : Shared}, L2.Inv (X.blk S3 (upd H2 s2.heap.objs.size (.dT [])) scope CE fp) [] σ' H' s' → (∀ b ∈ fp, H' b = none) → ∀ b ∈ fp, FpOk (X.blk S3 (upd H2 s2.heap.objs.size (.dT [])) scope CE fp) [] H' b := fun I' hn b hb => ⟨hn b hb, (I'.ok.exf b hb).1, I'.ok.exfs b hb, .inl hb, fun x c e => (I'.ok.exf b hb).2 x c e, fun p hp => absurd hp (by simp)⟩
  have loop := compLoop_anyD (R := compPost (model X.prog X.w) X.A X.xe none (EP X pins σ Q) (.ref s2.heap.objs.size) S3.heap.objs.size) (kx := kx) (vx := vx) (target := tg) (iter := iter) (ifs := ifs) (scope := scope) (pos := pos) (it := .ref it) (D := s2.heap.objs.size) (env := CE)
    (fun n s' => ∃ i H', L2.Inv (X.blk S3 (upd H2 s2.heap.objs.size (.dT [])) scope CE fp) [] (wipe σ (own.map (·.2))) H' s' ∧ tn i s'.heap ∧ (∀ b ∈ fp, H' b = none) ∧ W i n H')
    (fun n s5 ⟨i, H5, I5, st5, n5, w5⟩ => by
      rcases turn i n H5 w5 with ⟨stop, qq⟩ | ⟨go, Nx, hNx, step⟩
      · have td := T.done (X.blk S3 (upd H2 s2.heap.objs.size (.dT [])) scope CE fp) rfl rfl rfl hc i [] s5 _ H5 (fun _ _ => False) I5 (stat I5 n5) st5 stop
        refine thnF td fun r s6 hh => ?_
        obtain ⟨rfl, I6⟩ := hh
        have I7 := Inv.call' I3 I6.os I6.base I6.hok I6.bare fun b hb => ⟨(f3 b hb).1.2.2.2.1, (f3 b hb).1.2.1, (f3 b hb).1.2.2.2.2.1, (f3 b hb).1.2.2.2.2.2⟩
        have nC : H5 S3.heap.objs.size = none := by
          have z := I6.free
          rw [← cL]
          exact z
        obtain ⟨m, hn, _⟩ := I6.loc
        have hn : s6.heap.Ns CE.locals m := hn
        rw [cL] at hn
        obtain ⟨g0, g1, g2, g3, g4, g5⟩ := Inv.fpOk I3 (Nat.le_refl _) nC
        exact ⟨m, hn, fun h'' sb => ⟨.ref s2.heap.objs.size, H5, Inv.turned I7 (fun b o hb e => (sb.right b hb).trans e) g0 g1 g3 g4 g5, rfl, qq⟩⟩
      · have ti := T.item (X.blk S3 (upd H2 s2.heap.objs.size (.dT [])) scope CE fp) rfl rfl rfl hc i [] s5 _ H5 (fun _ _ => False) I5 (stat I5 n5) st5 go
        refine thnF ti fun r s6 hh => ?_
        obtain ⟨u, rfl, h6⟩ := hh
        refine thnF h6 fun _ s7 hh => ?_
        obtain ⟨x, H7, I7, r7, y7, st7, n7⟩ := hh
        have I7' := Inv.pinned I7 (stat I7 n7) (T.obj (i + 1) s7.heap st7)
        refine thnF (pg.run ([] ++ pinsAt fp s7.heap) s7 _ H7 x u _ I7' r7 (step x H7 y7)) fun _ s8 hh => ?_
        obtain ⟨σ8, H8, I8, hw8, q8⟩ := hh
        refine thnF (pt.run ([] ++ pinsAt fp s7.heap) s8 σ8 H8 _ I8 q8) fun b s9 hh => ?_
        obtain ⟨H9, I9, q9⟩ := hh
        have fin : ∀ {s' : Shared} {H' : Hp}, L2.Inv (X.blk S3 (upd H2 s2.heap.objs.size (.dT [])) scope CE fp) ([] ++ pinsAt fp s7.heap) σ8 H' s' → Nx H' → ∃ m, m < n ∧ ∃ i H', L2.Inv (X.blk S3 (upd H2 s2.heap.objs.size (.dT [])) scope CE fp) [] (wipe σ (own.map (·.2))) H' s' ∧ tn i s'.heap ∧ (∀ b ∈ fp, H' b = none) ∧ W i m H' := by
          intro s' H' I' nx
          obtain ⟨m', hm, w'⟩ := hNx _ nx
          have pin' : ∀ b ∈ fp, ∀ o, s7.heap.get? b = some o → s'.heap.get? b = some o ∧ H' b = none := fun b hb o e => by
            have z := I'.pin (b, o) (List.mem_append_right _ (List.mem_append_right [] (mem_pinsAt hb e)))
            exact ⟨z.1, z.2.1⟩
          have hl : (wipe σ (own.map (·.2))).length = σ8.length := by rw [← hw8, wipe_length]
          refine ⟨m', hm, i + 1, H', Inv.weak (Inv.unpinned I') hl (fun j v e => (wipe_some (by rw [← hw8] at e; exact e)).1), T.keep (i + 1) s7.heap s'.heap st7 (fun b hb o e => (pin' b hb o e).1), fun b hb => ?_, w'⟩
          obtain ⟨o, e, _⟩ := T.obj (i + 1) s7.heap st7 b hb
          exact (pin' b hb o e).2
        cases b with
        | false => exact fin I9 q9
        | true =>
          refine thnF (pk.run ([] ++ pinsAt fp s7.heap) s9 σ8 H9 _ I9 q9) fun z s10 hh => ?_
          obtain ⟨yk, H10, I10, r10, q10⟩ := hh
          refine thnF (pe.run ([] ++ pinsAt fp s7.heap) s10 σ8 H10 _ I10 q10) fun z2 s11 hh => ?_
          obtain ⟨yv, H11, I11, r11, kvs, k, q, ek, eq, hD, hz, nx⟩ := hh
          subst ek
          obtain rfl : z = Value.ref q := r10
          exact dt_dictSet (X := X.blk S3 (upd H2 s2.heap.objs.size (.dT [])) scope CE fp) hu I11 hD eq hz r11 fun s12 I12 => fin I12 nx) m0 ⟨0, _, I4, st4, nfp, w0⟩
  exact codeAny_compStart_dict loop (T.self X.A 0 _ _ _ st4 loop)
end DL
namespace DL
open PySem PySem.Spec PyProof.Rows L2

/-! ### walks over a dict's keys: the dict is locked meanwhile -/
def keyDD : Key → D
  | .inl i => .int i
  | .inr x => .str x
def keysI : D → R (List D)
  | .dk ks _ => .ok (ks.map keyDD)
  | .dt ks _ => .ok (ks.map fun k => .tup (k.map keyDD))
  | _ => .stuck
theorem rep_key {K : PySem.W.Frag} {mg : Gm} {I : Hp} (k : Key) : Rep K mg I (kV k) (keyDD k) := by
  cases k with
  | inl i => exact .int i
  | inr x => exact .str x
theorem reps_keys {K : PySem.W.Frag} {mg : Gm} {I : Hp} : ∀ k : List Key, Reps K mg I (k.map kV) (k.map keyDD)
  | [] => .nil
  | a :: k => .cons (rep_key a) (reps_keys k)
/-- a tuple that stands may be told -/
theorem Stp.tup {I H : Hp} {q : Addr} {vs : List V} (e : Same I H) (h : H q = some (.tup vs)) : ∃ I', Stp I H I' H ∧ I' q = some (.tup vs) := by
  cases z : I q with
  | some o =>
    have y := e _ _ z
    rw [h] at y
    cases y
    exact ⟨I, .refl e, z⟩
  | none =>
    refine ⟨upd I q (.tup vs), ⟨fun a o w => ?_, .refl _, fun a o w => ?_, fun a o w => ?_⟩, upd_same⟩
    · rw [upd_ne (fun t => by subst t; rw [z] at w; cases w)]
      exact w
    · by_cases t : a = q
      · subst t
        rw [upd_same] at w
        cases w
        exact h
      · rw [upd_ne t] at w
        exact e _ _ w
    · by_cases t : a = q
      · subst t
        rw [upd_same] at w
        cases w
        exact .inr (.inr trivial)
      · rw [upd_ne t] at w
        exact .inl w
theorem it_keys {K : PySem.W.Frag} {mg : Gm} {I : Hp} {d : Addr} {o : Obj} {kvs : List (Key × V)} (h : I d = some (.frz o (.dK kvs))) : ItOk K mg I (Itk d o kvs) ((kvs.map (·.1)).map keyDD) := by
  intro I1 H e1 e2
  refine ⟨fun i x hx => ?_, e2 _ _ (e1 _ _ h), by simp⟩
  rw [List.getElem?_map, List.getElem?_map] at hx
  cases z : kvs[i]? with
  | none =>
    rw [z] at hx
    cases hx
  | some kv =>
    rw [z] at hx
    cases hx
    have hl := (List.getElem?_eq_some_iff.mp z).1
    refine ⟨⟨e2 _ _ (e1 _ _ h), hl⟩, fun y H' hy => ?_⟩
    obtain ⟨rfl, k, v, hk, rfl⟩ := hy
    rw [z] at hk
    cases hk
    exact ⟨I1, .refl e2, rep_key k⟩
theorem it_keysT {K : PySem.W.Frag} {mg : Gm} {I : Hp} {d : Addr} {o : Obj} {kvs : List (List Key × V)} (h : I d = some (.frz o (.dT kvs))) : ItOk K mg I (Itkt d o kvs) ((kvs.map (·.1)).map fun k => .tup (k.map keyDD)) := by
  intro I1 H e1 e2
  refine ⟨fun i x hx => ?_, e2 _ _ (e1 _ _ h), by simp⟩
  rw [List.getElem?_map, List.getElem?_map] at hx
  cases z : kvs[i]? with
  | none =>
    rw [z] at hx
    cases hx
  | some kv =>
    rw [z] at hx
    cases hx
    have hl := (List.getElem?_eq_some_iff.mp z).1
    refine ⟨⟨e2 _ _ (e1 _ _ h), hl⟩, fun y H' hy => ?_⟩
    obtain ⟨rfl, k, v, q, hk, rfl, hq⟩ := hy
    rw [z] at hk
    cases hk
    obtain ⟨I2, s2, h2⟩ := Stp.tup e2 hq
    exact ⟨I2, s2, .tup h2 (reps_keys k)⟩
/-! #### a dict is locked: the data are the same -/
section
variable {K : PySem.W.Frag} {mg : Gm} {I : Hp} {a : Addr} {od : Obj} {u : HO}
/-- a dict as it stands -/
def DctO : HO → Prop
  | .dK _ => True
  | .dT _ => True
  | _ => False
theorem lock_ne {b : Addr} {o : HO} (hu : DctO u) (ha : I a = some u) (h : I b = some o) (ho : ¬ DctO o) : (upd I a (.frz od u)) b = some o := by
  by_cases e : b = a
  · subst e
    rw [ha] at h
    cases h
    exact absurd hu ho
  · rw [upd_ne e]
    exact h
theorem lock_rd {b : Addr} {o : HO} (hu : DctO u) (ha : I a = some u) (h : Rd I b o) (hno : ∀ f x, o ≠ .frz f x) : Rd (upd I a (.frz od u)) b o := by
  by_cases e : b = a
  · subst e
    rcases h with h | ⟨f, h⟩
    · rw [ha] at h
      cases h
      exact .inr ⟨od, upd_same⟩
    · rw [ha] at h
      cases h
      exact hu.elim
  · rcases h with h | ⟨f, h⟩
    · exact .inl (by rw [upd_ne e]; exact h)
    · exact .inr ⟨f, by rw [upd_ne e]; exact h⟩
mutual
theorem Rep.lock (hu : DctO u) (ha : I a = some u) : ∀ {v : V} {d : D}, Rep K mg I v d → Rep K mg (upd I a (.frz od u)) v d
  | _, _, .non => .non
  | _, _, .bl b => .bl b
  | _, _, .int i => .int i
  | _, _, .str x => .str x
  | _, _, .lst h r => .lst (lock_ne hu ha h id) (Reps.lock hu ha r)
  | _, _, .tup h r => .tup (lock_ne hu ha h id) (Reps.lock hu ha r)
  | _, _, .scr h => .scr (by
      rcases h with (h | ⟨o, h⟩) | h
      · exact .inl (.inl (lock_ne hu ha h id))
      · exact .inl (.inr ⟨o, lock_ne hu ha h id⟩)
      · exact .inr h)
  | _, _, .rng h => .rng (lock_ne hu ha h id)
  | _, _, .ty n => .ty n
  | _, _, .cls h => .cls h
  | _, _, .obj h c r => .obj (lock_ne hu ha h id) c (Reps.lock hu ha r)
  | _, _, .dk h r => .dk (lock_rd hu ha h fun _ _ => nofun) (Reps.lock hu ha r)
  | _, _, .dt h r => .dt (lock_rd hu ha h fun _ _ => nofun) (Reps.lock hu ha r)
  | _, _, .exc x n h r => .exc x n (lock_ne hu ha h id) (Reps.lock hu ha r)
theorem Reps.lock (hu : DctO u) (ha : I a = some u) : ∀ {vs : List V} {ds : List D}, Reps K mg I vs ds → Reps K mg (upd I a (.frz od u)) vs ds
  | _, _, .nil => .nil
  | _, _, .cons h r => .cons (Rep.lock hu ha h) (Reps.lock hu ha r)
end
theorem unlock_ne {b : Addr} {o : HO} (ha : I a = some (.frz od u)) (h : I b = some o) (ho : ∀ f x, o ≠ .frz f x) : (upd I a u) b = some o := by
  by_cases e : b = a
  · subst e
    rw [ha] at h
    cases h
    exact absurd rfl (ho od u)
  · rw [upd_ne e]
    exact h
theorem unlock_rd {b : Addr} {o : HO} (ha : I a = some (.frz od u)) (h : Rd I b o) (hno : ∀ f x, o ≠ .frz f x) : Rd (upd I a u) b o := by
  by_cases e : b = a
  · subst e
    rcases h with h | ⟨f, h⟩
    · rw [ha] at h
      cases h
      exact absurd rfl (hno od u)
    · rw [ha] at h
      cases h
      exact .inl upd_same
  · rcases h with h | ⟨f, h⟩
    · exact .inl (by rw [upd_ne e]; exact h)
    · exact .inr ⟨f, by rw [upd_ne e]; exact h⟩
mutual
theorem Rep.unlock (hu : DctO u) (ha : I a = some (.frz od u)) : ∀ {v : V} {d : D}, Rep K mg I v d → Rep K mg (upd I a u) v d
  | _, _, .non => .non
  | _, _, .bl b => .bl b
  | _, _, .int i => .int i
  | _, _, .str x => .str x
  | _, _, .lst h r => .lst (unlock_ne ha h fun _ _ => nofun) (Reps.unlock hu ha r)
  | _, _, .tup h r => .tup (unlock_ne ha h fun _ _ => nofun) (Reps.unlock hu ha r)
  | _, _, .scr (a := b) h => .scr (by
      rcases h with (h | ⟨o, h⟩) | h
      · exact .inl (.inl (unlock_ne ha h fun _ _ => nofun))
      · by_cases e : b = a
        · subst e
          rw [ha] at h
          cases h
          exact hu.elim
        · exact .inl (.inr ⟨o, by rw [upd_ne e]; exact h⟩)
      · exact .inr h)
  | _, _, .rng h => .rng (unlock_ne ha h fun _ _ => nofun)
  | _, _, .ty n => .ty n
  | _, _, .cls h => .cls h
  | _, _, .obj h c r => .obj (unlock_ne ha h fun _ _ => nofun) c (Reps.unlock hu ha r)
  | _, _, .dk h r => .dk (unlock_rd ha h fun _ _ => nofun) (Reps.unlock hu ha r)
  | _, _, .dt h r => .dt (unlock_rd ha h fun _ _ => nofun) (Reps.unlock hu ha r)
  | _, _, .exc x n h r => .exc x n (unlock_ne ha h fun _ _ => nofun) (Reps.unlock hu ha r)
theorem Reps.unlock (hu : DctO u) (ha : I a = some (.frz od u)) : ∀ {vs : List V} {ds : List D}, Reps K mg I vs ds → Reps K mg (upd I a u) vs ds
  | _, _, .nil => .nil
  | _, _, .cons h r => .cons (Rep.unlock hu ha h) (Reps.unlock hu ha r)
end
end
theorem lock_same {I H : Hp} {a : Addr} {u : HO} (e : Same I H) (hi : I a = some u) (o : HO) : Same (upd I a o) (upd H a o) := fun b w z => by
  by_cases t : b = a
  · subst t
    rw [upd_same] at z ⊢
    exact z
  · rw [upd_ne t] at z ⊢
    exact e _ _ z
/-- a step of the locked state is one of the state -/
theorem Stp.unlock {I H I' H' : Hp} {a : Addr} {f u : HO} (hI : I a = some u) (hH : H a = some u) (s : Stp (upd I a f) (upd H a f) I' H') : Stp I H (upd I' a u) (upd H' a u) := by
  have key : ∀ {J J' : Hp}, J a = some u → Same (upd J a f) J' → Same J (upd J' a u) := fun hJ e b w z => by
    by_cases t : b = a
    · subst t
      rw [hJ] at z
      cases z
      exact upd_same
    · rw [upd_ne t]
      exact e _ _ (by rw [upd_ne t]; exact z)
  refine ⟨key hI s.i, key hH s.h, fun b w z => ?_, fun b w z => ?_⟩
  · by_cases t : b = a
    · subst t
      rw [upd_same] at z ⊢
      exact z
    · rw [upd_ne t] at z ⊢
      exact s.e _ _ z
  · by_cases t : b = a
    · subst t
      rw [upd_same] at z
      cases z
      exact .inl hI
    · rw [upd_ne t] at z
      rcases s.f _ _ z with y | y | y
      · rw [upd_ne t] at y
        exact .inl y
      · rw [upd_ne t] at y
        exact .inr (.inl y)
      · exact .inr (.inr y)
theorem pe_orE {X : Cx} {e : Expr} {t u : TE} (h : PE X e t) (k : PE X e u) : PE X e (fun σ H Q => t σ H Q ∨ u σ H Q) := ⟨fun pins s σ H Q I q => q.elim (h.run pins s σ H Q I) (k.run pins s σ H Q I)⟩
def lcK (i : Nat) (vs : List Nat) (ag : D → R As) (mt : Env → R Bool) (me : Env → R D) : Env → R D :=
  fun ρ => calm (get ρ i >>= keysI) >>= fun ds => calm (if ds.length ≤ LIM then (calm (lcGo ag mt me (wipeE ρ vs) ds) >>= fun r => .ok (.lst r)) else .stuck)
section
variable {X : Cx} {E : Wh} {elt tg : Expr} {ifs : List Expr} {scope : Scope} {own : List (Str × Nat)} {pos p : Pos} {g : TG} {tt : TT} {te : TE} {ag : D → R As} {mt : Env → R Bool} {me : Env → R D} {x : Str}
theorem me_lcK (i : Nat) (hc : X.calm = true) (hN : X.N.Nodup) (ok : BlkOk X.N X.env.scope scope own)
    (hg : ∀ (s : Shared) (H : Hp) (C : Addr) (cl : List (Str × Addr)) (fp : List Addr), MG (X.blk s H scope (compEnvC scope cl C X.env) fp) tg g ag) (ht : ∀ (s : Shared) (H : Hp) (C : Addr) (cl : List (Str × Addr)) (fp : List Addr), MTs (X.blk s H scope (compEnvC scope cl C X.env) fp) E.calm ifs tt mt)
    (he : ∀ (s : Shared) (H : Hp) (C : Addr) (cl : List (Str × Addr)) (fp : List Addr), ME (X.blk s H scope (compEnvC scope cl C X.env) fp) E.calm elt te me) (hv : AgIn ag (· ∈ own.map (·.2)))
    (hi : X.N[i]? = some x := by rfl) (hvi : Vis X.env.scope x := by first | exact Or.inl rfl | exact Or.inr (Or.inl rfl) | exact Or.inr (Or.inr rfl)) (hs : ∀ y, foldedSetIterable (.Name x p) X.env y = pure y := by intro _; rfl) (hd : (x == ("__debug__" : Str)) = false := by decide) (hcd : (x == ("__classdict__" : Str)) = false := by decide) :
    ME X E (.ListComp elt [⟨tg, .Name x p, ifs, 0⟩] scope pos) (fun σ H Q => tLockE (tLc (iKeys (tVar i)) g tt te (own.map (·.2))) σ H Q ∨ tLc (iKeys (tVar i)) g tt te (own.map (·.2)) σ H Q) (lcK i (own.map (·.2)) ag mt me) := by
  have hp : PE X (.ListComp elt [⟨tg, .Name x p, ifs, 0⟩] scope pos) (tLc (iKeys (tVar i)) g tt te (own.map (·.2))) := pe_lc hc hN (pi_keys (pe_var (i := i) hi hvi hd hcd)) ok (fun s H C cl fp => (hg s H C cl fp).pe) (fun s H C cl fp => (ht s H C cl fp).pe) (fun s H C cl fp => (he s H C cl fp).pe) hs
  have sg := (hg X.s_0 X.H_0 0 [] []).sn E.x
  have st := (ht X.s_0 X.H_0 0 [] []).sn
  have se := (he X.s_0 X.H_0 0 [] []).sn
  refine ⟨pe_orE (pe_lock hp) hp, fun σ I H ρ Q re ex h => ?_⟩
  unfold lcK at h
  cases q : (ρ : List (Option D))[i]? with
  | none =>
    simp only [get, q] at h
    exact h.elim
  | some o =>
    cases o with
    | none =>
      simp only [get, q] at h
      exact h.elim
    | some d =>
      obtain ⟨v, hv1, rv⟩ := re.at_ i d q
      have hget : get ρ i = .ok d := by simp only [get, q]
      rw [hget] at h
      -- the walk over the locked dict
      have core : ∀ (ds : List D) (J : It) (I1 H1 : Hp) (Q1 : VK), RE X.K (gm X E) I1 σ ρ → Same I1 H1 → ItOk X.K (gm X E) I1 J ds → (∀ z, (if ds.length ≤ LIM then (calm (lcGo ag mt me (wipeE ρ (own.map (·.2))) ds) >>= fun r => .ok (.lst r)) else .stuck : R D) = .ok z → ∀ w I' H', Stp I1 H1 I' H' → Rep X.K (gm X E) I' w z → Q1 w H') →
          (∃ z, (if ds.length ≤ LIM then (calm (lcGo ag mt me (wipeE ρ (own.map (·.2))) ds) >>= fun r => .ok (.lst r)) else .stuck : R D) = .ok z) → tLc (fun _ H R => R J H) g tt te (own.map (·.2)) σ H1 Q1 := by
        intro ds J I1 H1 Q1 re1 ex1 it hq ⟨z, hz⟩
        refine lc_core (E1 := E0) sg st se hv re1 ex1 it ?_
        rw [hz]
        exact fun w I' H' s r => hq z hz w I' H' s r
      cases rv with
      | @dk a kvs ds ha ra =>
        have h : Out X.K (gm X E) (E.e σ) (Rep X.K (gm X E)) I H (calm (if ((kvs.map (·.1)).map keyDD).length ≤ LIM then (calm (lcGo ag mt me (wipeE ρ (own.map (·.2))) ((kvs.map (·.1)).map keyDD)) >>= fun r => .ok (.lst r)) else .stuck)) Q := h
        obtain ⟨z, hz, h9⟩ := out_calm h
        rcases ha with ha | ⟨o, ha⟩
        · refine .inl ⟨a, .dK kvs, ex _ _ ha, trivial, fun od => ⟨.ref a, hv1, a, od, rfl, .inl ⟨kvs, upd_same, ?_⟩⟩⟩
          refine core _ (Itk a od kvs) (upd I a (.frz od (.dK kvs))) _ (fun v H' => H' a = some (.frz od (.dK kvs)) ∧ Q v (upd H' a (.dK kvs))) ⟨re.len, fun j d' q' => ?_⟩ (lock_same ex ha _) (it_keys upd_same) (fun z' hz' w I' H' s r => ?_) ⟨z, hz⟩
          · obtain ⟨v', a', b'⟩ := re.at_ j d' q'
            exact ⟨v', a', b'.lock (u := .dK kvs) trivial ha⟩
          · rw [hz] at hz'
            cases hz'
            exact ⟨s.h _ _ upd_same, h9 w _ _ (Stp.unlock ha (ex _ _ ha) s) (r.unlock (u := .dK kvs) trivial (s.i _ _ upd_same))⟩
        · refine .inr ⟨.ref a, hv1, a, o, rfl, .inl ⟨kvs, ex _ _ ha, ?_⟩⟩
          refine core _ (Itk a o kvs) I H Q re ex (it_keys ha) (fun z' hz' w I' H' s r => ?_) ⟨z, hz⟩
          rw [hz] at hz'
          cases hz'
          exact h9 w I' H' s r
      | @dt a kvs ds ha ra =>
        have h : Out X.K (gm X E) (E.e σ) (Rep X.K (gm X E)) I H (calm (if ((kvs.map (·.1)).map fun k => D.tup (k.map keyDD)).length ≤ LIM then (calm (lcGo ag mt me (wipeE ρ (own.map (·.2))) ((kvs.map (·.1)).map fun k => D.tup (k.map keyDD))) >>= fun r => .ok (.lst r)) else .stuck)) Q := h
        obtain ⟨z, hz, h9⟩ := out_calm h
        rcases ha with ha | ⟨o, ha⟩
        · refine .inl ⟨a, .dT kvs, ex _ _ ha, trivial, fun od => ⟨.ref a, hv1, a, od, rfl, .inr ⟨kvs, upd_same, ?_⟩⟩⟩
          refine core _ (Itkt a od kvs) (upd I a (.frz od (.dT kvs))) _ (fun v H' => H' a = some (.frz od (.dT kvs)) ∧ Q v (upd H' a (.dT kvs))) ⟨re.len, fun j d' q' => ?_⟩ (lock_same ex ha _) (it_keysT upd_same) (fun z' hz' w I' H' s r => ?_) ⟨z, hz⟩
          · obtain ⟨v', a', b'⟩ := re.at_ j d' q'
            exact ⟨v', a', b'.lock (u := .dT kvs) trivial ha⟩
          · rw [hz] at hz'
            cases hz'
            exact ⟨s.h _ _ upd_same, h9 w _ _ (Stp.unlock ha (ex _ _ ha) s) (r.unlock (u := .dT kvs) trivial (s.i _ _ upd_same))⟩
        · refine .inr ⟨.ref a, hv1, a, o, rfl, .inr ⟨kvs, ex _ _ ha, ?_⟩⟩
          refine core _ (Itkt a o kvs) I H Q re ex (it_keysT ha) (fun z' hz' w I' H' s r => ?_) ⟨z, hz⟩
          rw [hz] at hz'
          cases hz'
          exact h9 w I' H' s r
      | _ => exact h.elim
end
end DL
namespace DL
open PySem PySem.Spec PyProof.Rows L2

/-! ### {k: v for ..} with tuples as keys, as data -/
def tkey : D → R (List Key)
  | .tup es => match keysD es with
    | some k => .ok k
    | none => .stuck
  | _ => .stuck
def dcGo (ag : D → R As) (mt : Env → R Bool) (mk mv : Env → R D) (ρ : Env) : List D → List (List Key) → List D → R D
  | [], ks, es => .ok (.dt ks es)
  | d :: ds, ks, es => calm (ag d) >>= fun as => calm (mt (setE ρ as)) >>= fun b => if b = true then calm (mk (setE ρ as)) >>= fun kd => calm (tkey kd) >>= fun k => calm (mv (setE ρ as)) >>= fun y => dcGo ag mt mk mv ρ ds (putKs k ks) (putKd k y ks es) else dcGo ag mt mk mv ρ ds ks es
def dcM (vs : List Nat) (mi : Env → R (List D)) (ag : D → R As) (mt : Env → R Bool) (mk mv : Env → R D) : Env → R D :=
  fun ρ => mi ρ >>= fun ds => if ds.length ≤ LIM then calm (dcGo ag mt mk mv (wipeE ρ vs) ds [] []) else .stuck
structure DcAt (K : PySem.W.Frag) (mg : Gm) (I1 H1 : Hp) (D0 : Addr) (n : Nat) (ks : List (List Key)) (es : List D) (I2 H : Hp) : Prop where
  i : Same I1 I2
  e : Same I2 H
  z : I2 D0 = none
  h : Same H1 H
  f : ∀ a o, I2 a = some o → I1 a = some o ∨ Fr H1 a o
  l : ∃ kvs : List (List Key × V), H D0 = some (.dT kvs) ∧ kvs.map (·.1) = ks ∧ Reps K mg I2 (kvs.map (·.2)) es ∧ kvs.length ≤ n
section
variable {K : PySem.W.Frag} {mg : Gm} {I1 H1 I2 H I3 H3 : Hp} {D0 : Addr} {n : Nat} {ks : List (List Key)} {es : List D} {y : V} {d : D}
theorem DcAt.start (ex : Same I1 H1) (hD : H1 D0 = none) : DcAt K mg I1 H1 D0 0 [] [] I1 (upd H1 D0 (.dT [])) :=
  ⟨.refl _, (Stp.side ex hD).e, ex.free hD, (Stp.side ex hD).h, fun _ _ h => .inl h, [], upd_same, rfl, .nil, Nat.le_refl _⟩
theorem DcAt.step (p : DcAt K mg I1 H1 D0 n ks es I2 H) (s : Stp I2 H I3 H3) : DcAt K mg I1 H1 D0 n ks es I3 H3 := by
  obtain ⟨kvs, h1, h0, h2, h3⟩ := p.l
  refine ⟨p.i.trans s.i, s.e, ?_, p.h.trans s.h, fun a o h => ?_, kvs, s.h _ _ h1, h0, h2.mono s.i, h3⟩
  · cases q : I3 D0 with
    | none => rfl
    | some o =>
      rcases s.f _ _ q with z | z | z
      · rw [p.z] at z
        cases z
      · rw [h1] at z
        cases z
      · have y := s.e _ _ q
        rw [s.h _ _ h1] at y
        cases y
        exact z.elim
  · rcases s.f a o h with z | z | z
    · exact p.f a o z
    · exact .inr (.inl (p.h.free z))
    · exact .inr (.inr z)
theorem DcAt.push (p : DcAt K mg I1 H1 D0 n ks es I2 H) (hD : H1 D0 = none) (k : List Key) (r : Rep K mg I2 y d) (hn : n < LIM) : ∃ kvs, H D0 = some (.dT kvs) ∧ kvs.length < sizeLine ∧ DcAt K mg I1 H1 D0 (n + 1) (putKs k ks) (putKd k d ks es) I2 (upd H D0 (.dT (putK kvs k y))) := by
  obtain ⟨kvs, h1, h0, h2, h3⟩ := p.l
  subst h0
  refine ⟨kvs, h1, lim_lt (by omega), p.i, fun a o q => ?_, p.z, fun a o q => ?_, p.f, putK kvs k y, upd_same, putK_ks kvs, putK_ds r h2, ?_⟩
  · rw [upd_ne (ne_of_none q p.z)]
    exact p.e _ _ q
  · rw [upd_ne (ne_of_none q hD)]
    exact p.h _ _ q
  · have := length_putK kvs k y
    omega
theorem DcAt.skip (p : DcAt K mg I1 H1 D0 n ks es I2 H) : DcAt K mg I1 H1 D0 (n + 1) ks es I2 H := by
  obtain ⟨kvs, h1, h0, h2, h3⟩ := p.l
  exact ⟨p.i, p.e, p.z, p.h, p.f, kvs, h1, h0, h2, by omega⟩
theorem DcAt.done (p : DcAt K mg I1 H1 D0 n ks es I2 H) (hD : H1 D0 = none) : ∃ I', Stp I1 H1 I' H ∧ Rep K mg I' (.ref D0) (.dt ks es) := by
  obtain ⟨kvs, h1, h0, h2, h3⟩ := p.l
  subst h0
  have k : Same I2 (upd I2 D0 (.dT kvs)) := fun a o q => by
    rw [upd_ne (ne_of_none q p.z)]
    exact q
  refine ⟨upd I2 D0 (.dT kvs), ⟨p.i.trans k, p.h, fun a o q => ?_, fun a o q => ?_⟩, .dt (.inl upd_same) (h2.mono k)⟩
  · by_cases e : a = D0
    · subst e
      rw [upd_same] at q
      rw [h1]
      exact q
    · rw [upd_ne e] at q
      exact p.e _ _ q
  · by_cases e : a = D0
    · subst e
      exact .inr (.inl hD)
    · rw [upd_ne e] at q
      exact p.f _ _ q
end
section
variable {X : Cx} {E : Wh} {kx vx tg iter : Expr} {ifs : List Expr} {scope : Scope} {own : List (Str × Nat)} {pos : Pos} {wi : TI} {g : TG} {tt : TT} {tk tv : TE} {mi : Env → R (List D)} {ag : D → R As} {mt : Env → R Bool} {mk mv : Env → R D}
theorem dc_snd {K : PySem.W.Frag} {mg : Gm} {vs : List Nat} {E1 : XS} (si : Sn K mg E1 (ItOk K mg) wi mi) (sg : SnG K mg g ag) (st : Sn K mg (fun _ => E0) rB tt mt) (sk : Sn K mg (fun _ => E0) (Rep K mg) tk mk) (se : Sn K mg (fun _ => E0) (Rep K mg) tv mv) (hv : ∀ d as, ag d = .ok as → ∀ p ∈ as, p.1 ∈ vs) :
    Sn K mg E1 (Rep K mg) (tDcT wi g tt tk tv vs) (dcM vs mi ag mt mk mv) := fun σ I H ρ Q re ex h => by
  refine si.run re ex h fun ds J I1 H1 _ s1 it h D0 hD => ?_
  obtain ⟨hl, h⟩ := out_if h
  cases eo : dcGo ag mt mk mv (wipeE ρ vs) ds [] [] with
  | err _ _ =>
    rw [eo] at h
    exact h.elim
  | stuck =>
    rw [eo] at h
    exact h.elim
  | ok out =>
    rw [eo] at h
    have h : Out K mg (E1 σ) (Rep K mg) I1 H1 (.ok out) Q := h
    refine ⟨fun i m H => m = ds.length - i ∧ i ≤ ds.length ∧ ∃ I2 ks es, DcAt K mg I1 H1 D0 i ks es I2 H ∧ dcGo ag mt mk mv (wipeE ρ vs) (ds.drop i) ks es = .ok out, ⟨ds.length, by simp, Nat.zero_le _, I1, [], [], .start s1.e hD, eo⟩, ?_⟩
    rintro i m H2 ⟨rfl, hi, I2, ks, es, p, hr⟩
    have hit := it I2 H2 p.i p.e
    by_cases hlt : i < ds.length
    · have hd : ds[i]? = some ds[i] := List.getElem?_eq_getElem hlt
      obtain ⟨hgo, hy⟩ := hit.1 i _ hd
      refine .inr ⟨hgo, fun H' => ∃ I2 ks es, DcAt K mg I1 H1 D0 (i + 1) ks es I2 H' ∧ dcGo ag mt mk mv (wipeE ρ vs) (ds.drop (i + 1)) ks es = .ok out, fun H' hN => ⟨ds.length - (i + 1), by omega, rfl, hlt, hN⟩, fun x H' y => ?_⟩
      obtain ⟨I3, s3, rx⟩ := hy x H' y
      rw [List.drop_eq_getElem_cons hlt] at hr
      unfold dcGo at hr
      obtain ⟨as, ha, hr⟩ := bind_ok hr
      have ha := calm_of ha
      obtain ⟨b, hb, hr⟩ := bind_ok hr
      have hb := calm_of hb
      refine sg x _ I3 H' _ as _ s3.e rx ha fun us ar => ?_
      have hus : ∀ p ∈ us, p.1 ∈ vs := fun p hp => by
        have hm : p.1 ∈ as.map (·.1) := by
          rw [← ar.slots]
          exact List.mem_map_of_mem hp
        obtain ⟨q, hq, e⟩ := List.mem_map.mp hm
        rw [← e]
        exact hv _ _ ha q hq
      refine ⟨by rw [wipe_setS hus, wipe_wipe], ?_⟩
      have re3 : RE K mg I3 (setS (wipe σ vs) us) (setE (wipeE ρ vs) as) := RE.setAll ar (((re.mono s1.i).mono (p.i.trans s3.i)).wipe vs)
      have p3 := p.step s3
      refine st _ I3 H' _ _ re3 s3.e ?_
      rw [hb]
      intro b' I4 H4 s4 eb
      have eb : b' = b := eb
      subst eb
      have p4 := p3.step s4
      cases b' with
      | true =>
        show tk _ H4 _
        rw [if_pos rfl] at hr
        obtain ⟨kd, hkd, hr1⟩ := bind_ok hr
        have hkd := calm_of hkd
        obtain ⟨k, hk, hr2⟩ := bind_ok hr1
        have hk := calm_of hk
        obtain ⟨yd, hyd, hr3⟩ := bind_ok hr2
        have hyd := calm_of hyd
        clear hr hr1 hr2
        refine sk _ I4 H4 _ _ (re3.mono s4.i) s4.e ?_
        rw [hkd]
        intro kv I5 H5 s5 rk
        refine se _ I5 H5 _ _ ((re3.mono s4.i).mono s5.i) s5.e ?_
        rw [hyd]
        intro yv I6 H6 s6 ry
        obtain ⟨kvs, h1, h2, p6⟩ := ((p4.step s5).step s6).push hD k ry (by omega)
        cases rk with
        | @tup q ws es2 hq rws =>
          have hk : (match keysD es2 with | some k => R.ok k | none => .stuck) = .ok k := hk
          cases e2 : keysD es2 with
          | none =>
            rw [e2] at hk
            cases hk
          | some k2 =>
            rw [e2] at hk
            cases hk
            have := keysD_v rws e2
            subst this
            exact ⟨kvs, k, q, rfl, s6.h _ _ (s5.e _ _ hq), h1, h2, I6, _, _, p6, hr3⟩
        | _ => cases hk
      | false =>
        rw [if_neg (by decide)] at hr
        exact ⟨I4, ks, es, p4.skip, hr⟩
    · have e : i = ds.length := by omega
      subst e
      rw [List.drop_length] at hr
      cases hr
      obtain ⟨I', s', r'⟩ := p.done hD
      exact .inl ⟨hit.2, h.there s' r'⟩
theorem me_dcT (hu : X.A.units + 1 < cLine) (hc : X.calm = true) (hN : X.N.Nodup) (hi : MI X E tg iter wi mi) (ok : BlkOk X.N X.env.scope scope own)
    (hg : ∀ (s : Shared) (H : Hp) (C : Addr) (cl : List (Str × Addr)) (fp : List Addr), MG (X.blk s H scope (compEnvC scope cl C X.env) fp) tg g ag) (ht : ∀ (s : Shared) (H : Hp) (C : Addr) (cl : List (Str × Addr)) (fp : List Addr), MTs (X.blk s H scope (compEnvC scope cl C X.env) fp) E.calm ifs tt mt)
    (hk : ∀ (s : Shared) (H : Hp) (C : Addr) (cl : List (Str × Addr)) (fp : List Addr), ME (X.blk s H scope (compEnvC scope cl C X.env) fp) E.calm kx tk mk) (he : ∀ (s : Shared) (H : Hp) (C : Addr) (cl : List (Str × Addr)) (fp : List Addr), ME (X.blk s H scope (compEnvC scope cl C X.env) fp) E.calm vx tv mv) (hv : AgIn ag (· ∈ own.map (·.2))) (hs : ∀ x, foldedSetIterable iter X.env x = pure x := by intro _; rfl) :
    ME X E (.DictComp kx vx [⟨tg, iter, ifs, 0⟩] scope pos) (tDcT wi g tt tk tv (own.map (·.2))) (dcM (own.map (·.2)) mi ag mt mk mv) :=
  ⟨pe_dcT hu hc hN hi.pe ok (fun s H C cl fp => (hg s H C cl fp).pe) (fun s H C cl fp => (ht s H C cl fp).pe) (fun s H C cl fp => (hk s H C cl fp).pe) (fun s H C cl fp => (he s H C cl fp).pe) hs,
    dc_snd hi.sn ((hg X.s_0 X.H_0 0 [] []).sn _) (ht X.s_0 X.H_0 0 [] []).sn (hk X.s_0 X.H_0 0 [] []).sn (he X.s_0 X.H_0 0 [] []).sn hv⟩
end
end DL
namespace DL
open PySem PySem.Spec PyProof.Rows L2

/-! ### d.setdefault(k, e) with tuples as keys -/
theorem dictSetDefault_heap {prog : Program} {w : World} {K : Type} [DecidableEq K] {knd : HeapKind prog w K} {A : Around} {E : Value → Shared → Prop} {s : Shared} {d a : Addr} {xs : List (K × Addr × Value)} {k : K} {v : Value} {Q : Value → Shared → Prop} (hu : knd.room A) (hkey : knd.is s.heap k a) (hm : Heap.DictOfH knd s.heap d xs)
    (h1 : ∀ u, (atKey xs k).map (·.2) = some u → Q u { heap := s.heap, gens := s.gens, drawn := s.drawn, toks := s.toks + knd.draws k, os := s.os })
    (h2 : (atKey xs k).map (·.2) = none → ∀ h', Heap.DictOfH knd h' d (storedH xs k a v) → Heap.SameBut d s.heap h' → Q v { heap := h', gens := s.gens, drawn := s.drawn, toks := s.toks + knd.draws k, os := s.os }) (hsz : xs.length ≤ sizeLine) :
    wpAny (model prog w) A (dictSetDefault d (.ref a) v) Q E s := by
  obtain ⟨o, es, ep, ho, hc, hd, he, his, hn⟩ := hm
  have hes : es.size = xs.length := size_of_entries he
  refine wpAny_holding (wpAny_bind (knd.pyHash hu hkey ?_))
  refine wpAny_bind (wpAny_dictFind_heap hu hkey ho hd he his hn (fun hno => ?_) fun j p hj => ?_)
  · have hat := atKey_none_of_get hno
    have hnot := not_mem_keys_of_get hno
    refine wpAny_bind (wpAny_rule (wpAny_bind (wpAny_updateDictKeys ho hd ?_ (by omega) (by rw [Array.size_push]; exact Nat.le_refl _))))
    refine wpAny_pure ?_
    refine h2 (by rw [hat]; rfl) (s.heap.update d (Obj.mapDictKeys fun x => x.push { hash := knd.hash k, key := .ref a, val := v })) ⟨_, _, ep + 1, Heap.get?_update_self _ ho (Obj.isFreed_of_dict (Obj.data_mapDictKeys hd _)), Obj.ExactDict.mapDictKeys hc _, Obj.data_mapDictKeys hd _, ?_, ?_, ?_⟩ (Heap.SameBut.update _ _ _)
    · rw [storedH_new hat, Array.toList_push, he, List.map_append]
      rfl
    · rw [storedH_new hat]
      intro x hx
      rcases List.mem_append.mp hx with hx | hx
      · exact knd.keeps (his x hx) ho hd (Heap.SameBut.update _ _ _)
      · rw [List.mem_singleton.mp hx]
        exact knd.keeps hkey ho hd (Heap.SameBut.update _ _ _)
    · rw [storedH_new hat, List.map_append]
      refine List.nodup_append.mpr ⟨hn, by simp, fun x hx y hy e => ?_⟩
      rw [List.mem_singleton.mp hy] at e
      subst e
      exact hnot hx
  · have hat := atKey_of_get hn hj
    have hej : es[j]? = some (entryOfKey knd (k, p)) := by
      rw [← Array.getElem?_toList, he, List.getElem?_map, hj]
      rfl
    refine wpAny_bind (wpAny_dictEntries ho hd ?_)
    rw [hej]
    refine wpAny_bind (wpAny_rule (wpAny_pure ?_))
    exact h1 p.2 (by rw [hat]; rfl)
theorem d_setdT {X : Cx} {pins : List (Addr × Obj)} {σ : L2.St} {H : Hp} {s : Shared} {a b : Addr} {r : Value} {d : V} {k : List Key} {A : Around} {E : Value → Shared → Prop} {kvs : List (List Key × V)} {Q : Value → Shared → Prop} (hu : A.units + 1 < cLine) (I : L2.Inv X pins σ H s) (e : H a = some (.dT kvs)) (eb : H b = some (.tup (k.map kV))) (rd : RelV d r) (hl : kvs.length < sizeLine)
    (h1 : ∀ v, valV kvs k = some v → ∀ w' s', L2.Inv X pins σ H s' → RelV v w' → Q w' s') (h2 : valV kvs k = none → ∀ w' s', L2.Inv X pins σ (upd H a (.dT (putK kvs k d))) s' → RelV d w' → Q w' s') :
    wpAny (model X.prog X.w) A (call (.builtin "dict.setdefault") [.ref a, .ref b, r]) Q E s := by
  obtain ⟨z, hd, xs, rel, dd⟩ := dt_of I.hok e
  have hz2 : xs.length ≤ sizeLine := by
    rw [← Paired.length rel]
    exact z
  have hl2 : (putK kvs k d).length ≤ sizeLine := by
    have := length_putK kvs k d
    omega
  refine call_meetsIn F.slot_dict_setdefault (Heap.DictOfH.typeIs dd) F.entry_dict_setdefault (F.args_dict_setdefault_3 (.ref a) (.ref b) r)
    (S := fun A' R s' => (tupleKind (mixKind X.prog X.w)).room A'.in1 ∧ s' = s ∧ (∀ u, (atKey xs k).map (·.2) = some u → R (.ok (.ret u)) { heap := s.heap, gens := s.gens, drawn := s.drawn, toks := s.toks + (tupleKind (mixKind X.prog X.w)).draws k, os := s.os }) ∧
      ((atKey xs k).map (·.2) = none → ∀ h', Heap.DictOfH (tupleKind (mixKind X.prog X.w)) h' a (storedH xs k b r) → Heap.SameBut a s.heap h' → R (.ok (.ret r)) { heap := h', gens := s.gens, drawn := s.drawn, toks := s.toks + (tupleKind (mixKind X.prog X.w)).draws k, os := s.os })) ?_ ?_
  · refine MeetsIn.of_wp fun A' R s' hh => ?_
    obtain ⟨hroom, rfl, g1, g2⟩ := hh
    refine wpAny_bind ?_
    refine wpAny_bind ?_
    refine wpAny_notOrdered_dict (Heap.DictOfH.typeIs dd) ?_
    refine wpAny_pure ?_
    show wpAny _ _ (if (a == sysModules) = true then _ else _) _ _ _
    rw [if_neg (by rw [hd]; exact Bool.false_ne_true)]
    refine wpAny_bind ?_
    exact dictSetDefault_heap hroom (key_of I.hok eb) dd (fun u hu => wpAny_pure ⟨u, rfl, g1 u hu⟩) (fun hn h' dd' hs => wpAny_pure ⟨r, rfl, g2 hn h' dd' hs⟩) hz2
  · refine ⟨tupleKind_room_in1 hu, rfl, fun u hu => ?_, fun hn h' dd' hs => ?_⟩
    · have q := KT.val rel k
      rw [hu] at q
      cases hv : valV kvs k with
      | none =>
        rw [hv] at q
        exact q.elim
      | some v0 =>
        rw [hv] at q
        exact h1 v0 hv u _ (Inv.tok I _) q
    · have q := KT.val rel k
      rw [hn] at q
      cases hv : valV kvs k with
      | some v0 =>
        rw [hv] at q
        exact q.elim
      | none =>
        refine h2 hv r { heap := h', gens := s.gens, drawn := s.drawn, toks := _, os := s.os } ?_ rd
        obtain ⟨q, es, ep, hq, k2, k3, k4, k5⟩ := dd'
        refine d_write I (by rw [e]; trivial) hs ⟨q, hq⟩ ⟨hl2, hd, storedH xs k b r, ?_, q, es, ep, hq, k2, k3, k4, k5.2⟩
        refine KT.keeps (KT.put rel k eb rd) fun c ys ec => ?_
        rw [upd_ne (ne_of ec e fun z => nomatch z)]
        exact ec
end DL
namespace DL
open PySem PySem.Spec PyProof.Rows L2

/-! ### a list of one's own within a thing of one's own is changed -/
section
variable {K : PySem.W.Frag} {mg : Gm} {E : XK} {Mb M M' : List Nat} {Ie : Hp × Addr} {He I H I' H' : Hp} {σ : L2.St} {ρ : Env}
theorem SE.putKid {i : Nat} {p q : Addr} {o : HO} {ws' : List V} {d0 d9 : D} (s : SE K mg M Ie He σ I H ρ) (hi : i ∈ M) (hd : deep M i = true) (q0 : ρ[i]? = some (some d0)) (hp : σ[i]? = some (some (.ref p))) (ho : H p = some o) (hq : V.ref q ∈ hvals o) (r : OwnD K mg I He (upd H q (.lst ws')) o d9) (hk : d9.kind = 3 → d0.kind = 3) :
    SE K mg M Ie He σ I (upd H q (.lst ws')) (ρ.set i (some d9)) := by
  obtain ⟨p', o', h2, h3, h4, h5, h6⟩ := s.own_ i _ hi q0
  rw [hp] at h2
  cases h2
  rw [ho] at h5
  cases h5
  obtain ⟨k1, k2, k3⟩ := h6.ofD hd
  obtain ⟨_, q', ws, es, e1, _, g3, g4, g5, _⟩ := k1.kids hq
  cases e1
  have hpq : p ≠ q := fun e => by
    subst e
    exact k3 hq
  have mineq : ownA M H i p q := .inr ⟨hd, o, ho, hq⟩
  have far : ∀ j p2 d, j ∈ M → i ≠ j → ρ[j]? = some (some d) → σ[j]? = some (some (.ref p2)) → ∀ a, ownA M H j p2 a → a ≠ q := fun j p2 d hj hne z g a ha e => by
    subst e
    exact s.dis i j p p2 _ _ hi hj hne q0 z hp g a mineq ha
  have back : ∀ j p2 d a, j ∈ M → i ≠ j → ρ[j]? = some (some d) → σ[j]? = some (some (.ref p2)) → ownA M (upd H q (.lst ws')) j p2 a → ownA M H j p2 a := fun j p2 d a hj hne z g ha => by
    rcases ha with ha | ⟨hd, o, ho, hm⟩
    · exact .inl ha
    · rw [upd_ne (far j p2 d hj hne z g p2 (.inl rfl))] at ho
      exact .inr ⟨hd, o, ho, hm⟩
  have mine : ∀ a, ownA M (upd H q (.lst ws')) i p a → ownA M H i p a := fun a ha => by
    rcases ha with ha | ⟨hd, o2, ho2, hm⟩
    · exact .inl ha
    · rw [upd_ne hpq] at ho2
      exact .inr ⟨hd, o2, ho2, hm⟩
  refine ⟨⟨s.st.i, fun a o z => ?_, fun a o z => ?_, s.st.f⟩, by rw [List.length_set]; exact s.len, fun j d hj z => ?_, fun j d hj z => ?_, fun j k p1 p2 d e hj hk2 hne q1 q2 w1 w2 a a1 a2 => ?_, fun j d p' hj z g h => ?_⟩
  · rw [upd_ne (ne_of_none z g4)]
    exact s.st.h _ _ z
  · rw [upd_ne (ne_of_none z g3)]
    exact s.st.e _ _ z
  · rcases set_of_lt z with ⟨rfl, _⟩ | ⟨_, z⟩
    · exact absurd hi hj
    · exact s.imm j d hj z
  · rcases set_of_lt z with ⟨rfl, rfl⟩ | ⟨hne, z⟩
    · exact ⟨p, o, hp, h3, h4, by rw [upd_ne hpq]; exact ho, .mkD ⟨r, k2, k3⟩ hd⟩
    · obtain ⟨p2, o2, w2, w3, w4, w5, w6⟩ := s.own_ j d hj z
      exact ⟨p2, o2, w2, w3, w4, by rw [upd_ne (far j p2 d hj hne z w2 p2 (.inl rfl))]; exact w5, w6.keep w5 fun a ha => upd_ne (far j p2 d hj hne z w2 a ha)⟩
  · by_cases ej : i = j
    · subst ej
      rcases set_of_lt q1 with ⟨_, _⟩ | ⟨z, _⟩
      · rcases set_of_lt q2 with ⟨z, _⟩ | ⟨_, q2⟩
        · exact hne z
        · rw [hp] at w1
          cases w1
          exact s.dis i k p p2 d0 e hi hk2 hne q0 q2 hp w2 a (mine a a1) (back k p2 e a hk2 hne q2 w2 a2)
      · exact z rfl
    · rcases set_of_lt q1 with ⟨z, _⟩ | ⟨_, q1⟩
      · exact ej z
      · have a1 := back j p1 d a hj ej q1 w1 a1
        by_cases ek : i = k
        · subst ek
          rw [hp] at w2
          cases w2
          exact s.dis i j p p1 d0 d hi hj ej q0 q1 hp w1 a (mine a a2) a1
        · rcases set_of_lt q2 with ⟨z, _⟩ | ⟨_, q2⟩
          · exact ek z
          · exact s.dis j k p1 p2 d e hj hk2 hne q1 q2 w1 w2 a a1 (back k p2 e a hk2 ek q2 w2 a2)
  · rcases set_of_lt z with ⟨rfl, rfl⟩ | ⟨_, z⟩
    · exact s.slf _ _ p' hi q0 g (hk h)
    · exact s.slf j d p' hj z g h
/-- the child at the key, one longer -/
def sdGo {κ : Type} [DecidableEq κ] (k : κ) (d : D) : List κ → List D → List D
  | k' :: ks, e :: ds => if k' = k then (match e with | .lst es => .lst (es ++ [d]) | e => e) :: ds else e :: sdGo k d ks ds
  | _, ds => ds
theorem sd_found {κ : Type} [DecidableEq κ] {k : κ} {v : V} : ∀ {kvs : List (κ × V)} {ds : List D}, Kids K mg I He H (kvs.map (·.2)) ds → valV kvs k = some v → ∃ q ws es, v = .ref q ∧ V.ref q ∈ kvs.map (·.2) ∧ getK k (kvs.map (·.1)) ds = some (.lst es) ∧ H q = some (.lst ws) ∧ I q = none ∧ He q = none ∧ Reps K mg I ws es ∧
    ∀ {I' H' : Hp} {y : V} {d : D}, Same I I' → (∀ a, V.ref a ∈ kvs.map (·.2) → I' a = none) → (∀ a o, H a = some o → H' a = some o) → (kvs.map (·.2)).Nodup → Rep K mg I' y d → Kids K mg I' He (upd H' q (.lst (ws ++ [y]))) (kvs.map (·.2)) (sdGo k d (kvs.map (·.1)) ds)
  | [], _, _, h => by cases h
  | (k', v') :: kvs, d' :: ds, .cons kd r, h => by
    by_cases e : k' = k
    · rw [valV_pos (p := (k', v')) e] at h
      cases h
      obtain ⟨q, ws, es, rfl, rfl, h3, h4, h5, h6⟩ := kd
      refine ⟨q, ws, es, rfl, List.mem_cons_self, by simp [getK, e], h5, h3, h4, h6, fun {I' H' y d} hs hn hh nd ry => ?_⟩
      have nd2 := List.nodup_cons.mp nd
      have rest : ∀ {vs : List V} {es : List D}, (∀ v ∈ vs, v ∈ kvs.map (·.2)) → Kids K mg I He H vs es → Kids K mg I' He (upd H' q (.lst (ws ++ [y]))) vs es := by
        intro vs es hm kk
        induction kk with
        | nil => exact .nil
        | cons c r ih =>
          obtain ⟨q2, ws2, es2, rfl, rfl, c3, c4, c5, c6⟩ := c
          have hm2 := hm _ List.mem_cons_self
          have ne : q2 ≠ q := fun z => by
            subst z
            exact nd2.1 hm2
          exact .cons ⟨q2, ws2, es2, rfl, rfl, hn q2 (List.mem_cons_of_mem _ hm2), c4, by rw [upd_ne ne]; exact hh _ _ c5, c6.mono hs⟩ (ih fun v hv => hm v (List.mem_cons_of_mem _ hv))
      have e2 : sdGo k d (((k', V.ref q) :: kvs).map (·.1)) (.lst es :: ds) = .lst (es ++ [d]) :: ds := by
        show (if k' = k then _ else _) = _
        rw [if_pos e]
      rw [e2]
      exact .cons ⟨q, ws ++ [y], es ++ [d], rfl, rfl, hn q List.mem_cons_self, h4, upd_same, (h6.mono hs).app (.cons ry .nil)⟩ (rest (fun _ h => h) r)
    · have e1 : valV ((k', v') :: kvs) k = valV kvs k := by simp [valV, List.find?_cons, e]
      rw [e1] at h
      obtain ⟨q, ws, es, g1, g2, g3, g4, g5, g6, g7, g8⟩ := sd_found r h
      refine ⟨q, ws, es, g1, List.mem_cons_of_mem _ g2, by simp [getK, e]; exact g3, g4, g5, g6, g7, fun {I' H' y d} hs hn hh nd ry => ?_⟩
      have nd2 := List.nodup_cons.mp nd
      obtain ⟨q2, ws2, es2, rfl, rfl, c3, c4, c5, c6⟩ := kd
      have ne : q2 ≠ q := fun z => by
        subst z
        exact nd2.1 g2
      have e2 : sdGo k d (((k', V.ref q2) :: kvs).map (·.1)) (.lst es2 :: ds) = .lst es2 :: sdGo k d (kvs.map (·.1)) ds := by
        show (if k' = k then _ else _) = _
        rw [if_neg e]
      rw [e2]
      exact .cons ⟨q2, ws2, es2, rfl, rfl, hn q2 List.mem_cons_self, c4, by rw [upd_ne ne]; exact hh _ _ c5, c6.mono hs⟩ (g8 hs (fun a ha => hn a (List.mem_cons_of_mem _ ha)) hh nd2.2 ry)
end
def tDSetdT (td ty tx : TE) : TE := fun σ H Q => td σ H fun x H1 => ∃ a, x = .ref a ∧ IsD H1 a ∧ ty σ H1 fun y H2 => tx σ H2 fun z H3 => ∃ (kvs : List (List Key × V)) (k : List Key) (b : Addr), H3 a = some (.dT kvs) ∧ y = .ref b ∧ H3 b = some (.tup (k.map kV)) ∧ kvs.length < sizeLine ∧ (∀ v, valV kvs k = some v → Q v H3) ∧ (valV kvs k = none → Q z (upd H3 a (.dT (putK kvs k z))))
theorem pe_dsetdT {X : Cx} {o e f : Expr} {td ty tx : TE} {apos cpos : Pos} (hu : X.A.units + 1 < cLine) (ho : PE X o td) (he : PE X e ty) (hf : PE X f tx) (m : M2 X o "setdefault" apos e f cpos) : PE X (.Call (.Attribute o "setdefault" apos) [e, f] [] cpos) (tDSetdT td ty tx) := by
  refine ⟨fun pins s σ H Q I h => ?_⟩
  refine wpAny_Call_method m.base m.few m.line F.plainAttrs_dict F.slot_dict_setdefault F.type_dict_setdefault (thn (ho.run pins s σ H _ I h) fun u s1 hh => ?_)
  obtain ⟨x, H1, I1, rx, a, ex, d, q1⟩ := hh
  subst ex
  obtain rfl : u = Value.ref a := rx
  obtain ⟨t1, t2, _⟩ := isD_at I1 d
  refine ⟨t1, t2, ?_⟩
  rw [m.trees]
  refine Calls.callWith_builtin rfl (Calls.evalArgs_plain (Calls.spliced_cons (thn (he.run pins s1 σ H1 _ I1 q1) fun iv s2 hh => ?_)))
  obtain ⟨y, H2, I2, ry, q2⟩ := hh
  refine Calls.spliced_cons (thn (hf.run pins s2 σ H2 _ I2 q2) fun fv s3 hh => ?_)
  obtain ⟨z, H3, I3, rz, kvs, k, b, ea, ey, eb, hl, q3, q4⟩ := hh
  subst ey
  obtain rfl : iv = Value.ref b := ry
  exact Calls.spliced_nil (d_setdT hu I3 ea eb rz hl (fun v hv w' s4 I4 rw' => ⟨v, H3, I4, rw', q3 v hv⟩) fun hn w' s4 I4 rw' => ⟨z, _, I4, rw', q4 hn⟩)
/-! ### d.setdefault(k, []).append(e), d one's own, with tuples as keys -/
def sdS (M : List Nat) (i : Nat) (ρ : Env) (kd a : R D) : R Fl := match ρ[i]? with
  | some (some (.dt ks ds)) => kd >>= fun kd => calm (tkey kd) >>= fun k => if ks.length < LIM then (a >>= fun d => match getK k ks ds with
    | some (.lst es) => if es.length < LIM then .ok (.nx (ρ.set i (some (.dt ks (sdGo k d ks ds))))) else .stuck
    | some _ => .stuck
    | none => .ok (.nx (ρ.set i (some (.dt (ks ++ [k]) (ds ++ [.lst [d]])))))) else .stuck
  | _ => .stuck
theorem valV_none {κ : Type} [DecidableEq κ] {k : κ} : ∀ {kvs : List (κ × V)}, valV kvs k = none → k ∉ kvs.map (·.1)
  | [], _, h => by simp at h
  | (k', v') :: kvs, h, hm => by
    by_cases e : k' = k
    · rw [valV_pos (p := (k', v')) e] at h
      cases h
    · have e1 : valV ((k', v') :: kvs) k = valV kvs k := by simp [valV, List.find?_cons, e]
      rw [e1] at h
      rcases List.mem_cons.mp hm with z | hm
      · exact e z.symm
      · exact valV_none h hm
theorem putK_new {κ : Type} [DecidableEq κ] {k : κ} {v : V} {kvs : List (κ × V)} (h : k ∉ kvs.map (·.1)) : putK kvs k v = kvs ++ [(k, v)] := by
  unfold putK
  rw [if_neg]
  intro z
  obtain ⟨p, hp, e⟩ := List.any_eq_true.mp z
  exact h (List.mem_map.mpr ⟨p, hp, of_decide_eq_true e⟩)
theorem getK_none {κ : Type} [DecidableEq κ] {k : κ} : ∀ {ks : List κ} {ds : List D}, k ∉ ks → getK k ks ds = none
  | [], _, _ => by simp [getK]
  | k' :: ks, [], _ => by simp [getK]
  | k' :: ks, d :: ds, h => by
    have e : k' ≠ k := fun z => h (by simp [z])
    simp only [getK, if_neg e]
    exact getK_none fun z => h (List.mem_cons_of_mem _ z)
theorem sdGo_new {κ : Type} [DecidableEq κ] {k : κ} {d : D} {es : List D} : ∀ {ks : List κ} {ds : List D}, ks.length = ds.length → k ∉ ks → sdGo k d (ks ++ [k]) (ds ++ [.lst es]) = ds ++ [.lst (es ++ [d])]
  | [], [], _, _ => by simp [sdGo]
  | k' :: ks, d' :: ds, hl, h => by
    have e : k' ≠ k := fun z => h (by simp [z])
    show (if k' = k then _ else d' :: sdGo k d (ks ++ [k]) (ds ++ [.lst es])) = _
    rw [if_neg e, sdGo_new (by simpa using hl) fun z => h (List.mem_cons_of_mem _ z)]
    rfl
  | [], _ :: _, hl, _ => by simp at hl
  | _ :: _, [], hl, _ => by simp at hl
theorem OwnD.invT {K : PySem.W.Frag} {mg : Gm} {I He H : Hp} {kvs : List (List Key × V)} {d : D} (h : OwnD K mg I He H (.dT kvs) d) : ∃ ds, d = .dt (kvs.map (·.1)) ds ∧ Kids K mg I He H (kvs.map (·.2)) ds := by
  cases h with
  | dt r => exact ⟨_, rfl, r⟩
theorem Kids.len {K : PySem.W.Frag} {mg : Gm} {I He H : Hp} : ∀ {vs : List V} {ds : List D}, Kids K mg I He H vs ds → vs.length = ds.length
  | _, _, .nil => rfl
  | _, _, .cons _ r => congrArg (· + 1) r.len
theorem Kids.app {K : PySem.W.Frag} {mg : Gm} {I He H : Hp} : ∀ {vs ws : List V} {ds es : List D}, Kids K mg I He H vs ds → Kids K mg I He H ws es → Kids K mg I He H (vs ++ ws) (ds ++ es)
  | _, _, _, _, .nil, s => s
  | _, _, _, _, .cons h r, s => .cons h (Kids.app r s)
section
variable {X : Cx} {E : XK} {Mb M : List Nat} {k e : Expr} {tk te : TE} {mk m : Env → R D} {x : Str} {px ap cp ap2 cp2 pl pos : Pos}
theorem ms_sdapp (i : Nat) (hu : X.A.units + 1 < cLine) (hk : ME X (kE E) k tk mk) (he : ME X (kE E) e te m) (hi : X.N[i]? = some x := by rfl) (hv : Vis X.env.scope x := by first | exact Or.inl rfl | exact Or.inr (Or.inl rfl)) (hM : i ∈ M := by decide) (hD : deep M i = true := by decide) (hm : M2 X (.Name x px) "setdefault" ap k (.List [] pl) cp := by exact ⟨rfl, rfl, rfl, rfl⟩)
    (hd : (x == ("__debug__" : Str)) = false := by decide) (hcd : (x == ("__classdict__" : Str)) = false := by decide)
    (hp : ∀ {t : TE}, PE X (.Call (.Attribute (.Name x px) "setdefault" ap) [k, .List [] pl] [] cp) t → PE X e te → PE X (.Call (.Attribute (.Call (.Attribute (.Name x px) "setdefault" ap) [k, .List [] pl] [] cp) "append" ap2) [e] [] cp2) (tBM X.K "list" rAppend t (tCons te tNil)))
    (hs : swapsWith (.Call (.Attribute (.Call (.Attribute (.Name x px) "setdefault" ap) [k, .List [] pl] [] cp) "append" ap2) [e] [] cp2) none pos.line X.env = pure false := by rfl) :
    MS X E Mb M M (.Expr (.Call (.Attribute (.Call (.Attribute (.Name x px) "setdefault" ap) [k, .List [] pl] [] cp) "append" ap2) [e] [] cp2) pos) (tDrop (tBM X.K "list" rAppend (tDSetdT (tVar i) tk (tLst tNil)) (tCons te tNil))) (fun ρ => sdS M i ρ (mk (wipeE ρ M)) (m (wipeE ρ M))) :=
  ⟨ps_expr (hp (pe_dsetdT hu (pe_var (i := i) hi hv hd hcd) hk.pe (pe_lst pa_nil) hm) he.pe) hs, fun Ie He σ I H ρ D0 s h => by
    cases q0 : (ρ : List (Option D))[i]? with
    | none =>
      simp only [sdS, q0] at h
      exact h.elim
    | some o0 =>
    cases o0 with
    | none =>
      simp only [sdS, q0] at h
      exact h.elim
    | some d0 =>
    cases d0 with
    | dt ks ds =>
      simp only [sdS, q0] at h
      obtain ⟨a, o, h2, h3, h4, h5, h6⟩ := s.own_ i _ hM q0
      refine ⟨_, h2, a, rfl, ?_, ?_⟩
      · cases (h6.ofD hD).1 with
        | dt _ => exact .inr ⟨_, .inl h5⟩
      refine hk.sn.strong (k := fun kd => calm (tkey kd) >>= fun k => if ks.length < LIM then (m (wipeE ρ M) >>= fun d => match getK k ks ds with
        | some (.lst es) => if es.length < LIM then .ok (.nx (ρ.set i (some (.dt ks (sdGo k d ks ds))))) else .stuck
        | some _ => .stuck
        | none => .ok (.nx (ρ.set i (some (.dt (ks ++ [k]) (ds ++ [.lst [d]])))))) else .stuck) s h fun kd vk I1 H1 s1 t1 rk h => ?_
      obtain ⟨ky, hky, h⟩ := outS_calm h
      obtain ⟨hlim, hq⟩ := outS_if h
      clear h
      refine ⟨by show 0 ≤ sizeLine; exact Nat.zero_le _, fun p hp => ?_⟩
      have t2 : Stp I1 H1 I1 (upd H1 p (.lst [])) := Stp.side s1.st.e hp
      have s2 := s1.step t2
      obtain ⟨a', o', g2, g3, g4, g5, g6⟩ := s2.own_ i _ hM q0
      rw [h2] at g2
      cases g2
      obtain ⟨k1, k2, k3⟩ := g6.ofD hD
      cases rk with
      | @tup b vs es hb rvs =>
        have hky : (match keysD es with | some k => R.ok k | none => .stuck) = .ok ky := hky
        cases ek : keysD es with
        | none =>
          rw [ek] at hky
          cases hky
        | some ky2 =>
          rw [ek] at hky
          cases hky
          have hvs := keysD_v rvs ek
          subst hvs
          cases k1 with
          | @dt kvs ds kk =>
            rw [List.length_map] at hlim
            refine ⟨kvs, ky, b, g5, rfl, s2.st.e _ _ hb, lim_lt (by omega), fun v hv => ?_, fun hn => ?_⟩
            · -- it is there
              obtain ⟨q, ws, es2, rfl, f2, f3, f4, f5, f6, f7, f8⟩ := sd_found kk hv
              refine ⟨.inl ⟨rfl, ws, SqL.of f4⟩, he.sn.strong s2 hq fun d y I3 H3 s3 t3 ry h => ?_⟩
              rw [f3] at h
              obtain ⟨hl2, h⟩ := outS_if h
              obtain ⟨a3, o3, w2, w3, w4, w5, w6⟩ := s3.own_ i _ hM q0
              rw [h2] at w2
              cases w2
              have e5 := t3.h _ _ g5
              rw [w5] at e5
              cases e5
              refine ⟨q, ws, y, rfl, rfl, t3.h _ _ f4, lim_lt (by rw [f7.len]; omega), ?_⟩
              refine h _ I3 _ (s3.putKid hM hD q0 h2 w5 f2 (.dt ?_) (fun z => by cases z)) ((t1.i.trans t2.i).trans t3.i)
              refine f8 t3.i (fun c hc => ?_) (fun c oc hc => t3.h _ _ hc) k2 ry
              obtain ⟨_, q', ws', es', e1, _, c3, _⟩ := (w6.ofD hD).1.kids hc
              cases e1
              exact c3
            · -- it is not there
              have hn2 := valV_none hn
              have hpa : p ≠ a := fun z => by
                subst z
                rw [t1.h _ _ h5] at hp
                cases hp
              have hpk : V.ref p ∉ kvs.map (·.2) := fun z => by
                obtain ⟨_, q', ws', es', e1, _, _, _, c5, _⟩ := kk.at_ z
                cases e1
                obtain ⟨_, q2, ws2, es2, e2, _, _, _, c6, _⟩ := (OwnD.kids (h6.ofD hD).1 (v := .ref p) (by
                  have e9 : o = .dT kvs := by
                    have := t2.h _ _ (t1.h _ _ h5)
                    rw [g5] at this
                    cases this
                    rfl
                  rw [e9]
                  exact z))
                cases e2
                rw [t1.h _ _ c6] at hp
                cases hp
              have s3 : SE X.K (g0 X.mg) M Ie He σ I1 (upd (upd H1 p (.lst [])) a (.dT (putK kvs ky (.ref p)))) (ρ.set i (some (.dt (kvs.map (·.1) ++ [ky]) (ds ++ [.lst []])))) := by
                refine s2.putX hM q0 h2 (.mkD ⟨?_, ?_, ?_⟩ hD) (fun z => by cases z) (fun _ c hc => ?_)
                · rw [putK_new hn2]
                  have : OwnD X.K (g0 X.mg) I1 He (upd (upd H1 p (.lst [])) a (.dT (kvs ++ [(ky, .ref p)]))) (.dT (kvs ++ [(ky, V.ref p)])) (.dt ((kvs ++ [(ky, V.ref p)]).map (·.1)) (ds ++ [.lst []])) := by
                    refine .dt ?_
                    rw [List.map_append]
                    refine Kids.app (kk.keep fun c hc => upd_ne fun z => ?_) (.cons ⟨p, [], [], rfl, rfl, s1.st.e.free hp, s1.st.h.free hp, ?_, .nil⟩ .nil)
                    · subst z
                      exact k3 hc
                    · rw [upd_ne hpa, upd_same]
                  rw [List.map_append] at this
                  exact this
                · rw [putK_new hn2]
                  show ((kvs ++ [(ky, V.ref p)]).map (·.2)).Nodup
                  rw [List.map_append]
                  refine List.nodup_append.mpr ⟨k2, by simp, fun c hc c' hc' e => ?_⟩
                  rw [List.mem_singleton.mp hc'] at e
                  subst e
                  exact hpk hc
                · rw [putK_new hn2]
                  show V.ref a ∉ (kvs ++ [(ky, V.ref p)]).map (·.2)
                  rw [List.map_append]
                  intro z
                  rcases List.mem_append.mp z with z | z
                  · exact k3 z
                  · have := List.mem_singleton.mp z
                    cases this
                    exact hpa rfl
                · by_cases hcp : c = p
                  · subst hcp
                    refine .inr fun j p2 d' hj hne z g ha => ?_
                    obtain ⟨p3, o3, w2, _, _, w5, _⟩ := s1.own_ j d' hj z
                    rw [g] at w2
                    cases w2
                    exact s1.stands hj z g (ha.step w5 t2.h) hp
                  · rw [putK_new hn2] at hc
                    have hc : V.ref c ∈ (kvs ++ [(ky, V.ref p)]).map (·.2) := hc
                    rw [List.map_append] at hc
                    rcases List.mem_append.mp hc with hc | hc
                    · exact .inl (.inr ⟨hD, _, g5, hc⟩)
                    · have := List.mem_singleton.mp hc
                      cases this
                      exact absurd rfl hcp
              have hil : i < ρ.length := (List.getElem?_eq_some_iff.mp q0).1
              have q1 : (ρ.set i (some (.dt (kvs.map (·.1) ++ [ky]) (ds ++ [.lst []]))))[i]? = some (some (.dt (kvs.map (·.1) ++ [ky]) (ds ++ [.lst []]))) := List.getElem?_set_self hil
              refine ⟨.inl ⟨rfl, [], SqL.of (by rw [upd_ne hpa, upd_same])⟩, ?_⟩
              have hw : wipeE (ρ.set i (some (.dt (kvs.map (·.1) ++ [ky]) (ds ++ [.lst []])))) M = wipeE ρ M := by
                apply List.ext_getElem?
                intro j
                rw [wipeE_at, wipeE_at, List.length_set]
                by_cases hj : j ∈ M
                · rw [if_pos hj, if_pos hj]
                · rw [if_neg hj, if_neg hj, List.getElem?_set_ne (fun (z : i = j) => hj (z ▸ hM))]
              refine he.sn.strong s3 (by rw [hw]; exact hq) fun d y I3 H3 s4 t3 ry h => ?_
              rw [getK_none hn2] at h
              obtain ⟨a3, o3, w2, w3, w4, w5, w6⟩ := s4.own_ i _ hM q1
              rw [h2] at w2
              cases w2
              have e5 := t3.h _ _ (show (upd (upd H1 p (.lst [])) a (.dT (putK kvs ky (.ref p)))) a = _ from upd_same)
              rw [w5] at e5
              cases e5
              have hp5 : H3 p = some (.lst []) := t3.h _ _ (by rw [upd_ne hpa, upd_same])
              refine ⟨p, [], y, rfl, rfl, hp5, by show 0 < sizeLine; exact lim_lt (Nat.zero_le _), ?_⟩
              have hmem : V.ref p ∈ hvals (.dT (putK kvs ky (V.ref p))) := by
                rw [putK_new hn2]
                show V.ref p ∈ (kvs ++ [(ky, V.ref p)]).map (·.2)
                rw [List.map_append]
                exact List.mem_append_right _ List.mem_cons_self
              have fin := s4.putKid (ws' := [y]) (d9 := .dt (kvs.map (·.1) ++ [ky]) (ds ++ [.lst [d]])) hM hD q1 h2 w5 hmem ?_ (fun z => by cases z)
              · rw [List.set_set] at fin
                exact h _ I3 _ fin ((t1.i.trans t2.i).trans t3.i)
              · obtain ⟨w6a, w6b, w6c⟩ := w6.ofD hD
                have hv3 : valV (putK kvs ky (V.ref p)) ky = some (V.ref p) := by
                  rw [putK_new hn2]
                  simp only [valV, List.find?_append]
                  rw [show kvs.find? (fun kv => decide (kv.1 = ky)) = none from List.find?_eq_none.mpr fun kv hkv z => hn2 (List.mem_map.mpr ⟨kv, hkv, of_decide_eq_true z⟩)]
                  simp
                obtain ⟨ds3, e3, w6k⟩ := w6a.invT
                obtain ⟨_, e3b⟩ := D.dt.inj e3
                subst e3b
                obtain ⟨q, ws, es3, e4, f2, f3, f4, f5, f6, f7, f8⟩ := sd_found w6k hv3
                cases e4
                rw [hp5] at f4
                cases f4
                have fin := f8 (I' := I3) (H' := H3) (y := y) (d := d) (.refl _) (fun c hc => by
                  obtain ⟨_, q', ws', es', e1, _, c3, _⟩ := w6k.at_ hc
                  cases e1
                  exact c3) (fun _ _ h => h) w6b ry
                have hks : (putK kvs ky (V.ref p)).map (·.1) = kvs.map (·.1) ++ [ky] := by
                  rw [putK_new hn2, List.map_append]
                  rfl
                rw [hks, sdGo_new (by rw [← kk.len, List.length_map, List.length_map]) hn2] at fin
                have fin2 := OwnD.dt fin
                rw [hks] at fin2
                exact fin2
      | _ => cases hky
    | _ =>
      simp only [sdS, q0] at h
      exact h.elim⟩
end
section
variable {X : Cx} {E : XK} {Mb M : List Nat} {x : Str} {pos pos' : Pos}
/-- x = {}, its things are to be lists of one's own -/
theorem ms_newTD (i : Nat) {px : Pos} (hN : X.N.Nodup) (hi : X.N[i]? = some x := by rfl) (hx : Loc X.env.scope x := by first | exact .inl rfl | exact .inr rfl) (hM : i ∈ M := by decide) (hD : deep M i = true := by decide) (hs : swapsWith (.Dict [] [] pos') (some (.Name x px)) pos.line X.env = pure false := by rfl) (hf : X.fn x = true ∨ X.env.scope.names.lookup x = some .local := by first | exact .inl rfl | exact .inr rfl) :
    MS X E Mb M M (.Assign [.Name x px] (.Dict [] [] pos') pos) (tAsg tDNewT (gName i)) (fun ρ => .ok (.nx (ρ.set i (some (.dt [] []))))) :=
  ⟨ps_set hN hi hx pe_dnewT hs hf, fun Ie He σ I H ρ D0 s h p hp => by
    have t : Stp I H I (upd H p (.dT [])) := Stp.side s.st.e hp
    exact h _ I _ (s.ownX (d9 := .dt [] []) hM t (s.st.e.free hp) hp upd_same (.mkD ⟨OwnD.dt (kvs := []) .nil, List.nodup_nil, List.not_mem_nil⟩ hD) (fun h => by cases h) (fun _ a ha => by cases ha)) (.refl _)⟩
end
end DL
namespace DL
open PySem PySem.Spec PyProof.Rows L2

/-! ### defs of a class -/
section
variable {P : Program} {w : World} {K : PySem.W.Frag} {mg : Str → Option Value} {base : Heap} {x qual n : Str} {C : Addr} {st : Stmt} {f : Addr} {fd : FuncData} {N ps : List Str} {k : Nat} {M M' : List Nat} {ms : Env → R Fl}
theorem MtAt.mk' (F : Fun K x qual st f fd) (hC : mg n = some (.ref C)) (c : Cls K C) (hm : Meth K C x f) (b : Binds K fd ps []) (S : FnScope N ps (defScope st)) (hM : ∀ i ∈ M, ps.length ≤ i)
    (hb : ∀ (cdv : Value) (A : Around) (outer : List PySem.Env) (s : Shared) (H : Hp) (E : XK), Room k (A.deeper (PyProof.Rows.envOfC qual (defScope st) s.heap.objs.size f cdv)) →
      ∃ ts, MSs (cxOf (L2.CX P w) P w K mg base N qual (defScope st) f cdv A outer s H E) E [] M M' (defBody st) ts ms) : MtAt P w K mg base n C x (k + 1) ps.length (runX N.length ms) := ⟨f, fd, ps, hC, c, hm, fn_mirX F S hM hb, b⟩
theorem PrAt.mk' {p : Addr} (F : Fun K x qual st f fd) (hC : mg n = some (.ref C)) (c : Cls K C) (hm : PropOf K C x p f) (b : Binds K fd ps []) (S : FnScope N ps (defScope st)) (hM : ∀ i ∈ M, ps.length ≤ i) (h1 : ps.length = 1)
    (hb : ∀ (cdv : Value) (A : Around) (outer : List PySem.Env) (s : Shared) (H : Hp) (E : XK), Room k (A.deeper (PyProof.Rows.envOfC qual (defScope st) s.heap.objs.size f cdv)) →
      ∃ ts, MSs (cxOf (L2.CX P w) P w K mg base N qual (defScope st) f cdv A outer s H E) E [] M M' (defBody st) ts ms) : PrAt P w K mg base n C x (k + 1) (runX N.length ms) := ⟨p, f, fd, ps, hC, c, hm, h1 ▸ fn_mirX F S hM hb, b⟩
theorem CmAt.mk' {mc : Value} {p : Addr} (F : Fun K x qual st f fd) (hC : mg n = some (.ref C)) (r : ClX.CRead K C mc) (c : ClX.CMet K C mc x p f) (b : Binds K fd ps []) (S : FnScope N ps (defScope st)) (hM : ∀ i ∈ M, ps.length ≤ i)
    (hb : ∀ (cdv : Value) (A : Around) (outer : List PySem.Env) (s : Shared) (H : Hp) (E : XK), Room k (A.deeper (PyProof.Rows.envOfC qual (defScope st) s.heap.objs.size f cdv)) →
      ∃ ts, MSs (cxOf (L2.CX P w) P w K mg base N qual (defScope st) f cdv A outer s H E) E [] M M' (defBody st) ts ms) : CmAt P w K mg base n C x (k + 1) ps.length (runX N.length ms) := ⟨mc, p, f, fd, ps, hC, r, c, fn_mirX F S hM hb, b⟩
theorem CkAt.mk' {nn : Nat} (F : Fun K x qual st f fd) (hC : mg n = some (.ref C)) (hm : Mk K C f) (b : Binds K fd ps []) (S : FnScope N ps (defScope st)) (hp : ps.length = nn + 1) (hM : ∀ i ∈ M, i = 0 ∨ nn + 1 ≤ i) (h0 : 0 ∈ M) (hD0 : deep M 0 = false)
    (hb : ∀ (cdv : Value) (A : Around) (outer : List PySem.Env) (s : Shared) (H : Hp) (E : XK), Room k (A.deeper (PyProof.Rows.envOfC qual (defScope st) s.heap.objs.size f cdv)) →
      ∃ ts, MSs (cxOf (L2.CX P w) P w K mg base N qual (defScope st) f cdv A outer s H E) E [] M M (defBody st) ts ms) : CkAt P w K mg base n C (k + 1) nn (runI N.length n ms) := ⟨hC, f, fd, ps, hm, fn_mirI (nm := n) F S hp hM h0 hD0 hb, b⟩
theorem XcAt.mk' {fs : List Str} (F : Fun K x qual st f fd) (hC : mg n = some (.ref C)) (c : DL.ClX K C fs) (iC : PySem.W.findIn K (.ref C) "__init__" = some (some (.ref f))) (tI : PySem.W.typeIn K (.ref f) = some (.type "function")) (b : Binds K fd ps []) (S : FnScope N ps (defScope st)) (hps : ps.length = fs.length + 1) (hne : fs ≠ []) (hl : fs.length ≤ 900)
    (hb : ∀ (cdv : Value) (A : Around) (outer : List PySem.Env) (s : Shared) (H : Hp) (E : XK), PSs (cxOf CX0 P w K mg base N qual (defScope st) f cdv A outer s H E).nox (defBody st) (tX K 1 fs)) : XcAt P w K mg base n C fs := ⟨hC, c, f, fd, ps, iC, tI, fn_xi F S hps c hne hl hb, b⟩
end
/-- what is known of an exception's class -/
theorem XSub.of {K : PySem.W.Frag} {mg : Str → Option Value} {T : Str → Str → Option Bool} {B : Str → String → Option Bool} (h1 : ∀ n C, (∃ c b, T n c = some b) ∨ (∃ c b, B n c = some b) → mg n = some (.ref C) → ExcC K C ∧ (PySem.W.clsIn K C).isSome = true) (h2 : ∀ n c b C u, T n c = some b → mg n = some (.ref C) → mg c = some u → PySem.W.kitOne K (.ref C) u = some b ∧ PySem.W.exmOne K (.ref C) u = some b) (h3 : ∀ n c b C, B n c = some b → mg n = some (.ref C) → PySem.W.kitOne K (.ref C) (.type c) = some b ∧ PySem.W.exmOne K (.ref C) (.type c) = some b) : XSub K mg T B := ⟨h1, h2, h3⟩
/-- a table of triples -/
def tab {κ : Type} [DecidableEq κ] : List (Str × κ × Bool) → Str → κ → Option Bool
  | [], _, _ => none
  | (n, c, b) :: l, m, d => if m = n ∧ d = c then some b else tab l m d
theorem tab_mem {κ : Type} [DecidableEq κ] : ∀ {l : List (Str × κ × Bool)} {m : Str} {d : κ} {b : Bool}, tab l m d = some b → (m, d, b) ∈ l
  | [], _, _, _, h => by cases h
  | (n, c, b') :: l, m, d, b, h => by
    unfold tab at h
    by_cases e : m = n ∧ d = c
    · rw [if_pos e] at h
      cases h
      obtain ⟨rfl, rfl⟩ := e
      exact List.mem_cons_self
    · rw [if_neg e] at h
      exact List.mem_cons_of_mem _ (tab_mem h)
end DL
namespace DL
open PySem PySem.Spec PyProof.Rows L2
/-! ### the tables from plain facts -/
structure XcOk (K : PySem.W.Frag) (C : Addr) : Prop where
  c : ExcC K C
  ty : PySem.W.typeIn K (.ref C) = some (.type "type")
  cl : (PySem.W.clsIn K C).isSome = true
  me : PySem.W.subIn K (.ref C) (.ref C) = some true
theorem kit_own {K : PySem.W.Frag} {C C' : Addr} {b : Bool} (me : PySem.W.subIn K (.ref C) (.ref C) = some true) (ty : PySem.W.typeIn K (.ref C') = some (.type "type")) (cl : (PySem.W.clsIn K C').isSome = true) (h : PySem.W.subIn K (.ref C) (.ref C') = some b) : PySem.W.kitOne K (.ref C) (.ref C') = some b := by
  unfold PySem.W.kitOne
  by_cases e : C = C'
  · subst e
    rw [me] at h
    cases h
    rw [if_pos (by simp)]
  · rw [if_neg (by simpa using e)]
    show (if ((PySem.W.clsIn K C').isSome && PySem.W.typeIn K (.ref C') == some (.type "type")) = true then PySem.W.subIn K (.ref C) (.ref C') else none) = some b
    rw [cl, ty, if_pos (by decide)]
    exact h
theorem exm_own {K : PySem.W.Frag} {C C' : Addr} {b : Bool} (ex : PySem.W.subIn K (.ref C') (.type "BaseException") = some true) (ty : PySem.W.typeIn K (.ref C') = some (.type "type")) (cl : (PySem.W.clsIn K C').isSome = true) (h : PySem.W.subIn K (.ref C) (.ref C') = some b) : PySem.W.exmOne K (.ref C) (.ref C') = some b := by
  unfold PySem.W.exmOne
  rw [ex, if_pos (by decide)]
  show (if ((PySem.W.clsIn K C').isSome && PySem.W.typeIn K (.ref C') == some (.type "type")) = true then PySem.W.subIn K (.ref C) (.ref C') else none) = some b
  rw [cl, ty, if_pos (by decide)]
  exact h
theorem kit_bt {K : PySem.W.Frag} {C : Addr} {c : String} {b : Bool} (m : PySem.W.kitMeta c = true) (h : PySem.W.subIn K (.ref C) (.type c) = some b) : PySem.W.kitOne K (.ref C) (.type c) = some b := by
  unfold PySem.W.kitOne
  rw [if_neg (by simp)]
  show (if PySem.W.kitMeta c = true then PySem.W.subIn K (.ref C) (.type c) else none) = some b
  rw [if_pos m]
  exact h
theorem exm_bt {K : PySem.W.Frag} {C : Addr} {c : String} {b : Bool} (ex : PySem.W.subIn K (.type c) (.type "BaseException") = some true) (m : PySem.W.kitMeta c = true) (h : PySem.W.subIn K (.ref C) (.type c) = some b) : PySem.W.exmOne K (.ref C) (.type c) = some b := by
  unfold PySem.W.exmOne
  rw [ex, if_pos (by decide)]
  show (if PySem.W.kitMeta c = true then PySem.W.subIn K (.ref C) (.type c) else none) = some b
  rw [if_pos m]
  exact h
/-- one row of the table of exceptions' classes: n is below c, or not -/
def XRow (K : PySem.W.Frag) (mg : Str → Option Value) (p : Str × Str × Bool) : Prop := ∃ C C', mg p.1 = some (.ref C) ∧ mg p.2.1 = some (.ref C') ∧ XcOk K C ∧ PySem.W.subIn K (.ref C') (.type "BaseException") = some true ∧ PySem.W.typeIn K (.ref C') = some (.type "type") ∧ (PySem.W.clsIn K C').isSome = true ∧ PySem.W.subIn K (.ref C) (.ref C') = some p.2.2
def BRow (K : PySem.W.Frag) (mg : Str → Option Value) (p : Str × String × Bool) : Prop := ∃ C, mg p.1 = some (.ref C) ∧ XcOk K C ∧ PySem.W.kitMeta p.2.1 = true ∧ PySem.W.subIn K (.type p.2.1) (.type "BaseException") = some true ∧ PySem.W.subIn K (.ref C) (.type p.2.1) = some p.2.2
theorem XSub.rows {K : PySem.W.Frag} {mg : Str → Option Value} {l : List (Str × Str × Bool)} {m : List (Str × String × Bool)} (h1 : ∀ p ∈ l, XRow K mg p) (h2 : ∀ p ∈ m, BRow K mg p) : XSub K mg (tab l) (tab m) where
  cl := fun n C h hn => by
    rcases h with ⟨c, b, h⟩ | ⟨c, b, h⟩
    · obtain ⟨C0, C', e1, _, k, _⟩ := h1 _ (tab_mem h)
      cases e1.symm.trans hn
      exact ⟨k.c, k.cl⟩
    · obtain ⟨C0, e1, k, _⟩ := h2 _ (tab_mem h)
      cases e1.symm.trans hn
      exact ⟨k.c, k.cl⟩
  own := fun n c b C u h hn hc => by
    obtain ⟨C0, C', e1, e2, k, k1, k2, k3, k4⟩ := h1 _ (tab_mem h)
    cases e1.symm.trans hn
    cases e2.symm.trans hc
    exact ⟨kit_own k.me k2 k3 k4, exm_own k1 k2 k3 k4⟩
  bt := fun n c b C h hn => by
    obtain ⟨C0, e1, k, k1, k2, k3⟩ := h2 _ (tab_mem h)
    cases e1.symm.trans hn
    exact ⟨kit_bt k1 k3, exm_bt k2 k1 k3⟩
def ORow (K : PySem.W.Frag) (mg : Str → Option Value) (p : Str × Str × Bool) : Prop := ∃ C C', mg p.1 = some (.ref C) ∧ mg p.2.1 = some (.ref C') ∧ OcOk K C ∧ PySem.W.subIn K (.ref C) (.ref C) = some true ∧ PySem.W.typeIn K (.ref C') = some (.type "type") ∧ (PySem.W.clsIn K C').isSome = true ∧ PySem.W.subIn K (.ref C) (.ref C') = some p.2.2
def PRow (K : PySem.W.Frag) (mg : Str → Option Value) (p : Str × String × Bool) : Prop := ∃ C, mg p.1 = some (.ref C) ∧ OcOk K C ∧ PySem.W.kitMeta p.2.1 = true ∧ PySem.W.subIn K (.ref C) (.type p.2.1) = some p.2.2
theorem OSub.rows {K : PySem.W.Frag} {mg : Str → Option Value} {l : List (Str × Str × Bool)} {m : List (Str × String × Bool)} (h1 : ∀ p ∈ l, ORow K mg p) (h2 : ∀ p ∈ m, PRow K mg p) : OSub K mg (tab l) (tab m) (fun _ _ => none) where
  cl := fun n C h hn => by
    rcases h with ⟨c, b, h⟩ | ⟨c, b, h⟩
    · obtain ⟨C0, C', e1, _, k, _⟩ := h1 _ (tab_mem h)
      cases e1.symm.trans hn
      exact k
    · obtain ⟨C0, e1, k, _⟩ := h2 _ (tab_mem h)
      cases e1.symm.trans hn
      exact k
  own := fun n c b C u h hn hc => by
    obtain ⟨C0, C', e1, e2, k, k1, k2, k3, k4⟩ := h1 _ (tab_mem h)
    cases e1.symm.trans hn
    cases e2.symm.trans hc
    exact kit_own k1 k2 k3 k4
  bt := fun n c b C h hn => by
    obtain ⟨C0, e1, k, k1, k3⟩ := h2 _ (tab_mem h)
    cases e1.symm.trans hn
    exact kit_bt k1 k3
  bo := fun _ _ _ _ h _ => by cases h
end DL
namespace DL
open PySem PySem.Spec PyProof.Rows L2
theorem ClF.nil {K : PySem.W.Frag} {mg : Str → Option Value} {f : Str} : ClF K (g0 mg) [] f := fun _ h => absurd h List.not_mem_nil
theorem ClF.cons {K : PySem.W.Frag} {mg : Str → Option Value} {f n : Str} {ns : List Str} {C : Addr} (h : mg n = some (.ref C)) (c : Cls K C) (a : NoAttr K C f) (r : ClF K (g0 mg) ns f) : ClF K (g0 mg) (n :: ns) f := fun m hm C' hC => by
  rcases List.mem_cons.mp hm with e | hm
  · subst e
    have hC : mg m = some (.ref C') := hC
    cases h.symm.trans hC
    exact ⟨c, a⟩
  · exact r m hm C' hC
theorem XcF.nil {K : PySem.W.Frag} {mg : Str → Option Value} {f : Str} : XcF K mg [] f := fun _ h => absurd h List.not_mem_nil
theorem XcF.cons {K : PySem.W.Frag} {mg : Str → Option Value} {f n : Str} {ns : List Str} {C : Addr} (h : mg n = some (.ref C)) (c : XfC K C) (a : PySem.W.findIn K (.ref C) f = some none) (r : XcF K mg ns f) : XcF K mg (n :: ns) f := fun m hm C' hC => by
  rcases List.mem_cons.mp hm with e | hm
  · subst e
    cases h.symm.trans hC
    exact ⟨c, a⟩
  · exact r m hm C' hC
theorem all_nil {α : Type} {p : α → Prop} : ∀ x ∈ ([] : List α), p x := fun _ h => absurd h List.not_mem_nil
theorem all_cons {α : Type} {p : α → Prop} {a : α} {l : List α} (h : p a) (r : ∀ x ∈ l, p x) : ∀ x ∈ a :: l, p x := List.forall_mem_cons.mpr ⟨h, r⟩
def clsB : Stmt → List Stmt
  | .ClassDef (body := b) .. => b
  | _ => []
/-- the j-th def of a class -/
def inC (s : Stmt) (j : Nat) : Stmt := (clsB s).getD j (.Pass ⟨0, 0, 0, 0⟩)
end DL
namespace DL
open PySem PySem.Spec PyProof.Rows L2
theorem mt_truK {X : Cx} {E : Wh} {e : Expr} {t : TE} {m : Env → R D} (K : PySem.W.Frag) (h : ME X E e t m) (he : ∀ whole, isTrue e X.env whole = (do let v ← whole; standAt e.pos; holding [v] (truthy v)) := by intro _; rfl) (hK : X.K = K := by rfl) : MT X E e (fun σ H Q => t σ H fun x H' => ∃ k, TruV K x H' k ∧ Q k H') (fun ρ => tru (m ρ)) := by
  subst hK
  exact mt_truth h he
end DL
namespace PySem
open Sem (wp)
set_option maxHeartbeats 1000000 in
theorem dl_meets_enumerate_newB {v : Value} {o : Obj} {H : Heap → Prop} (B : Begins v o H) :
    Meets (Builtin.«enumerate.__new__» ⟨[.type "enumerate", v], []⟩) (fun _ R s => H s.heap ∧
      R (.ok (.ret (.ref (s.heap.push o).objs.size))) { s with heap := (s.heap.push o).push { cls := .type "enumerate", data := .fields #[.none, .bool false, .ref s.heap.objs.size, rawInt 0, .none, .none] } }) :=
  .of_wp fun prog w A R s h => by
    obtain ⟨hp, g, d, tk, os⟩ := s; obtain ⟨h1, h⟩ := h
    have hsub := sub_enumerate
    have q1 : ∀ {A' : Around} {E : Value → Shared → Prop} {Q : Value → Shared → Prop}, Q (.ref hp.objs.size) ⟨hp.push o, g, d, tk, os⟩ → wpAny (model prog w) A' (pyIter v) Q E ⟨hp, g, d, tk, os⟩ :=
      fun q => B.iter prog w _ _ ⟨hp, g, d, tk, os⟩ _ h1 q
    wp_walk using q1
    refine wpAny_stack_any fun st => wpAny_pure ?_
    split
    · rename_i c _ _ _ _ _
      cases (c == Value.type "enumerate")
      · wp_walk using q1
        exact ⟨_, rfl, h⟩
      · wp_walk using q1
        exact ⟨_, rfl, h⟩
    · wp_walk using q1
      exact ⟨_, rfl, h⟩
theorem dl_call_enumerate {prog : Program} {w : World} {A : Around} {E : Value → Shared → Prop} {s : Shared} {v : Value} {o : Obj} {H : Heap → Prop} {Q : Value → Shared → Prop} (B : Begins v o H) (h1 : H s.heap)
    (h : ∀ h', IsEnum h' (s.heap.objs.size + 1) s.heap.objs.size 0 .none → h'.get? s.heap.objs.size = some o → h'.objs.size = s.heap.objs.size + 2 →
      (∀ b o, s.heap.get? b = some o → h'.get? b = some o) → Q (.ref (s.heap.objs.size + 1)) { s with heap := h' }) :
    wpAny (model prog w) A (call (.type "enumerate") [v]) Q E s := by
  refine callType_new F.called_enumerate (by decide) (F.typeCall_enumerate_1 _) (F.newCall_enumerate_1 _) (fun obj => F.args_object_init_2 obj _) F.entry_enumerate_new
    (dl_meets_enumerate_newB B) ⟨h1, ?_⟩
  have hz : (s.heap.push o).objs.size = s.heap.objs.size + 1 := Heap.size_push ..
  show _ ∧ _
  rw [hz]
  have he : IsEnum ((s.heap.push o).push { cls := .type "enumerate", data := .fields #[.none, .bool false, .ref s.heap.objs.size, rawInt 0, .none, .none] }) (s.heap.objs.size + 1) s.heap.objs.size 0 .none := by
    have := Heap.get?_push_size (s.heap.push o) (o := { cls := .type "enumerate", data := .fields #[.none, .bool false, .ref s.heap.objs.size, rawInt 0, .none, .none] }) rfl
    rw [hz] at this; exact this
  refine ⟨⟨_, he, rfl⟩, h _ he (Heap.get?_push_of_some _ (Heap.get?_push_size _ B.free)) (by rw [Heap.size_push, hz]) fun b o x => Heap.get?_push_of_some _ (Heap.get?_push_of_some _ x)⟩
theorem dl_enum_endT {prog : Program} {w : World} {A : Around} {E : Value → Shared → Prop} {s : Shared} {e it t : Addr} {items : Array Value} {i : Nat} {k : Int} {old : Value} {Q : Option Value → Shared → Prop}
    (hh : A.in1.handled = none) (he : IsEnum s.heap e it k old) (hit : s.heap.IsTupleIter it t i) (ht : s.heap.IsTuple t items) (hx : items[i]? = none)
    (hQ : ∀ h', Heap.ExtBut it s.heap h' → Q none { s with heap := h' }) : wpAny (model prog w) A (pyNext (.ref e)) Q E s := by
  have hT : s.TypeIs (.ref e) "enumerate" := ⟨_, he, rfl⟩
  unfold pyNext
  refine wpAny_bind (wpAny_attempt (wpAny_callSpecial?_slot (name := Str.ofString "__next__") hT F.slot_enumerate_next
    (wpAny_call_entry F.slot_enumerate_next hT F.entry_enumerate_next ?_ (F.args_enumerate_next_1 _))))
  show wpAny _ _ (field (.ref e) 2 >>= _) _ _ _
  refine wpAny_bind (wpAny_field he rfl (x := .ref it) rfl ?_)
  refine wpAny_bind (wpAny_nextOf_tuple_end hh hit ht hx fun h' x he' hx' => ?_)
  obtain ⟨o, ho, hc⟩ := hx'
  refine wpAny_bind (wpAny_isInstance (T := "StopIteration") (b := true) ⟨o, ho, hc⟩ isSubtype_stop ?_)
  exact wpAny_pure (hQ _ he')
end PySem
namespace DL
open PySem PySem.Spec PyProof.Rows L2
/-- the tuple at a, each item in a new pair -/
def IteT (K : PySem.W.Frag) (a : Addr) : It :=
  ⟨fun i H => ∃ (xs : List V) (x : V), SqT K H a xs ∧ xs[i]? = some x, fun i H v H' => ∃ T x, v = .ref T ∧ H T = none ∧ H' = upd H T (.tup [.int (i : Nat), x]) ∧ ∀ xs, SqT K H a xs → xs[i]? = some x, fun i H => ∃ xs : List V, SqT K H a xs ∧ xs.length ≤ i⟩
theorem turn_enumT {P : Program} {w : World} {K : PySem.W.Frag} {elts : List Expr} {kk : Nat} {tpos : Pos} (a e it : Addr) :
    Turn P w K (.Tuple elts kk tpos) (IteT K a) [e, it] e (fun i h => (∃ old, IsEnum h e it ((i : Nat) : Int) old) ∧ h.IsTupleIter it a i ∧ e ≠ it) where
  mem := by simp
  obj := fun i h st b hb => by
    obtain ⟨⟨old, he⟩, ⟨o, ho, hc, hd⟩, _⟩ := st
    have e' : b = e ∨ b = it := by simpa using hb
    rcases e' with z | z
    · rw [z]; exact ⟨_, he, fun v q => nomatch q⟩
    · rw [z]; exact ⟨o, ho, fun v q => by rw [hd] at q; cases q⟩
  keep := fun i h h' st k => let ⟨⟨old, he⟩, hi, hne⟩ := st; ⟨⟨old, k e (by simp) _ he⟩, hi.at fun o q => k it (by simp) o q, hne⟩
  item := by
    intro X hP hw hK hc i pins s σ H E I hf st hg
    subst hP hw hK
    obtain ⟨⟨old, he⟩, hit, hne⟩ := st
    obtain ⟨xs, x, hq, hx⟩ := hg
    obtain ⟨its, rv, p, hz⟩ := I.tuple hq
    obtain ⟨u, hu, ru⟩ := rv.get hx
    have hel : e < s.heap.objs.size := Heap.lt_size he
    have hil : it < s.heap.objs.size := by obtain ⟨_, q, _⟩ := hit; exact Heap.lt_size q
    have hea : e ≠ a := fun z => by
      obtain ⟨o, ho, hcl, _⟩ := p
      rw [← z] at ho
      cases he.symm.trans ho
      injection hcl with z
      exact absurd z (by decide)
    have hta : a ≠ it := fun z => by
      obtain ⟨o, ho, hcl, _⟩ := p
      obtain ⟨o', ho', hcl', _⟩ := hit
      rw [z] at ho
      cases ho.symm.trans ho'
      rw [hcl] at hcl'
      injection hcl' with z
      exact absurd z (by decide)
    have hlt : i < its.toArray.size := by
      have := (List.getElem?_eq_some_iff.mp hu).1
      simpa using this
    refine wpAny_pyNext_enum_itemD (Draws.tuple (A := X.A.in1) (I.ok.hd hc) it a hta its.toArray) he ⟨hit, p⟩ hlt hne (by simp [hne, hea]) fun x' h' tk hP ho hit' hT hsz hk => ?_
    have hxu : x' = u := by
      have hP : its.toArray[i]? = some x' := hP
      rw [List.getElem?_toArray, hu] at hP
      exact (Option.some.inj hP).symm
    subst hxu
    refine ⟨_, rfl, wpAny_letOwnedTupleGo_enum (s := { s with heap := h', toks := tk + 1 }) ho fun h'' he' sb => ?_⟩
    have hT2 : h''.get? s.heap.objs.size = some { cls := .type "tuple", data := .seq #[.int i tk, x'] } := (sb.2 _ (Nat.ne_of_gt hel)).trans hT
    have new : ObjOk X.prog X.w (upd H s.heap.objs.size (.tup [.int (i : Nat), x])) h'' s.heap.objs.size (.tup [.int (i : Nat), x]) :=
      ⟨by show 2 ≤ sizeLine; decide, [.int i tk, x'], .cons ⟨_, rfl⟩ (.cons ru .nil), ⟨_, hT2, rfl, _, rfl⟩⟩
    have I1 : Inv X pins σ (upd H s.heap.objs.size (.tup [.int (i : Nat), x])) { s with heap := h'', toks := tk + 1 } :=
      I.turnedNew (ch := [e, it]) (fun b ob hb q => (sb.2 b (fun z => hb (by simp [z]))).trans (hk b ob (fun z => hb (by simp [z])) (fun z => hb (by simp [z])) q)) hf (Nat.le_refl _) new
    refine ⟨.ref s.heap.objs.size, _, I1, rfl, ⟨_, x, rfl, I.hok.fresh (Nat.le_refl _), rfl, fun ys hy => by rw [I.tuple_inj hy hq]; exact hx⟩, ⟨⟨x', ?_⟩, hit'.1.at fun o q => (sb.2 it (Ne.symm hne)).trans q, hne⟩, fun b hb => ?_⟩
    · have e1 : ((i + 1 : Nat) : Int) = (i : Int) + 1 := by omega
      rw [e1]; exact he'
    · have hb' : b < s.heap.objs.size := by
        have e' : b = e ∨ b = it := by simpa using hb
        rcases e' with z | z
        · rw [z]; exact hel
        · rw [z]; exact hil
      rw [upd_ne (Nat.ne_of_lt hb')]
      exact (hf b hb).1
  done := by
    intro X hP hw hK hc i pins s σ H E I hf st hg
    subst hP hw hK
    obtain ⟨⟨old, he⟩, hit, hne⟩ := st
    obtain ⟨xs, hq, hx⟩ := hg
    obtain ⟨its, rv, p, hz⟩ := I.tuple hq
    obtain ⟨f0, f1, f2, f3, f4, f5⟩ := hf it (by simp)
    have hl := rv.length
    have hta : a ≠ it := fun z => by
      obtain ⟨o, ho, hcl, _⟩ := p
      obtain ⟨o', ho', hcl', _⟩ := hit
      rw [z] at ho
      cases ho.symm.trans ho'
      rw [hcl] at hcl'
      injection hcl' with z
      exact absurd z (by decide)
    exact dl_enum_endT (I.ok.hd hc) he hit p (by simp; omega) fun h' eb => ⟨rfl, I.turned (t' := s.toks) (fun b o hb q => eb b o hb q) f0 f1 f3 f4 f5⟩
  self := fun A i s Q E st h => let ⟨⟨_, he⟩, _⟩ := st; wpAny_pyIter_enum he h
def iEnumT (K : PySem.W.Frag) (ta : TA) : TI := fun σ H R => ta σ H fun vs H1 => ∃ a xs, vs = [.ref a] ∧ SqT K H1 a xs ∧ R (IteT K a) H1
theorem pi_enumT {X : Cx} {e : Expr} {ta : TA} {p pos tpos : Pos} {elts : List Expr} {kk : Nat} (hg : Gl X "enumerate") (hm : X.mg "enumerate" = none) (ha : PA X [e] ta) (hs : starEach [e] X.env = [(false, eval e X.env)] := by rfl) :
    PI X (.Tuple elts kk tpos) (.Call (.Name "enumerate" p) [e] [] pos) (iEnumT X.K ta) := by
  refine ⟨fun pins s σ H R I h => ?_⟩
  refine Call_ (ld_blt I hg hm boot_enumerate (PyProof.Rows.callWith_type1 (thn (ha.run pos pins s σ H _ I h) fun us s1 ⟨vs, H1, I1, r1, q1⟩ => ?_) hs rfl))
  obtain ⟨a, xs, ex, hq, q⟩ := q1
  subst ex
  cases r1 with
  | cons r rr =>
    cases rr
    cases r
    obtain ⟨its, rv, p', hz⟩ := I1.tuple hq
    refine dl_call_enumerate (begins_tuple a its.toArray) p' fun h' he hit hsz hk => wpAny_pyIter_enum he ?_
    have I2 : L2.Inv X pins σ H1 { s1 with heap := h' } := I1.kept (t' := s1.toks) hk
    refine ⟨s1.heap.objs.size + 1, [s1.heap.objs.size + 1, s1.heap.objs.size], _, _, H1, rfl, I2, turn_enumT a (s1.heap.objs.size + 1) s1.heap.objs.size, ⟨⟨.none, he⟩, ⟨_, hit, rfl, rfl⟩, Nat.succ_ne_self _⟩, fun b hb => ?_, q⟩
    have e' : b = s1.heap.objs.size + 1 ∨ b = s1.heap.objs.size := by simpa using hb
    have hle : s1.heap.objs.size ≤ b := by
      rcases e' with z | z
      · rw [z]; exact Nat.le_add_right _ _
      · rw [z]; exact Nat.le_refl _
    exact I1.fpOk hle (I1.hok.fresh hle)
section
variable {X : Cx} {E : Wh} {K : PySem.W.Frag} {mg : Gm} {I I' H H' : Hp} {σ : L2.St} {ρ : Env} {a b c e tg : Expr} {es : List Expr} {pos p tpos : Pos} {m : Env → R D} {ms : Env → R (List D)} {t : TE} {tas : TA}
theorem it_enumT {a : Addr} {vs : List V} {ds : List D} (h : SqT K I a vs) (r : Reps K mg I vs ds) : ItOk K mg I (IteT K a) (enumD 0 ds) := fun I1 H e1 e2 => ⟨fun i d hd => by
    obtain ⟨d', hd', rfl⟩ := enumD_get 0 ds i hd
    obtain ⟨v, hv, rv⟩ := r.get hd'
    refine ⟨⟨vs, v, same_t (e1.trans e2) h, hv⟩, fun x H' y => ?_⟩
    obtain ⟨T, x', rfl, hn, rfl, hx⟩ := y
    have e := hx vs (same_t (e1.trans e2) h)
    rw [hv] at e
    cases e
    refine ⟨_, .new e2 hn, ?_⟩
    rw [Nat.zero_add]
    exact new_tup e2 hn (.cons (.int _) (.cons (rv.mono e1) .nil)), ⟨vs, same_t (e1.trans e2) h, by rw [enumD_len]; exact Nat.le_of_eq r.len⟩⟩
def enumA : List D → R (List D)
  | [.lst ds] => .ok (enumD 0 ds)
  | [.scr ns] => .ok (enumD 0 (ns.map D.int))
  | [.tup ds] => .ok (enumD 0 ds)
  | _ => .stuck
theorem mi_enumA (K : PySem.W.Frag) {elts : List Expr} {kk : Nat} (hg : Gl X "enumerate") (hm : X.mg "enumerate" = none) (ha : MA X E [e] tas ms) (hs : starEach [e] X.env = [(false, eval e X.env)] := by rfl) (hK : X.K = K := by rfl) :
    MI X E (.Tuple elts kk tpos) (.Call (.Name "enumerate" p) [e] [] pos) (fun σ H Rr => iEnum K tas σ H Rr ∨ iEnumT K tas σ H Rr) (fun ρ => dsp enumA (ms ρ)) := by
  subst hK
  obtain ⟨pt, st⟩ := ha
  refine ⟨PI.or (pi_enum hg hm pt hs) (pi_enumT hg hm pt hs), fun σ I H ρ Q re ex h => ?_⟩
  have h : Out X.K (gm X E) (E.e σ) (ItOk X.K (gm X E)) I H (ms ρ >>= enumA) Q := h
  have go1 : (∀ ds, ms ρ = .ok ds → ∀ es, ds ≠ [.tup es]) → iEnum X.K tas σ H Q := fun hd => by
    refine st.run re ex h fun ds vs I1 H1 e s1 rs h => ?_
    unfold enumA at h
    split at h
    · obtain ⟨v, rfl, r⟩ := reps1 rs
      cases r with
      | lst hh ra => exact ⟨_, _, rfl, SqL.of (s1.e _ _ hh), h.here s1.e (it_enum (SqL.of hh) ra)⟩
    · obtain ⟨v, rfl, r⟩ := reps1 rs
      cases r with
      | scr hh => exact ⟨_, _, rfl, s1.e.seq hh, h.here s1.e (it_enum hh .ints)⟩
    · exact absurd rfl (hd _ e _)
    · exact h.elim
  by_cases hd : ∃ es, ms ρ = .ok [.tup es]
  · obtain ⟨es, hd⟩ := hd
    refine .inr ?_
    refine st.run re ex h fun ds vs I1 H1 e s1 rs h => ?_
    rw [hd] at e
    cases e
    obtain ⟨v, rfl, r⟩ := reps1 rs
    cases r with
    | tup hh ra => exact ⟨_, _, rfl, SqT.of (s1.e _ _ hh), h.here s1.e (it_enumT (SqT.of hh) ra)⟩
  · exact .inl (go1 fun ds e es z => hd ⟨es, by rw [e, z]⟩)
end
end DL
namespace DL
open PySem PySem.Spec PyProof.Rows L2

/-! ### sorted of rows of ints -/
def lexL : List Int → List Int → Bool
  | [], [] => false
  | [], _ :: _ => true
  | _ :: _, [] => false
  | x :: xs, y :: ys => if x = y then lexL xs ys else decide (x < y)
def lexF (fin : Bool) : List Int → List Int → Bool
  | x :: xs, y :: ys => if x = y then lexF fin xs ys else decide (x < y)
  | _, _ => fin
theorem lexF_len : ∀ xs ys : List Int, lexF (decide (xs.length < ys.length)) xs ys = lexL xs ys
  | [], [] => rfl
  | [], _ :: _ => by simp [lexF, lexL]
  | _ :: _, [] => by simp [lexF, lexL]
  | x :: xs, y :: ys => by
    unfold lexF lexL
    rw [show decide ((x :: xs).length < (y :: ys).length) = decide (xs.length < ys.length) from by simp, lexF_len xs ys]
theorem lexL_irr : ∀ xs : List Int, lexL xs xs = false
  | [] => rfl
  | x :: xs => by
    unfold lexL
    rw [if_pos rfl]
    exact lexL_irr xs
theorem lexL_asym : ∀ xs ys : List Int, lexL xs ys = true → lexL ys xs = false
  | [], [], h => by cases h
  | [], _ :: _, _ => rfl
  | _ :: _, [], h => by cases h
  | x :: xs, y :: ys, h => by
    unfold lexL at h ⊢
    by_cases e : x = y
    · rw [if_pos e] at h
      rw [if_pos e.symm]
      exact lexL_asym xs ys h
    · rw [if_neg e] at h
      rw [if_neg (Ne.symm e)]
      have := of_decide_eq_true h
      exact decide_eq_false (by omega)
theorem lexL_tr : ∀ xs ys zs : List Int, lexL ys xs = false → lexL zs ys = false → lexL zs xs = false
  | [], [], zs, _, h => h
  | [], _ :: _, [], _, h => by cases h
  | [], _ :: _, _ :: _, _, _ => rfl
  | _ :: _, [], _, h, _ => by cases h
  | _ :: _, _ :: _, [], _, h => by cases h
  | x :: xs, y :: ys, z :: zs, h1, h2 => by
    unfold lexL at h1 h2 ⊢
    by_cases e1 : y = x
    · rw [if_pos e1] at h1
      by_cases e2 : z = y
      · rw [if_pos e2] at h2
        rw [if_pos (e2.trans e1)]
        exact lexL_tr xs ys zs h1 h2
      · rw [if_neg e2] at h2
        have := of_decide_eq_false h2
        rw [if_neg (by omega)]
        exact decide_eq_false (by omega)
    · rw [if_neg e1] at h1
      have h1 := of_decide_eq_false h1
      by_cases e2 : z = y
      · rw [if_neg (by omega)]
        exact decide_eq_false (by omega)
      · rw [if_neg e2] at h2
        have h2 := of_decide_eq_false h2
        rw [if_neg (by omega)]
        exact decide_eq_false (by omega)
theorem lexL_eq : ∀ xs ys : List Int, lexL xs ys = false → lexL ys xs = false → xs = ys
  | [], [], _, _ => rfl
  | [], _ :: _, h, _ => by cases h
  | _ :: _, [], _, h => by cases h
  | x :: xs, y :: ys, h1, h2 => by
    unfold lexL at h1 h2
    by_cases e : x = y
    · subst e
      rw [if_pos rfl] at h1 h2
      rw [lexL_eq xs ys h1 h2]
    · rw [if_neg e] at h1
      rw [if_neg (Ne.symm e)] at h2
      have h1 := of_decide_eq_false h1
      have h2 := of_decide_eq_false h2
      omega
def insR (x : List Int) : List (List Int) → List (List Int)
  | [] => [x]
  | y :: ys => if lexL y x = true then y :: insR x ys else x :: y :: ys
def sortR : List (List Int) → List (List Int)
  | [] => []
  | x :: xs => insR x (sortR xs)
theorem insR_perm (x : List Int) : ∀ ys : List (List Int), (insR x ys).Perm (x :: ys)
  | [] => .refl _
  | y :: ys => by
    unfold insR
    split
    · exact (List.Perm.cons y (insR_perm x ys)).trans (List.Perm.swap x y ys)
    · exact .refl _
theorem sortR_perm : ∀ xs : List (List Int), (sortR xs).Perm xs
  | [] => .refl _
  | x :: xs => (insR_perm x _).trans ((sortR_perm xs).cons x)
theorem insR_srt (x : List Int) : ∀ ys : List (List Int), ys.Pairwise (fun a b => lexL b a = false) → (insR x ys).Pairwise (fun a b => lexL b a = false)
  | [], _ => List.pairwise_singleton _ _
  | y :: ys, h => by
    obtain ⟨h1, h2⟩ := List.pairwise_cons.mp h
    unfold insR
    split
    · rename_i e
      refine List.pairwise_cons.mpr ⟨fun z hz => ?_, insR_srt x ys h2⟩
      rcases List.mem_cons.mp ((insR_perm x ys).mem_iff.mp hz) with rfl | hz
      · exact lexL_asym _ _ e
      · exact h1 z hz
    · rename_i e
      have e : lexL y x = false := by simpa using e
      refine List.pairwise_cons.mpr ⟨fun z hz => ?_, h⟩
      rcases List.mem_cons.mp hz with rfl | hz
      · exact e
      · exact lexL_tr _ _ _ e (h1 z hz)
theorem sortR_srt : ∀ xs : List (List Int), (sortR xs).Pairwise (fun a b => lexL b a = false)
  | [] => .nil
  | x :: xs => insR_srt x _ (sortR_srt xs)
theorem srtR_uniq : ∀ {xs ys : List (List Int)}, xs.Perm ys → xs.Pairwise (fun a b => lexL b a = false) → ys.Pairwise (fun a b => lexL b a = false) → xs = ys
  | [], ys, p, _, _ => (List.Perm.nil_eq p)
  | x :: xs, [], p, _, _ => (List.Perm.eq_nil p)
  | x :: xs, y :: ys, p, hx, hy => by
    have e : x = y := by
      have h1 : x ∈ y :: ys := p.mem_iff.mp List.mem_cons_self
      have h2 : y ∈ x :: xs := p.mem_iff.mpr List.mem_cons_self
      rcases List.mem_cons.mp h1 with e | h1
      · exact e
      · rcases List.mem_cons.mp h2 with e | h2
        · exact e.symm
        · exact lexL_eq _ _ ((List.pairwise_cons.mp hy).1 x h1) ((List.pairwise_cons.mp hx).1 y h2)
    subst e
    rw [srtR_uniq (List.perm_cons x |>.mp p) (List.pairwise_cons.mp hx).2 (List.pairwise_cons.mp hy).2]

/-- v is a tuple of the ints ns -/
def IsRow (h : Heap) (v : Value) (ns : List Int) : Prop := ∃ a o vs n, v = .ref a ∧ h.get? a = some o ∧ o.cls = .type "tuple" ∧ o.data = .seq (List.toArray vs) n ∧ IntsAre vs ns
theorem IsRow.keeps {h h' : Heap} {v : Value} {ns : List Int} (p : IsRow h v ns) (k : ∀ b o, h.get? b = some o → o.cls = .type "tuple" → h'.get? b = some o) : IsRow h' v ns := by
  obtain ⟨a, o, vs, n, e, ho, hc, hd, hi⟩ := p
  exact ⟨a, o, vs, n, e, k _ _ ho hc, hc, hd, hi⟩
section
variable {prog : Program} {w : World} {A : Around} {s : Shared}
theorem kat_row {fin : Bool} : ∀ {vs us : List Value} {ns ms : List Int} (i : Nat), IntsAre vs ns → IntsAre us ms → PySem.W.KatLex prog w A true fin (fun r s' => s' = s ∧ r = lexF fin ns ms) (vs.zip us) i s
  | _, _, _, _, i, .nil, .nil => PySem.W.kat_nil ⟨rfl, rfl⟩
  | _, _, _, _, i, .nil, .cons _ _ _ => PySem.W.kat_nil ⟨rfl, rfl⟩
  | _, _, _, _, i, .cons _ _ _, .nil => PySem.W.kat_nil ⟨rfl, rfl⟩
  | _, _, _, _, i, .cons (vs := vs) (ns := ns) x t h1, .cons (vs := us) (ns := ms) y u h2 => by
    show PySem.W.KatLex prog w A true fin (fun r s' => s' = s ∧ r = lexF fin (x :: ns) (y :: ms)) ((.int x t, .int y u) :: vs.zip us) i s
    refine PySem.W.kat_cons (SeqAt.EqAt.int_int x t y u prog w _ _ ?_)
    unfold lexF
    refine PySem.W.kat_go (fun e => ?_) (fun e => ?_)
    · have ex : x = y := by simpa using e
      refine PySem.W.kat_yes ?_
      rw [if_pos ex]
      exact kat_row (i + 1) h1 h2
    · have ex : ¬ x = y := by simpa using e
      refine PySem.W.kat_no ?_
      rw [if_neg ex]
      cases hb : (true && i == 0) with
      | true => exact oneLt_int ⟨rfl, rfl⟩
      | false => exact PySem.W.kat_one _ _ (PyProof.Rows.lt_int ⟨rfl, rfl⟩)
theorem row_cmp {vs : List Value} {k : Value → List Int} (hp : ∀ v ∈ vs, IsRow s.heap v (k v)) : SrtO.Cmp prog w A s (tuples' true) (fun p => p.1 ∈ vs) (SrtO.lt2 fun v u => lexL (k v) (k u)) := by
  intro p q hm hm'
  obtain ⟨a, o, us, n, e, ho, hc, hd, hi⟩ := hp _ hm
  obtain ⟨a', o', us', n', e', ho', hc', hd', hi'⟩ := hp _ hm'
  show wpAny (model prog w) A (keyLt' (tuples' true) p.1 q.1) (fun r s' => s' = s ∧ r = lexL (k p.1) (k q.1)) (fun _ _ => False) s
  rw [← lexF_len]
  generalize k p.1 = ns at hi ⊢
  generalize k q.1 = ms at hi' ⊢
  rw [e, e']
  refine PySem.W.kat_lt ho hd ho' hd' ?_
  have l1 := hi.length
  have l2 := hi'.length
  rw [show decide ((List.toArray us).size < (List.toArray us').size) = decide (ns.length < ms.length) from by simp [l1, l2]]
  exact kat_row 0 hi hi'
theorem row_firsts {h : Heap} : ∀ {vs : List Value}, (∀ v ∈ vs, ∃ ns, ns ≠ [] ∧ IsRow h v ns) → ∃ fs : List Value, PySem.W.KatTups h vs fs ∧ fs.length = vs.length ∧ ∀ f ∈ fs, ∃ x t, f = Value.int x t
  | [], _ => ⟨[], PySem.W.KatTups.nil, rfl, fun _ hm => by simp at hm⟩
  | v :: vs, hp => by
    obtain ⟨fs, h1, h2, h3⟩ := row_firsts (vs := vs) fun v' hm => hp v' (List.mem_cons_of_mem _ hm)
    obtain ⟨ns, hne, a, o, us, n, e, ho, hc, hd, hi⟩ := hp v (List.mem_cons_self ..)
    subst e
    cases hi with
    | nil => exact absurd rfl hne
    | cons x t r =>
      refine ⟨.int x t :: fs, PySem.W.KatTups.cons ho hc hd rfl h1, by rw [List.length_cons, List.length_cons, h2], fun f hm => ?_⟩
      rcases List.mem_cons.mp hm with rfl | hm
      · exact ⟨x, t, rfl⟩
      · exact h3 f hm
theorem rows_sortable {a : Addr} {vs : List Value} {k : Value → List Int} (h0 : 0 < vs.length) (hp : ∀ v ∈ vs, k v ≠ [] ∧ IsRow s.heap v (k v)) (ha : ∀ o, s.heap.get? a = some o → o.cls ≠ .type "tuple") : SrtO.SortableO prog w A s a vs fun v u => lexL (k v) (k u) := by
  intro h' keep
  have hp' : ∀ v ∈ vs, IsRow h' v (k v) := fun v hm => (hp v hm).2.keeps fun b o e c => keep b o (fun z => by subst z; exact ha o e c) e
  obtain ⟨fs, h1, h2, h3⟩ := row_firsts fun v hm => ⟨_, (hp v hm).1, hp' v hm⟩
  refine ⟨tuples' true, fun Q E hq => ?_, row_cmp hp'⟩
  refine PySem.W.kat_kind (T := .type "int") h1 (by omega) (fun f hm => ?_) (by rfl) ?_
  · obtain ⟨x, t, rfl⟩ := h3 f hm
    exact PySem.W.Looks.now
  · have e : (Value.type "int" != Value.type "tuple") = true := by first | decide +kernel | rfl | decide
    rw [e]
    exact hq
end
theorem swo_row (k : Value → List Int) : SrtO.Swo fun v u => lexL (k v) (k u) := ⟨fun x y h => lexL_asym _ _ h, fun x y z h1 h2 => lexL_tr _ _ _ h1 h2⟩
def kV' (k : V → List Int) : Value → List Int
  | .ref t => k (.ref t)
  | _ => []
def rSortedR (K : PySem.W.Frag) : List V → Hp → VK → Prop := fun vs H Q => ∃ (a : Addr) (xs : List V) (k : V → List Int), vs = [V.ref a] ∧ (SqL K H a xs ∨ SqT K H a xs) ∧ (∀ x ∈ xs, k x ≠ [] ∧ ∃ t, x = .ref t ∧ H t = some (.tup ((k x).map V.int))) ∧
  ∀ (zs : List V) (p : Addr), zs.Perm xs → zs.Pairwise (fun x y => lexL (k y) (k x) = false) → H p = none → Q (.ref p) (upd H p (.lst zs))
theorem ref_of {x : V} {u : Value} {t : Addr} (r : RelV x u) (h : x = .ref t) : u = .ref t := by
  subst h
  exact r
theorem refs_vals : ∀ {xs : List V} {us : List Value}, Vals xs us → (∀ x ∈ xs, ∃ t, x = V.ref t) → us = xs.map (fun x => match x with | .ref t => Value.ref t | _ => Value.none)
  | _, _, .nil, _ => rfl
  | _, _, .cons r h, hx => by
    obtain ⟨t, e⟩ := hx _ List.mem_cons_self
    subst e
    have r' : _ = Value.ref t := r
    subst r'
    rw [List.map_cons, refs_vals h fun x hm => hx x (List.mem_cons_of_mem _ hm)]
theorem vals_refs : ∀ {xs : List V}, (∀ x ∈ xs, ∃ t, x = V.ref t) → Vals xs (xs.map (fun x => match x with | .ref t => Value.ref t | _ => Value.none))
  | [], _ => .nil
  | x :: xs, hx => by
    obtain ⟨t, e⟩ := hx _ List.mem_cons_self
    subst e
    exact .cons rfl (vals_refs fun x hm => hx x (List.mem_cons_of_mem _ hm))
def refV : Value → V
  | .ref t => .ref t
  | _ => .non
theorem cr_sortedR {X : Cx} : CallR X (.builtin "sorted") (rSortedR X.K) := by
  intro pins s σ H vs us Q I r h
  obtain ⟨a, xs, k, rfl, hs, hk, q⟩ := h
  have hx : ∃ (T : String) (o : Obj) (its : List Value) (n : Nat), (T = "list" ∨ T = "tuple") ∧ s.heap.get? a = some o ∧ o.cls = .type T ∧ o.data = .seq its.toArray n ∧ Vals xs its ∧ xs.length ≤ sizeLine := by
    rcases hs with hs | hs
    · obtain ⟨its, rv, ⟨o, n, ho, hc, _, hd⟩, hz⟩ := I.list hs
      exact ⟨_, o, its, n, .inl rfl, ho, hc, hd, rv, hz⟩
    · obtain ⟨its, rv, ⟨o, ho, hc, n, hd⟩, hz⟩ := I.tuple hs
      exact ⟨_, o, its, n, .inr rfl, ho, hc, hd, rv, hz⟩
  obtain ⟨T, o, its, n, hT, ho, hc, hd, rv, hz⟩ := hx
  rw [Vals.ref1 r]
  have hrf : ∀ x ∈ xs, ∃ t, x = V.ref t := fun x hm => let ⟨_, t, e, _⟩ := hk x hm; ⟨t, e⟩
  have hits := refs_vals rv hrf
  have hrow : ∀ v ∈ its, kV' k v ≠ [] ∧ IsRow s.heap v (kV' k v) := fun v hv => by
    rw [hits] at hv
    obtain ⟨x, hm, e⟩ := List.mem_map.mp hv
    obtain ⟨hne, t, ex, ht⟩ := hk x hm
    subst ex
    subst e
    refine ⟨hne, ?_⟩
    obtain ⟨us, rv', ⟨o', ho', hc', n', hd'⟩, hz'⟩ := I.tuple (SqT.of ht)
    exact ⟨t, o', us, n', rfl, ho', hc', hd', rv'.ints⟩
  refine sorted_seqO (swo_row (kV' k)) hT ho hc hd (by rw [← rv.length]; exact hz) (fun h2 h₁ a' ha' kk => ?_) fun h' out hk1 h1 h2 => ?_
  · refine rows_sortable (s := { s with heap := h₁ }) (by omega) (fun v hm => ⟨(hrow v hm).1, (hrow v hm).2.keeps fun b o e _ => (kk b o e).2⟩) fun o e => ?_
    have e' : some o = some (seqObj "list" its.toArray 0) := e.symm.trans ha'
    cases e'
    intro c
    exact absurd (Value.type.inj c) (by decide)
  have I' : L2.Inv X pins σ H { s with heap := h' } := I.kept (t' := s.toks) hk1
  have hp : out.Perm its := h2.perm
  have hperm : (out.map refV).Perm xs := by
    have q1 := hp.map refV
    have e : its.map refV = xs := by
      rw [hits, List.map_map]
      conv => rhs; rw [← List.map_id xs]
      refine List.map_congr_left fun x hm => ?_
      obtain ⟨t, e⟩ := hrf x hm
      subst e
      rfl
    rw [e] at q1
    exact q1
  have hrf2 : ∀ x ∈ out.map refV, ∃ t, x = V.ref t := fun x hm => hrf x (hperm.mem_iff.mp hm)
  have hout : ∀ v ∈ out, ∃ t, v = Value.ref t := fun v hv => by
    obtain ⟨_, a, o, us, n, e, _⟩ := hrow v (hp.mem_iff.mp hv)
    exact ⟨a, e⟩
  have hvals : Vals (out.map refV) out := by
    have q1 := vals_refs hrf2
    have e : (out.map refV).map (fun x => match x with | .ref t => Value.ref t | _ => Value.none) = out := by
      rw [List.map_map]
      conv => rhs; rw [← List.map_id out]
      refine List.map_congr_left fun v hv => ?_
      obtain ⟨t, e⟩ := hout v hv
      subst e
      rfl
    rw [e] at q1
    exact q1
  have hlen : (out.map refV).length ≤ sizeLine := by
    rw [hperm.length_eq]
    exact hz
  have hsrt : (out.map refV).Pairwise (fun x y => lexL (k y) (k x) = false) := by
    refine List.pairwise_map.mpr ?_
    have h1 : out.Pairwise (fun x y => lexL (kV' k y) (kV' k x) = false) := h1
    refine (List.Pairwise.and_mem.mp h1).imp ?_
    rintro x y ⟨hx, hy, h⟩
    obtain ⟨t, rfl⟩ := hout x hx
    obtain ⟨u, rfl⟩ := hout y hy
    exact h
  obtain ⟨ep, he'⟩ := PyProof.Rows.sortedHeap_at (vs := its) (out := out.toArray) (n := 0) (h := h'.push (PyProof.Rows.seqObj "list" its.toArray 0)) (a := h'.objs.size) (Heap.get?_push_size _ rfl)
  refine ⟨.ref _, upd H h'.objs.size (.lst (out.map refV)), I'.laid (t' := s.toks) (fun b u e => ?_) (Nat.le_refl _) ⟨hlen, out, ep, hvals, he'⟩, rfl, q _ _ hperm hsrt (I'.hok.fresh (Nat.le_refl _))⟩
  have hlt : b < h'.objs.size := Heap.lt_size e
  rw [PyProof.Rows.sortedHeap_old (Nat.ne_of_lt hlt) (by rw [PyProof.Rows.size_push']; exact Nat.lt_succ_of_lt hlt)]
  exact Heap.get?_push_of_some _ e

/-! #### the reading -/
def rowsOf : List D → Option (List (List Int))
  | [] => some []
  | .tup es :: ds => match intsOf es with
    | some (n :: ns) => (rowsOf ds).map ((n :: ns) :: ·)
    | _ => none
  | _ :: _ => none
def rowD (ns : List Int) : D := .tup (ns.map D.int)
def sortedX (ds : List D) : R D := match intsOf ds with
  | some ns => .ok (.lst ((sortI ns).map D.int))
  | none => match rowsOf ds with
    | some rs => .ok (.lst ((sortR rs).map rowD))
    | none => .stuck
def sortedA : List D → R D
  | [.lst ds] => sortedX ds
  | [.tup ds] => sortedX ds
  | _ => .stuck
def rSortedA (K : PySem.W.Frag) : List V → Hp → VK → Prop := fun vs H Q => rSortedX K vs H Q ∨ rSortedR K vs H Q
theorem cr_sortedA {X : Cx} : CallR X (.builtin "sorted") (rSortedA X.K) := by
  intro pins s σ H vs us Q I r h
  rcases h with h | h
  · exact cr_sortedX pins s σ H vs us Q I r h
  · exact cr_sortedR pins s σ H vs us Q I r h
def vI : V → Int
  | .int i => i
  | _ => 0
def keyH (I : Hp) : V → List Int
  | .ref t => match I t with
    | some (.tup xs) => xs.map vI
    | _ => []
  | _ => []
theorem rows_key {K : PySem.W.Frag} {mg : Gm} {I : Hp} : ∀ {vs : List V} {ds : List D} {rs : List (List Int)}, Reps K mg I vs ds → rowsOf ds = some rs → vs.map (keyH I) = rs ∧ ∀ x ∈ vs, keyH I x ≠ [] ∧ (∃ t, x = .ref t ∧ I t = some (.tup ((keyH I x).map V.int)))
  | _, _, _, .nil, h => by
    cases h
    exact ⟨rfl, fun x hm => by cases hm⟩
  | _, _, rs, .cons (d := d) (ds := ds) a r, h => by
    cases a with
    | @tup t ws es hh ra =>
      unfold rowsOf at h
      split at h
      · rename_i n ns e
        cases e2 : rowsOf ds with
        | none =>
          rw [e2] at h
          cases h
        | some rs' =>
          rw [e2] at h
          cases h
          obtain ⟨h1, h2⟩ := rows_key r e2
          obtain ⟨ew, _⟩ := reps_ints ra e
          subst ew
          have ek : keyH I (.ref t) = n :: ns := by
            show (match I t with | some (HO.tup xs) => xs.map vI | _ => []) = n :: ns
            rw [hh]
            show ((n :: ns).map V.int).map vI = n :: ns
            rw [List.map_map]
            conv => rhs; rw [← List.map_id (n :: ns)]
            rfl
          refine ⟨by rw [List.map_cons, ek, h1], fun x hm => ?_⟩
          rcases List.mem_cons.mp hm with rfl | hm
          · rw [ek]
            exact ⟨by simp, t, rfl, hh⟩
          · exact h2 x hm
      · cases h
    | _ => cases h
theorem keys_reps {K : PySem.W.Frag} {mg : Gm} {I : Hp} : ∀ {zs : List V}, (∀ x ∈ zs, ∃ t, x = .ref t ∧ I t = some (.tup ((keyH I x).map V.int))) → Reps K mg I zs ((zs.map (keyH I)).map rowD)
  | [], _ => .nil
  | z :: zs, h => by
    obtain ⟨t, e, ht⟩ := h z List.mem_cons_self
    rw [List.map_cons, List.map_cons]
    refine .cons ?_ (keys_reps fun x hm => h x (List.mem_cons_of_mem _ hm))
    generalize keyH I z = ns at ht ⊢
    subst e
    exact .tup ht .ints
theorem cs_sortedA {K : PySem.W.Frag} {mg : Gm} : CSn K mg (rSortedA K) sortedA := by
  intro xs I H ds d Q ex rs h q
  have fin : ∀ (a : Addr) (es : List D) (vs : List V), Reps K mg I vs es → (SqL K H a vs ∨ SqT K H a vs) → sortedX es = .ok d → rSortedA K [.ref a] H Q := fun a es vs r hs h => by
    unfold sortedX at h
    cases e : intsOf es with
    | some ns =>
      rw [e] at h
      cases h
      obtain ⟨rfl, _⟩ := reps_ints r e
      refine .inl ⟨a, ns, rfl, hs, fun ns' p hp hs' hn => ?_⟩
      have e2 : ns' = sortI ns := srt_uniq (hp.trans (sortI_perm ns).symm) hs' (sortI_srt ns)
      subst e2
      exact q _ _ _ (.new ex hn) (new_lst ex hn .ints)
    | none =>
      rw [e] at h
      have h : (match rowsOf es with | some rs => R.ok (.lst ((sortR rs).map rowD)) | none => .stuck) = R.ok d := h
      cases e2 : rowsOf es with
      | none =>
        rw [e2] at h
        cases h
      | some rs =>
        rw [e2] at h
        cases h
        obtain ⟨h1, h2⟩ := rows_key r e2
        refine .inr ⟨a, vs, keyH I, rfl, hs, fun x hm => ?_, fun zs p hp hs' hn => ?_⟩
        · obtain ⟨hne, t, e, ht⟩ := h2 x hm
          exact ⟨hne, t, e, ex _ _ ht⟩
        · have e3 : zs.map (keyH I) = sortR rs := srtR_uniq ((hp.map _).trans (by rw [h1]; exact (sortR_perm rs).symm)) (List.pairwise_map.mpr hs') (sortR_srt rs)
          rw [← e3] at q
          exact q _ _ _ (.new ex hn) (new_lst ex hn (keys_reps fun x hm => (h2 x (hp.mem_iff.mp hm)).2))
  unfold sortedA at h
  split at h
  · obtain ⟨v, rfl, r⟩ := reps1 rs
    cases r with
    | lst hh ra => exact fin _ _ _ ra (.inl (SqL.of (ex _ _ hh))) h
  · obtain ⟨v, rfl, r⟩ := reps1 rs
    cases r with
    | tup hh ra => exact fin _ _ _ ra (.inr (SqT.of (ex _ _ hh))) h
  · cases h
end DL
namespace DL
open PySem PySem.Spec PyProof.Rows L2

/-! ### membership by deep equality -/
theorem hu65 {k : Nat} {A : Around} (hr : Room k A) : A.units + 65 < cLine := by have := hr.un; omega
def rInP (K : PySem.W.Frag) : R2 := fun x y H Q => ∃ d ds, Dp K H x d ∧ (Dp K H y (.list ds) ∧ SeqAt.shaped (.list ds) = true ∨ Dp K H y (.tuple ds) ∧ SeqAt.shaped (.tuple ds) = true) ∧ SeqAt.shaped d = true ∧ Q (.bl (ds.any fun z => PyData.eqv z d)) H
def rNinP (K : PySem.W.Frag) : R2 := fun x y H Q => ∃ d ds, Dp K H x d ∧ (Dp K H y (.list ds) ∧ SeqAt.shaped (.list ds) = true ∨ Dp K H y (.tuple ds) ∧ SeqAt.shaped (.tuple ds) = true) ∧ SeqAt.shaped d = true ∧ Q (.bl (!ds.any fun z => PyData.eqv z d)) H
theorem op_inP {X : Cx} (hu : X.A.units + 65 < cLine) : OpR X (compareOp .In) (rInP X.K) := by
  intro pins s σ H x y v u Q I rx ry h
  obtain ⟨d, ds, hd, he, sd, q⟩ := h
  obtain ⟨as, r1⟩ := Dp.reads I d x v hd rx
  rcases he with ⟨he, se⟩ | ⟨he, se⟩
  · obtain ⟨bs, r2⟩ := Dp.reads I (.list ds) y u he ry
    exact SeqAt.in_list_reads r2 r1 (SeqAt.canLay_of_shaped se) (SeqAt.canLay_of_shaped sd) (room_in_shaped sd hu) ⟨.bl _, H, I, rfl, q⟩
  · obtain ⟨bs, r2⟩ := Dp.reads I (.tuple ds) y u he ry
    exact SeqAt.in_tuple_reads r2 r1 (SeqAt.canLay_of_shaped se) (SeqAt.canLay_of_shaped sd) (room_in_shaped sd hu) ⟨.bl _, H, I, rfl, q⟩
theorem op_ninP {X : Cx} (hu : X.A.units + 65 < cLine) : OpR X (compareOp .NotIn) (rNinP X.K) := by
  intro pins s σ H x y v u Q I rx ry h
  obtain ⟨d, ds, hd, he, sd, q⟩ := h
  obtain ⟨as, r1⟩ := Dp.reads I d x v hd rx
  rcases he with ⟨he, se⟩ | ⟨he, se⟩
  · obtain ⟨bs, r2⟩ := Dp.reads I (.list ds) y u he ry
    exact SeqAt.notIn_list_reads r2 r1 (SeqAt.canLay_of_shaped se) (SeqAt.canLay_of_shaped sd) (room_in_shaped sd hu) ⟨.bl _, H, I, rfl, q⟩
  · obtain ⟨bs, r2⟩ := Dp.reads I (.tuple ds) y u he ry
    exact SeqAt.notIn_tuple_reads r2 r1 (SeqAt.canLay_of_shaped se) (SeqAt.canLay_of_shaped sd) (room_in_shaped sd hu) ⟨.bl _, H, I, rfl, q⟩
def inP : D → D → R D
  | x, .lst ds => gd (x.fine 60 = true ∧ (D.lst ds).fine 60 = true) (.bl ((D.pys ds).any fun z => PyData.eqv z x.py))
  | x, .tup ds => gd (x.fine 60 = true ∧ (D.tup ds).fine 60 = true) (.bl ((D.pys ds).any fun z => PyData.eqv z x.py))
  | _, _ => .stuck
def ninP (x y : D) : R D := notD (inP x y)
theorem inP_of {x y r : D} (h : inP x y = .ok r) : ∃ ds, (y = .lst ds ∨ y = .tup ds) ∧ x.fine 60 = true ∧ y.fine 60 = true ∧ r = .bl ((D.pys ds).any fun z => PyData.eqv z x.py) := by
  unfold inP at h
  split at h
  · obtain ⟨⟨a, b⟩, rfl⟩ := gd_of h
    exact ⟨_, .inl rfl, a, b, rfl⟩
  · obtain ⟨⟨a, b⟩, rfl⟩ := gd_of h
    exact ⟨_, .inr rfl, a, b, rfl⟩
  · cases h
theorem rs_inP {K : PySem.W.Frag} {mg : Gm} : RSn K mg (rInP K) inP := by
  intro x y I H dx dy d Q ex rx ry h q
  obtain ⟨ds, e, a, b, rfl⟩ := inP_of h
  have k1 := (ry.mono ex).dp _ b
  have k2 := D.fine_shaped b
  refine ⟨_, D.pys ds, (rx.mono ex).dp _ a, ?_, D.fine_shaped a, q _ _ _ (.refl ex) (.bl _)⟩
  rcases e with rfl | rfl
  · exact .inl ⟨k1, k2⟩
  · exact .inr ⟨k1, k2⟩
theorem rs_ninP {K : PySem.W.Frag} {mg : Gm} : RSn K mg (rNinP K) ninP := by
  intro x y I H dx dy d Q ex rx ry h q
  unfold ninP at h
  cases e : inP dx dy with
  | ok r =>
    obtain ⟨ds, e2, a, b, rfl⟩ := inP_of e
    rw [e] at h
    cases h
    have k1 := (ry.mono ex).dp _ b
    have k2 := D.fine_shaped b
    refine ⟨_, D.pys ds, (rx.mono ex).dp _ a, ?_, D.fine_shaped a, q _ _ _ (.refl ex) (.bl _)⟩
    rcases e2 with rfl | rfl
    · exact .inl ⟨k1, k2⟩
    · exact .inr ⟨k1, k2⟩
  | err _ _ =>
    rw [e] at h
    cases h
  | stuck =>
    rw [e] at h
    cases h
/-- the plain way where the items are plain, else the deep one -/
def flatIn (x y : D) : Bool := match y with
  | .lst ds => x.flat && ds.all D.flat
  | .tup ds => x.flat && ds.all D.flat
  | _ => true
def inG (x y : D) : R D := if flatIn x y = true then inA x y else inP x y
def ninG (x y : D) : R D := if flatIn x y = true then ninA x y else ninP x y
theorem o2_b {f g h : D → D → R D} (hf : ∀ x y, f x y = g x y ∨ f x y = h x y) (a b : R D) : o2 f a b = o2 g a b ∨ o2 f a b = o2 h a b := by
  cases a with
  | ok x =>
    cases b with
    | ok y =>
      rcases hf x y with e | e
      · refine .inl ?_
        show calm (f x y) = calm (g x y)
        rw [e]
      · refine .inr ?_
        show calm (f x y) = calm (h x y)
        rw [e]
    | err _ _ => exact .inl rfl
    | stuck => exact .inl rfl
  | err _ _ => exact .inl rfl
  | stuck => exact .inl rfl
theorem inG_or (x y : D) : inG x y = inA x y ∨ inG x y = inP x y := by
  unfold inG
  split
  · exact .inl rfl
  · exact .inr rfl
theorem ninG_or (x y : D) : ninG x y = ninA x y ∨ ninG x y = ninP x y := by
  unfold ninG
  split
  · exact .inl rfl
  · exact .inr rfl
section
variable {X : Cx} {E : Wh} {a b : Expr} {ta tb : TE} {ma mb : Env → R D} {pos : Pos}
theorem me_inG (K : PySem.W.Frag) (hu : X.A.units + 65 < cLine) (ha : ME X E a ta ma) (hb : ME X E b tb mb) (hm : behindInMarks .In b = false := by rfl) (hK : X.K = K := by rfl) : ME X E (.Compare a [.In] [b] pos) (fun σ H Q => (tDIn ta tb σ H Q ∨ tOp (rInX K) ta tb σ H Q) ∨ tOp (rInP K) ta tb σ H Q) (fun ρ => o2 inG (ma ρ) (mb ρ)) := by
  have h1 : ME X E (.Compare a [.In] [b] pos) _ _ := me_inA K (by omega) ha hb hm hK
  subst hK
  have h2 : ME X E (.Compare a [.In] [b] pos) _ _ := me_cmp (r := rInP X.K) (op_inP hu) rs_inP ha hb hm
  exact ⟨PE.or h1.pe h2.pe, sn_or h1.sn h2.sn fun ρ => o2_b inG_or _ _⟩
theorem me_ninG (K : PySem.W.Frag) (hu : X.A.units + 65 < cLine) (ha : ME X E a ta ma) (hb : ME X E b tb mb) (hm : behindInMarks .NotIn b = false := by rfl) (hK : X.K = K := by rfl) : ME X E (.Compare a [.NotIn] [b] pos) (fun σ H Q => (tDNotIn ta tb σ H Q ∨ tOp (rNinX K) ta tb σ H Q) ∨ tOp (rNinP K) ta tb σ H Q) (fun ρ => o2 ninG (ma ρ) (mb ρ)) := by
  have h1 : ME X E (.Compare a [.NotIn] [b] pos) _ _ := me_ninA K (by omega) ha hb hm hK
  subst hK
  have h2 : ME X E (.Compare a [.NotIn] [b] pos) _ _ := me_cmp (r := rNinP X.K) (op_ninP hu) rs_ninP ha hb hm
  exact ⟨PE.or h1.pe h2.pe, sn_or h1.sn h2.sn fun ρ => o2_b ninG_or _ _⟩
theorem mt_inG (K : PySem.W.Frag) (hu : X.A.units + 65 < cLine) (ha : ME X E a ta ma) (hb : ME X E b tb mb) (hm : behindInMarks .In b = false := by rfl) (hK : X.K = K := by rfl) : MT X E (.Compare a [.In] [b] pos) (fun σ H Q => (tB (tDIn ta tb) σ H Q ∨ tTest (tOp (rInX K) ta tb) σ H Q) ∨ tTest (tOp (rInP K) ta tb) σ H Q) (fun ρ => tst (o2 inG (ma ρ) (mb ρ))) := by
  have h1 : MT X E (.Compare a [.In] [b] pos) _ _ := mt_inA K (by omega) ha hb hm hK
  subst hK
  have h2 : MT X E (.Compare a [.In] [b] pos) _ _ := mt_cmp (r := rInP X.K) (op_inP hu) rs_inP ha hb hm
  exact ⟨PT.or h1.pe h2.pe, sn_or h1.sn h2.sn fun ρ => tst_or (o2_b inG_or _ _)⟩
theorem mt_ninG (K : PySem.W.Frag) (hu : X.A.units + 65 < cLine) (ha : ME X E a ta ma) (hb : ME X E b tb mb) (hm : behindInMarks .NotIn b = false := by rfl) (hK : X.K = K := by rfl) : MT X E (.Compare a [.NotIn] [b] pos) (fun σ H Q => (tB (tDNotIn ta tb) σ H Q ∨ tTest (tOp (rNinX K) ta tb) σ H Q) ∨ tTest (tOp (rNinP K) ta tb) σ H Q) (fun ρ => tst (o2 ninG (ma ρ) (mb ρ))) := by
  have h1 : MT X E (.Compare a [.NotIn] [b] pos) _ _ := mt_ninA K (by omega) ha hb hm hK
  subst hK
  have h2 : MT X E (.Compare a [.NotIn] [b] pos) _ _ := mt_cmp (r := rNinP X.K) (op_ninP hu) rs_ninP ha hb hm
  exact ⟨PT.or h1.pe h2.pe, sn_or h1.sn h2.sn fun ρ => tst_or (o2_b ninG_or _ _)⟩
end
end DL
namespace DL
open PySem PySem.Spec PyProof.Rows L2

/-! ### new lists from comprehensions -/
def lcN (vs : List Nat) (mi : Env → R (List D)) (ag : D → R As) (mt : Env → R Bool) (me : Env → R D) : Env → R (List D) :=
  fun ρ => mi ρ >>= fun ds => if ds.length ≤ LIM then calm (lcGo ag mt me (wipeE ρ vs) ds) else .stuck
section
variable {X : Cx} {E : XK} {elt tg iter : Expr} {ifs : List Expr} {scope : Scope} {own : List (Str × Nat)} {pos : Pos} {wi : TI} {g : TG} {tt : TT} {te : TE} {mi : Env → R (List D)} {ag : D → R As} {mt : Env → R Bool} {me : Env → R D}
theorem lc_coreN {K : PySem.W.Frag} {mg : Gm} {E1 : XK} {vs : List Nat} {σ : L2.St} {ρ : Env} {I1 H1 : Hp} {ds : List D} {J : It} {Q : VK} (sg : SnG K mg g ag) (st : Sn K mg (fun _ => E0) rB tt mt) (se : Sn K mg (fun _ => E0) (Rep K mg) te me) (hv : ∀ d as, ag d = .ok as → ∀ p ∈ as, p.1 ∈ vs) (re : RE K mg I1 σ ρ) (ex : Same I1 H1) (it : ItOk K mg I1 J ds)
    (h : OutN K mg E1 I1 H1 (if ds.length ≤ LIM then calm (lcGo ag mt me (wipeE ρ vs) ds) else .stuck) Q) : tLc (fun _ H R => R J H) g tt te vs σ H1 Q := by
  intro D0 hD
  obtain ⟨hl, h⟩ := outN_if h
  cases eo : lcGo ag mt me (wipeE ρ vs) ds with
  | err _ _ =>
    rw [eo] at h
    exact h.elim
  | stuck =>
    rw [eo] at h
    exact h.elim
  | ok out =>
    rw [eo] at h
    refine ⟨fun i m H => m = ds.length - i ∧ i ≤ ds.length ∧ ∃ I2 accD r, LcAt K mg I1 H1 D0 i accD I2 H ∧ lcGo ag mt me (wipeE ρ vs) (ds.drop i) = .ok r ∧ accD ++ r = out, ⟨ds.length, by simp, Nat.zero_le _, I1, [], out, .start ex hD, eo, rfl⟩, ?_⟩
    rintro i m H2 ⟨rfl, hi, I2, accD, r, p, hr, ho⟩
    have hit := it I2 H2 p.i p.e
    by_cases hlt : i < ds.length
    · have hd : ds[i]? = some ds[i] := List.getElem?_eq_getElem hlt
      obtain ⟨hgo, hy⟩ := hit.1 i _ hd
      refine .inr ⟨hgo, fun H' => ∃ I2 accD r, LcAt K mg I1 H1 D0 (i + 1) accD I2 H' ∧ lcGo ag mt me (wipeE ρ vs) (ds.drop (i + 1)) = .ok r ∧ accD ++ r = out, fun H' hN => ⟨ds.length - (i + 1), by omega, rfl, hlt, hN⟩, fun x H' y => ?_⟩
      obtain ⟨I3, s3, rx⟩ := hy x H' y
      rw [List.drop_eq_getElem_cons hlt] at hr
      unfold lcGo at hr
      obtain ⟨as, ha, hr⟩ := bind_ok hr
      have ha := calm_of ha
      obtain ⟨b, hb, hr⟩ := bind_ok hr
      have hb := calm_of hb
      refine sg x _ I3 H' _ as _ s3.e rx ha fun us ar => ?_
      have hus : ∀ p ∈ us, p.1 ∈ vs := fun p hp => by
        have hm : p.1 ∈ as.map (·.1) := by
          rw [← ar.slots]
          exact List.mem_map_of_mem hp
        obtain ⟨q, hq, e⟩ := List.mem_map.mp hm
        rw [← e]
        exact hv _ _ ha q hq
      refine ⟨by rw [wipe_setS hus, wipe_wipe], ?_⟩
      have re3 : RE K mg I3 (setS (wipe σ vs) us) (setE (wipeE ρ vs) as) := RE.setAll ar ((re.mono (p.i.trans s3.i)).wipe vs)
      have p3 := p.step s3
      refine st _ I3 H' _ _ re3 s3.e ?_
      rw [hb]
      intro b' I4 H4 s4 eb
      have eb : b' = b := eb
      subst eb
      have p4 := p3.step s4
      cases b' with
      | true =>
        show te _ H4 _
        rw [if_pos rfl] at hr
        obtain ⟨yd, hyd, hr⟩ := bind_ok hr
        have hyd := calm_of hyd
        obtain ⟨r', hr', hr⟩ := bind_ok hr
        cases hr
        refine se _ I4 H4 _ _ (re3.mono s4.i) s4.e ?_
        rw [hyd]
        intro yv I5 H5 s5 ry
        obtain ⟨acc, h1, h2, p5⟩ := (p4.step s5).push hD ry (by omega)
        exact ⟨acc, h1, h2, I5, _, r', p5, hr', by rw [List.append_assoc]; exact ho⟩
      | false =>
        rw [if_neg (by decide)] at hr
        exact ⟨I4, accD, r, p4.skip, hr, ho⟩
    · have e : i = ds.length := by omega
      subst e
      rw [List.drop_length] at hr
      cases hr
      rw [List.append_nil] at ho
      subst ho
      obtain ⟨ws, w1, w2, w3⟩ := p.l
      exact .inl ⟨hit.2, h D0 ws I2 H2 ⟨p.i, p.h, p.e, p.f⟩ p.z hD w1 w2⟩
theorem mn_lc (hc : X.calm = true) (hN : X.N.Nodup) (hi : MI X (kE E) tg iter wi mi) (ok : BlkOk X.N X.env.scope scope own)
    (hg : ∀ (s : Shared) (H : Hp) (C : Addr) (cl : List (Str × Addr)) (fp : List Addr), MG (X.blk s H scope (compEnvC scope cl C X.env) fp) tg g ag) (ht : ∀ (s : Shared) (H : Hp) (C : Addr) (cl : List (Str × Addr)) (fp : List Addr), MTs (X.blk s H scope (compEnvC scope cl C X.env) fp) (kE E).calm ifs tt mt)
    (he : ∀ (s : Shared) (H : Hp) (C : Addr) (cl : List (Str × Addr)) (fp : List Addr), ME (X.blk s H scope (compEnvC scope cl C X.env) fp) (kE E).calm elt te me) (hv : AgIn ag (· ∈ own.map (·.2))) (hs : ∀ x, foldedSetIterable iter X.env x = pure x := by intro _; rfl) :
    MN X E (.ListComp elt [⟨tg, iter, ifs, 0⟩] scope pos) (tLc wi g tt te (own.map (·.2))) (lcN (own.map (·.2)) mi ag mt me) :=
  ⟨pe_lc hc hN hi.pe ok (fun s H C cl fp => (hg s H C cl fp).pe) (fun s H C cl fp => (ht s H C cl fp).pe) (fun s H C cl fp => (he s H C cl fp).pe) hs, fun σ I H ρ Q re ex h => by
    have si := hi.sn
    refine si.runN re ex h fun ds J I1 H1 _ s1 it h => ?_
    exact lc_coreN ((hg X.s_0 X.H_0 0 [] []).sn _) (ht X.s_0 X.H_0 0 [] []).sn (he X.s_0 X.H_0 0 [] []).sn hv (re.mono s1.i) s1.e it h⟩
end

/-! ### new lists from calls -/
def spFr (K : PySem.W.Frag) (mg : Str → Option Value) (n : Nat) (g : List D → R (List D)) : Sp := fun vs H Q E => ∃ I ds, ds.length = n ∧ Same I H ∧ Reps K (g0 mg) I vs ds ∧ OutN K (g0 mg) E I H (g ds) Q
def endF : Fl → R (List D)
  | .rf ds => .ok ds
  | _ => .stuck
def runFr (n : Nat) (ms : Env → R Fl) (ds : List D) : R (List D) := ms (startE n ds) >>= endF
theorem fn_mirF {P : Program} {w : World} {K : PySem.W.Frag} {mg : Str → Option Value} {base : Heap} {x qual : Str} {st : Stmt} {f : Addr} {fd : FuncData} {N ps : List Str} {k : Nat} {M M' : List Nat} {ms : Env → R Fl} (F : Fun K x qual st f fd) (S : FnScope N ps (defScope st)) (hM : ∀ i ∈ M, ps.length ≤ i)
    (hb : ∀ (cdv : Value) (A : Around) (outer : List PySem.Env) (s : Shared) (H : Hp) (E : XK), Room k (A.deeper (PyProof.Rows.envOfC qual (defScope st) s.heap.objs.size f cdv)) →
      ∃ ts, MSs (cxOf (L2.CX P w) P w K mg base N qual (defScope st) f cdv A outer s H E) E [] M M' (defBody st) ts ms) : FnOk P w K mg base (L2.CX P w) (k + 1) f fd ps (spFr K mg ps.length (runFr N.length ms)) := by
  refine F.okX S (fun vs H Q E h => ?_) (fun cdv A outer s H vs Q E hr h => ?_)
  · obtain ⟨I, ds, hl, _, r, _⟩ := h
    exact r.len.trans hl
  obtain ⟨I, ds, hl, ex, rs, h⟩ := h
  obtain ⟨ts, hp⟩ := hb cdv A outer s H E hr
  refine ⟨ts, hp.pe, hp.sn (I, 0) H _ I H _ _ (start_SE ex rs (by rw [hl]; exact hM)) ?_⟩
  unfold runFr at h
  cases e : ms (startE N.length ds) with
  | err nm es =>
    rw [e] at h
    exact h
  | stuck =>
    rw [e] at h
    exact h.elim
  | ok fl =>
    rw [e] at h
    cases fl with
    | rf es => exact fun p vs I1 H1 s1 n1 n2 hp r => h p vs I1 H1 s1 n1 n2 hp r
    | nx ρ => exact h.elim
    | rt d => exact h.elim
    | bk ρ => exact h.elim
    | ct ρ => exact h.elim
structure KnF (P : Program) (w : World) (K : PySem.W.Frag) (mg : Str → Option Value) (base : Heap) (x : Str) (k n : Nat) (g : List D → R (List D)) : Prop where
  ex : ∃ f fd ps, FnOk P w K mg base (L2.CX P w) k f fd ps (spFr K mg n g) ∧ mg x = some (.ref f) ∧ PySem.W.keepIn K (.ref f) = true ∧ Binds K fd ps []
theorem KnF.mk' {P : Program} {w : World} {K : PySem.W.Frag} {mg : Str → Option Value} {base : Heap} {x : Str} {st : Stmt} {N ps : List Str} {k : Nat} {M M' : List Nat} {ms : Env → R Fl} (F : FnAt K mg x st ps) (S : FnScope N ps (defScope st)) (hM : ∀ i ∈ M, ps.length ≤ i)
    (hb : ∀ (f : Addr) (cdv : Value) (A : Around) (outer : List PySem.Env) (s : Shared) (H : Hp) (E : XK), Room k (A.deeper (PyProof.Rows.envOfC x (defScope st) s.heap.objs.size f cdv)) →
      ∃ ts, MSs (cxOf (L2.CX P w) P w K mg base N x (defScope st) f cdv A outer s H E) E [] M M' (defBody st) ts ms) : KnF P w K mg base x (k + 1) ps.length (runFr N.length ms) := by
  obtain ⟨f, fd, F, g, b⟩ := F.ex
  exact ⟨f, fd, ps, fn_mirF F S hM (hb f), g, F.kp, b⟩
def callF (n : Nat) (g : List D → R (List D)) (a : R (List D)) : R (List D) := a >>= fun ds => if ds.length = n then g ds else .stuck
theorem mn_callF {X : Cx} {E : XK} {P : Program} {w : World} {K : PySem.W.Frag} {mg : Str → Option Value} {base : Heap} {k j n : Nat} {g : List D → R (List D)} {x : Str} {p pos : Pos} {e : Expr} {es : List Expr} {tas : TA} {ms : Env → R (List D)} (F : KnF P w K mg base x k n g) (hr : Room j X.A) (hx : ∀ σ, PassesAt (L2.CX X.prog X.w) X σ ((kE E).e σ)) (hg : Gl X x) (ha : MA X (kE E) (e :: es) tas ms) (hj : k ≤ j := by decide)
    (hP : X.prog = P := by rfl) (hw : X.w = w := by rfl) (hK : X.K = K := by rfl) (hm : X.mg = mg := by rfl) (hb : X.base = base := by rfl)
    (hdb : (x == ("__debug__" : Str)) = false := by decide) (he : starEach (e :: es) X.env = (false, eval e X.env) :: starEach es X.env := by rfl) (hpl : (backTo pos (starEach es X.env)).any (·.1) = false := by rfl) :
    MN X E (.Call (.Name x p) (e :: es) [] pos) (tCallS (spFr K mg n g) (kE E).e tas) (fun ρ => callF n g (ms ρ)) := by
  subst hP hw hK hm hb
  obtain ⟨f, fd, ps, F, hm, hk, hb⟩ := F.ex
  obtain ⟨pt, st⟩ := ha
  refine ⟨pe_callS F (hr.mono hj) hg hm hk hb hx pt hdb he hpl, fun σ I H ρ Q re ex h => ?_⟩
  refine st.runN re ex h fun ds vs I1 H1 _ s1 rx h => ?_
  obtain ⟨hl, h⟩ := outN_if h
  exact ⟨I1, ds, hl, s1.e, rx, h⟩
/-! #### handing a new list back -/
section
variable {X : Cx} {E : XK} {Mb M M' : List Nat} {e : Expr} {te : TE} {m : Env → R (List D)} {pos px : Pos} {x : Str}
def retF (a : R (List D)) : R Fl := a >>= fun ds => .ok (.rf ds)
def retO (i : Nat) (ρ : Env) : R Fl := match ρ[i]? with
  | some (some (.lst ds)) => .ok (.rf ds)
  | _ => .stuck
theorem ms_retO (i : Nat) (hi : X.N[i]? = some x := by rfl) (hv : Vis X.env.scope x := by first | exact Or.inl rfl | exact Or.inr (Or.inl rfl)) (hM : i ∈ M := by decide) (hD : deep M i = false := by decide) (hd : (x == ("__debug__" : Str)) = false := by decide) (hcd : (x == ("__classdict__" : Str)) = false := by decide) : MS X E Mb M M' (.Return (some (.Name x px)) pos) (tRet (tVar i)) (retO i) :=
  ⟨ps_ret (pe_var (i := i) hi hv hd hcd), fun Ie He σ I H ρ D0 s h => by
    unfold retO at h
    split at h
    · rename_i ds q
      obtain ⟨p, vs, ds', e, h2, h3, h4, h5, r⟩ := s.ownL i ds hM hD q
      cases e
      exact ⟨_, h2, h p vs I H s.st h3 h4 h5 r⟩
    · exact h.elim⟩
theorem ms_retF (he : MN X E e te m) : MS X E Mb M M' (.Return (some e) pos) (tRet te) (fun ρ => retF (m (wipeE ρ M))) :=
  ⟨ps_ret he.pe, fun Ie He σ I H ρ D0 s h => he.sn σ I H _ _ s.re s.st.e (by
    have h : OutS X.K (g0 X.mg) E Mb M' Ie He I D0 (retF (m (wipeE ρ M))) := h
    cases q : m (wipeE ρ M) with
    | ok ds =>
      rw [q] at h
      exact fun p vs I1 H1 t n1 n2 hp r => h p vs I1 H1 (s.st.trans t) n1 (s.st.h.free n2) hp r
    | err nm ds =>
      rw [q] at h
      exact fun C od I1 H1 t xr => h C od I1 H1 (s.st.trans t) xr
    | stuck =>
      rw [q] at h
      exact h.elim)⟩
end
end DL
namespace DL
open PySem PySem.Spec PyProof.Rows L2

/-! ### new lists by operators and slices -/
def NewL (K : PySem.W.Frag) (mg : Gm) (I H : Hp) (ds : List D) (Q : VK) : Prop := ∀ p vs I' H', Stp I H I' H' → I' p = none → H p = none → H' p = some (.lst vs) → Reps K mg I' vs ds → Q (.ref p) H'
theorem NewL.at {K : PySem.W.Frag} {mg : Gm} {I H : Hp} {ds : List D} {Q : VK} {p : Addr} {vs : List V} (h : NewL K mg I H ds Q) (ex : Same I H) (hp : H p = none) (r : Reps K mg I vs ds) : Q (.ref p) (upd H p (.lst vs)) :=
  h p vs I _ (Stp.side ex hp) (ex.free hp) hp upd_same r
def RSnN (K : PySem.W.Frag) (mg : Gm) (r : R2) (f : D → D → R (List D)) : Prop :=
  ∀ (x y : V) (I H : Hp) (dx dy : D) (ds : List D) (Q : VK), Same I H → Rep K mg I x dx → Rep K mg I y dy → f dx dy = .ok ds → NewL K mg I H ds Q → r x y H Q
def o2N (f : D → D → R (List D)) (a b : R D) : R (List D) := a >>= fun x => b >>= fun y => calm (f x y)
theorem outN_calm {K : PySem.W.Frag} {mg : Gm} {E : XK} {I H : Hp} {r : R (List D)} {Q : VK} (h : OutN K mg E I H (calm r) Q) : ∃ ds, r = .ok ds ∧ NewL K mg I H ds Q := by
  cases r with
  | ok ds => exact ⟨ds, rfl, h⟩
  | err _ _ => exact h.elim
  | stuck => exact h.elim
section
variable {X : Cx} {E : XK} {a b : Expr} {ta tb : TE} {ma mb : Env → R D} {pos : Pos}
theorem mn_op {op : Operator} {r : R2} {f : D → D → R (List D)} (ho : OpR X (binaryOp op) r) (hs : RSnN X.K (g0 X.mg) r f) (ha : ME X (kE E) a ta ma) (hb : ME X (kE E) b tb mb) : MN X E (.BinOp a op b pos) (tOp r ta tb) (fun ρ => o2N f (ma ρ) (mb ρ)) := by
  obtain ⟨pa, sa⟩ := ha
  obtain ⟨pb, sb⟩ := hb
  refine ⟨pe_op ho pa pb, fun σ I H ρ Q re ex h => ?_⟩
  refine sa.runN re ex h fun d v I1 H1 _ st rx h => ?_
  refine sb.runN (re.mono st.i) st.e h fun d2 v2 I2 H2 _ st2 ry h => ?_
  obtain ⟨z, hz, h⟩ := outN_calm h
  exact hs v v2 I2 H2 d d2 z Q st2.e (rx.mono st2.i) ry hz h
end
def gdL (c : Prop) [Decidable c] (ds : List D) : R (List D) := if c then .ok ds else .stuck
theorem gdL_of {c : Prop} [Decidable c] {d e : List D} (h : gdL c d = .ok e) : c ∧ d = e := by
  unfold gdL at h
  by_cases hc : c
  · rw [if_pos hc] at h
    cases h
    exact ⟨hc, rfl⟩
  · rw [if_neg hc] at h
    cases h
def catN : D → D → R (List D)
  | .lst xs, .lst ys => gdL (xs.length + ys.length ≤ LIM) (xs ++ ys)
  | _, _ => .stuck
theorem rs_catN {K : PySem.W.Frag} {mg : Gm} : RSnN K mg (rAddX K) catN := by
  intro x y I H dx dy d Q ex rx ry h q
  cases rx with
  | @lst a vs ds ha ra =>
    cases ry with
    | @lst b ws es hb rb =>
      obtain ⟨hl, rfl⟩ := gdL_of h
      exact .inr (.inl ⟨a, b, vs, ws, rfl, rfl, ex _ _ ha, ex _ _ hb, lim_ok (by rw [ra.len, rb.len]; exact hl), fun p hp => q.at ex hp (ra.app rb)⟩)
    | _ => cases h
  | _ => cases h
def repN : D → D → R (List D)
  | .lst xs, .int k => gdL (0 ≤ k ∧ k ≤ LIM ∧ xs.length * k.toNat ≤ LIM) (List.replicate k.toNat xs).flatten
  | _, _ => .stuck
theorem rs_repN {K : PySem.W.Frag} {mg : Gm} : RSnN K mg rMulX repN := by
  intro x y I H dx dy d Q ex rx ry h q
  cases rx with
  | @lst a vs ds ha ra =>
    cases ry with
    | int k =>
      obtain ⟨⟨h0, h1, h2⟩, rfl⟩ := gdL_of h
      have h1 : k ≤ 1000000 := h1
      exact .inr ⟨a, k, vs, rfl, rfl, ex _ _ ha, by omega, by omega, lim_ok (by rw [ra.len]; exact h2), fun p hp => q.at ex hp (ra.rep _)⟩
    | _ => cases h
  | _ => cases h
def SSnN (K : PySem.W.Frag) (mg : Gm) (r : V → Option Int → Option Int → Hp → VK → Prop) (f : D → Option Int → Option Int → R (List D)) : Prop :=
  ∀ (x : V) (lo hi : Option Int) (I H : Hp) (dx : D) (ds : List D) (Q : VK), Same I H → Rep K mg I x dx → f dx lo hi = .ok ds → NewL K mg I H ds Q → r x lo hi H Q
def o3N (f : D → Option Int → Option Int → R (List D)) (a : R D) (l u : R (Option Int)) : R (List D) := a >>= fun d => l >>= fun lo => u >>= fun hi => calm (f d lo hi)
theorem mn_slice {X : Cx} {E : XK} {a : Expr} {ta : TE} {tl th : TO} {ma : Env → R D} {pos : Pos} {lo hi : Option Expr} {p2 : Pos} {r : V → Option Int → Option Int → Hp → VK → Prop} {f : D → Option Int → Option Int → R (List D)} {ml mh : Env → R (Option Int)} (hr : SlR X r) (hs : SSnN X.K (g0 X.mg) r f) (ha : ME X (kE E) a ta ma) (hl : MO X (kE E) lo tl ml) (hh : MO X (kE E) hi th mh) :
    MN X E (.Subscript a (.Slice lo hi none p2) pos) (tSl r ta tl th) (fun ρ => o3N f (ma ρ) (ml ρ) (mh ρ)) := by
  obtain ⟨pt, st⟩ := ha
  obtain ⟨pl, sl⟩ := hl
  obtain ⟨ph, sh⟩ := hh
  refine ⟨pe_slice hr pt pl ph, fun σ I H ρ Q re ex h => ?_⟩
  refine st.runN re ex h fun d v I1 H1 _ s1 rx h => ?_
  refine sl.runN (re.mono s1.i) s1.e h fun l l' I2 H2 _ s2 e1 h => ?_
  cases e1
  refine sh.runN ((re.mono s1.i).mono s2.i) s2.e h fun u u' I3 H3 _ s3 e2 h => ?_
  cases e2
  obtain ⟨z, hz, h⟩ := outN_calm h
  exact hs v _ _ I3 H3 d z Q s3.e ((rx.mono s2.i).mono s3.i) hz h
def cutN : D → Option Int → Option Int → R (List D)
  | .lst ds, lo, hi => .ok (cutD ds lo hi)
  | _, _, _ => .stuck
theorem ss_cutN {K : PySem.W.Frag} {mg : Gm} : SSnN K mg (rSlX K) cutN := by
  intro x lo hi I H dx d Q ex rx h q
  cases rx with
  | @lst a vs ds ha ra =>
    cases h
    exact .inl ⟨_, _, rfl, SqL.of (ex _ _ ha), fun p hp => q.at ex hp (ra.cut lo hi)⟩
  | _ => cases h
/-- sorted(rows) as a list of one's own -/
def sortedLA (ds : List D) : R (List D) := match sortedA ds with
  | .ok (.lst es) => .ok es
  | _ => .stuck
end DL
namespace DL
open PySem PySem.Spec PyProof.Rows L2

/-! ### new lists that read what is one's own -/
section
variable {K : PySem.W.Frag} {mg : Gm} {E : XK} {Mb M M' M1 : List Nat} {Ie : Hp × Addr} {He I H I' H' : Hp} {σ : L2.St} {ρ : Env} {D0 : Ends} {I0 : Hp}
theorem Reps.lessA {J I : Hp} {bad : Nat → Prop} (l : Less J I bad) : ∀ {vs : List V} {ds : List D}, Reps K mg I vs ds → (∀ d ∈ ds, ∀ k, bad k → D.has k d = false) → Reps K mg J vs ds
  | _, _, .nil, _ => .nil
  | _, _, .cons h r, q => .cons (h.less l (q _ List.mem_cons_self)) (Reps.lessA l r fun d hd => q d (List.mem_cons_of_mem _ hd))
theorem SnN.mild {te : L2.St → Hp → (V → Hp → Prop) → Prop} {m : Env → R (List D)} {k : List D → R Fl} {P : V → Hp → Prop} (h : SnN K mg E te m) (s : SE K mg M Ie He σ I H ρ) (hq : OutS K mg E Mb M' Ie He I0 D0 (m ρ >>= fun ds => if ds.all (keepOk M ρ) = true then k ds else .stuck))
    (hk : ∀ ds p vs I' H', SE K mg M Ie He σ I' H' ρ → Stp I H I' H' → I' p = none → H p = none → H' p = some (.lst vs) → Reps K mg I' vs ds → OutS K mg E Mb M' Ie He I0 D0 (k ds) → P (.ref p) H') : te σ H P := by
  obtain ⟨I1, k1, s1, f1⟩ := s.all2
  refine h σ I1 H _ P (RE.of s1) s1.st.e ?_
  cases e : m ρ with
  | err nm es =>
    rw [e] at hq
    exact fun C od I2 H2 t x => hq C od I2 H2 (s1.st.trans t) x
  | stuck =>
    rw [e] at hq
    exact hq.elim
  | ok ds =>
  rw [e] at hq
  have q : OutS K mg E Mb M' Ie He I0 D0 (if ds.all (keepOk M ρ) = true then k ds else .stuck) := hq
  intro p vs I2 H2 t n1 n2 hp r
  by_cases hd : ds.all (keepOk M ρ) = true
  · rw [if_pos hd] at q
    classical
    let J : Hp := fun a => if I a = none ∧ I1 a ≠ none then none else I2 a
    have ji : Same I J := fun a o z => by
      show (if I a = none ∧ I1 a ≠ none then none else I2 a) = some o
      rw [if_neg (fun w => by rw [z] at w; cases w.1)]
      exact t.i _ _ (k1 _ _ z)
    have jh : Same J H2 := fun a o z => by
      have z : (if I a = none ∧ I1 a ≠ none then none else I2 a) = some o := z
      split at z
      · cases z
      · exact t.e _ _ z
    have jf : ∀ a o, J a = some o → I a = some o ∨ Fr H a o := fun a o z => by
      have z : (if I a = none ∧ I1 a ≠ none then none else I2 a) = some o := z
      split at z
      · cases z
      · rename_i w
        rcases t.f _ _ z with y | y
        · cases e : I a with
          | none => exact absurd ⟨e, by rw [y]; exact fun w => by cases w⟩ w
          | some o' =>
            have := k1 _ _ e
            rw [y] at this
            cases this
            exact .inl rfl
        · exact .inr y
    have st : Stp I H J H2 := ⟨ji, t.h, jh, jf⟩
    have less : Less J I2 (fun kd => ∃ i ∈ M, ∃ d0, ρ[i]? = some (some d0) ∧ (kd = d0.kind ∨ (deep M i = true ∧ kd = 0))) := ⟨fun a o z => by
      by_cases w : I a = none ∧ I1 a ≠ none
      · cases e : I1 a with
        | none => exact absurd e w.2
        | some o' =>
          have z2 := t.i _ _ e
          rw [z] at z2
          cases z2
          rcases f1 a o e with y | ⟨i, hi, d0, q1, q2, q3⟩
          · rw [w.1] at y
            cases y
          · exact .inr ⟨⟨i, hi, d0, q1, q2⟩, q3⟩
      · refine .inl ?_
        show (if I a = none ∧ I1 a ≠ none then none else I2 a) = some o
        rw [if_neg w]
        exact z⟩
    have jp : J p = none := by
      show (if I p = none ∧ I1 p ≠ none then none else I2 p) = none
      split
      · rfl
      · exact n1
    refine hk ds p vs J H2 (s.step st) st jp n2 hp (r.lessA less fun d hm kd ⟨i, hi, d0, q1, q2⟩ => ?_) q
    obtain ⟨k1, k2⟩ := keepOk_of (List.all_eq_true.mp hd d hm) hi q1
    rcases q2 with rfl | ⟨y, rfl⟩
    · exact k1
    · exact k2 y
  · rw [if_neg hd] at q
    exact q.elim
end
section
variable {X : Cx} {E : XK} {Mb M M' M1 : List Nat} {e : Expr} {te : TE} {m : Env → R D} {ml : Env → R (List D)} {pos : Pos} {x : Str}
def appSV (M : List Nat) (i : Nat) (ρ : Env) (a : R D) : R Fl := calm (ownD ρ i) >>= fun ds => a >>= fun d => if keepOk M ρ d = true then (if ds.length < LIM then .ok (.nx (ρ.set i (some (.lst (ds ++ [d]))))) else .stuck) else .stuck
theorem ms_appV (i : Nat) {px pa pc : Pos} (he : ME X (kE E) e te m) (hi : X.N[i]? = some x := by rfl) (hv : Vis X.env.scope x := by first | exact Or.inl rfl | exact Or.inr (Or.inl rfl)) (hM : i ∈ M := by decide) (hD : deep M i = false := by decide)
    (hp : PE X e te → PE X (.Call (.Attribute (.Name x px) "append" pa) [e] [] pc) (tBM X.K "list" rAppend (tVar i) (tCons te tNil))) (hs : swapsWith (.Call (.Attribute (.Name x px) "append" pa) [e] [] pc) none pos.line X.env = pure false := by rfl) :
    MS X E Mb M M (.Expr (.Call (.Attribute (.Name x px) "append" pa) [e] [] pc) pos) (tDrop (tBM X.K "list" rAppend (tVar i) (tCons te tNil))) (fun ρ => appSV M i ρ (m ρ)) :=
  ⟨ps_expr (hp he.pe) hs, fun Ie He σ I H ρ D0 s h => by
    obtain ⟨ds, ho, h⟩ := outS_calm h
    have q := ownD_of ho
    obtain ⟨p, vs, ds', e1, h2, h3, h4, h5, h6⟩ := s.ownL i _ hM hD q
    cases e1
    refine ⟨_, h2, .inl ⟨rfl, vs, SqL.of h5⟩, he.sn.mild s h fun d v I1 H1 s1 t r k => ?_⟩
    obtain ⟨hl, k⟩ := outS_if k
    obtain ⟨p', vs', ds', e1, g2, g3, g4, g5, g6⟩ := s1.ownL i _ hM hD q
    cases e1
    rw [h2] at g2
    cases g2
    refine ⟨p, vs', v, rfl, rfl, g5, lim_lt (by rw [g6.len]; omega), k _ I1 _ (s1.put hM q h2 (g6.app (.cons r .nil)) hD) t.i⟩⟩
def appSF (M : List Nat) (i : Nat) (ρ : Env) (a : R (List D)) : R Fl := calm (ownD ρ i) >>= fun ds => a >>= fun es => if es.all (keepOk M ρ) = true then (if ds.length < LIM then .ok (.nx (ρ.set i (some (.lst (ds ++ [.lst es]))))) else .stuck) else .stuck
theorem ms_appF (i : Nat) {px pa pc : Pos} (he : MN X E e te ml) (hi : X.N[i]? = some x := by rfl) (hv : Vis X.env.scope x := by first | exact Or.inl rfl | exact Or.inr (Or.inl rfl)) (hM : i ∈ M := by decide) (hD : deep M i = false := by decide)
    (hp : PE X e te → PE X (.Call (.Attribute (.Name x px) "append" pa) [e] [] pc) (tBM X.K "list" rAppend (tVar i) (tCons te tNil))) (hs : swapsWith (.Call (.Attribute (.Name x px) "append" pa) [e] [] pc) none pos.line X.env = pure false := by rfl) :
    MS X E Mb M M (.Expr (.Call (.Attribute (.Name x px) "append" pa) [e] [] pc) pos) (tDrop (tBM X.K "list" rAppend (tVar i) (tCons te tNil))) (fun ρ => appSF M i ρ (ml ρ)) :=
  ⟨ps_expr (hp he.pe) hs, fun Ie He σ I H ρ D0 s h => by
    obtain ⟨ds, ho, h⟩ := outS_calm h
    have q := ownD_of ho
    obtain ⟨p, vs, ds', e1, h2, h3, h4, h5, h6⟩ := s.ownL i _ hM hD q
    cases e1
    refine ⟨_, h2, .inl ⟨rfl, vs, SqL.of h5⟩, he.sn.mild s h fun es p2 ws I1 H1 s1 t n1 n2 hp2 r k => ?_⟩
    obtain ⟨hl, k⟩ := outS_if k
    obtain ⟨t2, r2⟩ := stp_put t n1 n2 hp2 r
    have s2 := s.step t2
    obtain ⟨p', vs', ds', e1, g2, g3, g4, g5, g6⟩ := s2.ownL i _ hM hD q
    cases e1
    rw [h2] at g2
    cases g2
    refine ⟨p, vs', _, rfl, rfl, g5, lim_lt (by rw [g6.len]; omega), k _ _ _ (s2.put hM q h2 (g6.app (.cons r2 .nil)) hD) t2.i⟩⟩
/-- a slot beside one's own gets a new list -/
def asgF (M : List Nat) (i : Nat) (ρ : Env) (a : R (List D)) : R Fl := a >>= fun es => if es.all (keepOk M ρ) = true then .ok (.nx (ρ.set i (some (.lst es)))) else .stuck
theorem ms_setF (i : Nat) {px : Pos} (hN : X.N.Nodup) (he : MN X E e te ml) (hi : X.N[i]? = some x := by rfl) (hx : Loc X.env.scope x := by first | exact .inl rfl | exact .inr rfl) (hM : i ∉ M := by decide) (hs : swapsWith e (some (.Name x px)) pos.line X.env = pure false := by rfl) (hf : X.fn x = true ∨ X.env.scope.names.lookup x = some .local := by first | exact .inl rfl | exact .inr rfl) :
    MS X E Mb M M (.Assign [.Name x px] e pos) (tAsg te (gName i)) (fun ρ => asgF M i ρ (ml ρ)) :=
  ⟨ps_set hN hi hx he.pe hs hf, fun Ie He σ I H ρ D0 s h => he.sn.mild s h fun es p2 ws I1 H1 s1 t n1 n2 hp2 r k => by
    obtain ⟨t2, r2⟩ := stp_put t n1 n2 hp2 r
    exact k _ _ _ ((s.step t2).set hM r2) t2.i⟩
theorem ms_retFW (he : MN X E e te ml) : MS X E Mb M M' (.Return (some e) pos) (tRet te) (fun ρ => retF (ml ρ)) :=
  ⟨ps_ret he.pe, fun Ie He σ I H ρ D0 s h => by
    obtain ⟨I1, k1, s1⟩ := s.all
    refine he.sn σ I1 H _ _ (RE.of s1) s1.st.e ?_
    have h : OutS X.K (g0 X.mg) E Mb M' Ie He I D0 (retF (ml ρ)) := h
    cases q : ml ρ with
    | ok ds =>
      rw [q] at h
      exact fun p vs I2 H2 t n1 n2 hp r => h p vs I2 H2 (s1.st.trans t) n1 (s1.st.h.free n2) hp r
    | err nm ds =>
      rw [q] at h
      exact fun C od I2 H2 t xr => h C od I2 H2 (s1.st.trans t) xr
    | stuck =>
      rw [q] at h
      exact h.elim⟩
end
end DL
namespace DL
open PySem PySem.Spec PyProof.Rows L2

/-! ### {k: v for x in d if ..}, d a dict -/
section
variable {X : Cx} {E : Wh} {kx vx tg iter : Expr} {ifs : List Expr} {scope : Scope} {own : List (Str × Nat)} {pos : Pos} {wi : TI} {g : TG} {tt : TT} {tk tv : TE} {mi : Env → R (List D)} {ag : D → R As} {mt : Env → R Bool} {mk mv : Env → R D}
theorem dc_core {K : PySem.W.Frag} {mg : Gm} {E1 : XK} {vs : List Nat} {σ : L2.St} {ρ : Env} {I1 H1 : Hp} {ds : List D} {J : It} {Q : VK} (sg : SnG K mg g ag) (st : Sn K mg (fun _ => E0) rB tt mt) (sk : Sn K mg (fun _ => E0) (Rep K mg) tk mk) (se : Sn K mg (fun _ => E0) (Rep K mg) tv mv) (hv : ∀ d as, ag d = .ok as → ∀ p ∈ as, p.1 ∈ vs) (re : RE K mg I1 σ ρ) (ex : Same I1 H1) (it : ItOk K mg I1 J ds)
    (h : Out K mg E1 (Rep K mg) I1 H1 (if ds.length ≤ LIM then calm (dcGo ag mt mk mv (wipeE ρ vs) ds [] []) else .stuck) Q) : tDcT (fun _ H R => R J H) g tt tk tv vs σ H1 Q := by
  intro D0 hD
  obtain ⟨hl, h⟩ := out_if h
  cases eo : dcGo ag mt mk mv (wipeE ρ vs) ds [] [] with
  | err _ _ =>
    rw [eo] at h
    exact h.elim
  | stuck =>
    rw [eo] at h
    exact h.elim
  | ok out =>
    rw [eo] at h
    have h : Out K mg E1 (Rep K mg) I1 H1 (.ok out) Q := h
    refine ⟨fun i m H => m = ds.length - i ∧ i ≤ ds.length ∧ ∃ I2 ks es, DcAt K mg I1 H1 D0 i ks es I2 H ∧ dcGo ag mt mk mv (wipeE ρ vs) (ds.drop i) ks es = .ok out, ⟨ds.length, by simp, Nat.zero_le _, I1, [], [], .start ex hD, eo⟩, ?_⟩
    rintro i m H2 ⟨rfl, hi, I2, ks, es, p, hr⟩
    have hit := it I2 H2 p.i p.e
    by_cases hlt : i < ds.length
    · have hd : ds[i]? = some ds[i] := List.getElem?_eq_getElem hlt
      obtain ⟨hgo, hy⟩ := hit.1 i _ hd
      refine .inr ⟨hgo, fun H' => ∃ I2 ks es, DcAt K mg I1 H1 D0 (i + 1) ks es I2 H' ∧ dcGo ag mt mk mv (wipeE ρ vs) (ds.drop (i + 1)) ks es = .ok out, fun H' hN => ⟨ds.length - (i + 1), by omega, rfl, hlt, hN⟩, fun x H' y => ?_⟩
      obtain ⟨I3, s3, rx⟩ := hy x H' y
      rw [List.drop_eq_getElem_cons hlt] at hr
      unfold dcGo at hr
      obtain ⟨as, ha, hr⟩ := bind_ok hr
      have ha := calm_of ha
      obtain ⟨b, hb, hr⟩ := bind_ok hr
      have hb := calm_of hb
      refine sg x _ I3 H' _ as _ s3.e rx ha fun us ar => ?_
      have hus : ∀ p ∈ us, p.1 ∈ vs := fun p hp => by
        have hm : p.1 ∈ as.map (·.1) := by
          rw [← ar.slots]
          exact List.mem_map_of_mem hp
        obtain ⟨q, hq, e⟩ := List.mem_map.mp hm
        rw [← e]
        exact hv _ _ ha q hq
      refine ⟨by rw [wipe_setS hus, wipe_wipe], ?_⟩
      have re3 : RE K mg I3 (setS (wipe σ vs) us) (setE (wipeE ρ vs) as) := RE.setAll ar ((re.mono (p.i.trans s3.i)).wipe vs)
      have p3 := p.step s3
      refine st _ I3 H' _ _ re3 s3.e ?_
      rw [hb]
      intro b' I4 H4 s4 eb
      have eb : b' = b := eb
      subst eb
      have p4 := p3.step s4
      cases b' with
      | true =>
        show tk _ H4 _
        rw [if_pos rfl] at hr
        obtain ⟨kd, hkd, hr1⟩ := bind_ok hr
        have hkd := calm_of hkd
        obtain ⟨k, hk, hr2⟩ := bind_ok hr1
        have hk := calm_of hk
        obtain ⟨yd, hyd, hr3⟩ := bind_ok hr2
        have hyd := calm_of hyd
        clear hr hr1 hr2
        refine sk _ I4 H4 _ _ (re3.mono s4.i) s4.e ?_
        rw [hkd]
        intro kv I5 H5 s5 rk
        refine se _ I5 H5 _ _ ((re3.mono s4.i).mono s5.i) s5.e ?_
        rw [hyd]
        intro yv I6 H6 s6 ry
        obtain ⟨kvs, h1, h2, p6⟩ := ((p4.step s5).step s6).push hD k ry (by omega)
        cases rk with
        | @tup q ws es2 hq rws =>
          have hk : (match keysD es2 with | some k => R.ok k | none => .stuck) = .ok k := hk
          cases e2 : keysD es2 with
          | none =>
            rw [e2] at hk
            cases hk
          | some k2 =>
            rw [e2] at hk
            cases hk
            have := keysD_v rws e2
            subst this
            exact ⟨kvs, k, q, rfl, s6.h _ _ (s5.e _ _ hq), h1, h2, I6, _, _, p6, hr3⟩
        | _ => cases hk
      | false =>
        rw [if_neg (by decide)] at hr
        exact ⟨I4, ks, es, p4.skip, hr⟩
    · have e : i = ds.length := by omega
      subst e
      rw [List.drop_length] at hr
      cases hr
      obtain ⟨I', s', r'⟩ := p.done hD
      exact .inl ⟨hit.2, h.there s' r'⟩
end
def dcK (i : Nat) (vs : List Nat) (ag : D → R As) (mt : Env → R Bool) (mk mv : Env → R D) : Env → R D :=
  fun ρ => calm (get ρ i >>= keysI) >>= fun ds => calm (if ds.length ≤ LIM then calm (dcGo ag mt mk mv (wipeE ρ vs) ds [] []) else .stuck)
section
variable {X : Cx} {E : Wh} {kx vx tg : Expr} {ifs : List Expr} {scope : Scope} {own : List (Str × Nat)} {pos p : Pos} {g : TG} {tt : TT} {tk tv : TE} {ag : D → R As} {mt : Env → R Bool} {mk mv : Env → R D} {x : Str}
theorem me_dcK (i : Nat) (hu : X.A.units + 1 < cLine) (hc : X.calm = true) (hN : X.N.Nodup) (ok : BlkOk X.N X.env.scope scope own)
    (hg : ∀ (s : Shared) (H : Hp) (C : Addr) (cl : List (Str × Addr)) (fp : List Addr), MG (X.blk s H scope (compEnvC scope cl C X.env) fp) tg g ag) (ht : ∀ (s : Shared) (H : Hp) (C : Addr) (cl : List (Str × Addr)) (fp : List Addr), MTs (X.blk s H scope (compEnvC scope cl C X.env) fp) E.calm ifs tt mt)
    (hk : ∀ (s : Shared) (H : Hp) (C : Addr) (cl : List (Str × Addr)) (fp : List Addr), ME (X.blk s H scope (compEnvC scope cl C X.env) fp) E.calm kx tk mk) (he : ∀ (s : Shared) (H : Hp) (C : Addr) (cl : List (Str × Addr)) (fp : List Addr), ME (X.blk s H scope (compEnvC scope cl C X.env) fp) E.calm vx tv mv) (hv : AgIn ag (· ∈ own.map (·.2)))
    (hi : X.N[i]? = some x := by rfl) (hvi : Vis X.env.scope x := by first | exact Or.inl rfl | exact Or.inr (Or.inl rfl) | exact Or.inr (Or.inr rfl)) (hs : ∀ y, foldedSetIterable (.Name x p) X.env y = pure y := by intro _; rfl) (hd : (x == ("__debug__" : Str)) = false := by decide) (hcd : (x == ("__classdict__" : Str)) = false := by decide) :
    ME X E (.DictComp kx vx [⟨tg, .Name x p, ifs, 0⟩] scope pos) (fun σ H Q => tLockE (tDcT (iKeys (tVar i)) g tt tk tv (own.map (·.2))) σ H Q ∨ tDcT (iKeys (tVar i)) g tt tk tv (own.map (·.2)) σ H Q) (dcK i (own.map (·.2)) ag mt mk mv) := by
  have hp : PE X (.DictComp kx vx [⟨tg, .Name x p, ifs, 0⟩] scope pos) (tDcT (iKeys (tVar i)) g tt tk tv (own.map (·.2))) := pe_dcT hu hc hN (pi_keys (pe_var (i := i) hi hvi hd hcd)) ok (fun s H C cl fp => (hg s H C cl fp).pe) (fun s H C cl fp => (ht s H C cl fp).pe) (fun s H C cl fp => (hk s H C cl fp).pe) (fun s H C cl fp => (he s H C cl fp).pe) hs
  have sg := (hg X.s_0 X.H_0 0 [] []).sn E.x
  have st := (ht X.s_0 X.H_0 0 [] []).sn
  have sk := (hk X.s_0 X.H_0 0 [] []).sn
  have se := (he X.s_0 X.H_0 0 [] []).sn
  refine ⟨pe_orE (pe_lock hp) hp, fun σ I H ρ Q re ex h => ?_⟩
  unfold dcK at h
  cases q : (ρ : List (Option D))[i]? with
  | none =>
    simp only [get, q] at h
    exact h.elim
  | some o =>
    cases o with
    | none =>
      simp only [get, q] at h
      exact h.elim
    | some d =>
      obtain ⟨v, hv1, rv⟩ := re.at_ i d q
      have hget : get ρ i = .ok d := by simp only [get, q]
      rw [hget] at h
      -- the walk over the locked dict
      have core : ∀ (ds : List D) (J : It) (I1 H1 : Hp) (Q1 : VK), RE X.K (gm X E) I1 σ ρ → Same I1 H1 → ItOk X.K (gm X E) I1 J ds → (∀ z, (if ds.length ≤ LIM then calm (dcGo ag mt mk mv (wipeE ρ (own.map (·.2))) ds [] []) else .stuck : R D) = .ok z → ∀ w I' H', Stp I1 H1 I' H' → Rep X.K (gm X E) I' w z → Q1 w H') →
          (∃ z, (if ds.length ≤ LIM then calm (dcGo ag mt mk mv (wipeE ρ (own.map (·.2))) ds [] []) else .stuck : R D) = .ok z) → tDcT (fun _ H R => R J H) g tt tk tv (own.map (·.2)) σ H1 Q1 := by
        intro ds J I1 H1 Q1 re1 ex1 it hq ⟨z, hz⟩
        refine dc_core (E1 := E0) sg st sk se hv re1 ex1 it ?_
        rw [hz]
        exact fun w I' H' s r => hq z hz w I' H' s r
      cases rv with
      | @dk a kvs ds ha ra =>
        have h : Out X.K (gm X E) (E.e σ) (Rep X.K (gm X E)) I H (calm (if ((kvs.map (·.1)).map keyDD).length ≤ LIM then calm (dcGo ag mt mk mv (wipeE ρ (own.map (·.2))) ((kvs.map (·.1)).map keyDD) [] []) else .stuck)) Q := h
        obtain ⟨z, hz, h9⟩ := out_calm h
        rcases ha with ha | ⟨o, ha⟩
        · refine .inl ⟨a, .dK kvs, ex _ _ ha, trivial, fun od => ⟨.ref a, hv1, a, od, rfl, .inl ⟨kvs, upd_same, ?_⟩⟩⟩
          refine core _ (Itk a od kvs) (upd I a (.frz od (.dK kvs))) _ (fun v H' => H' a = some (.frz od (.dK kvs)) ∧ Q v (upd H' a (.dK kvs))) ⟨re.len, fun j d' q' => ?_⟩ (lock_same ex ha _) (it_keys upd_same) (fun z' hz' w I' H' s r => ?_) ⟨z, hz⟩
          · obtain ⟨v', a', b'⟩ := re.at_ j d' q'
            exact ⟨v', a', b'.lock (u := .dK kvs) trivial ha⟩
          · rw [hz] at hz'
            cases hz'
            exact ⟨s.h _ _ upd_same, h9 w _ _ (Stp.unlock ha (ex _ _ ha) s) (r.unlock (u := .dK kvs) trivial (s.i _ _ upd_same))⟩
        · refine .inr ⟨.ref a, hv1, a, o, rfl, .inl ⟨kvs, ex _ _ ha, ?_⟩⟩
          refine core _ (Itk a o kvs) I H Q re ex (it_keys ha) (fun z' hz' w I' H' s r => ?_) ⟨z, hz⟩
          rw [hz] at hz'
          cases hz'
          exact h9 w I' H' s r
      | @dt a kvs ds ha ra =>
        have h : Out X.K (gm X E) (E.e σ) (Rep X.K (gm X E)) I H (calm (if ((kvs.map (·.1)).map fun k => D.tup (k.map keyDD)).length ≤ LIM then calm (dcGo ag mt mk mv (wipeE ρ (own.map (·.2))) ((kvs.map (·.1)).map fun k => D.tup (k.map keyDD)) [] []) else .stuck)) Q := h
        obtain ⟨z, hz, h9⟩ := out_calm h
        rcases ha with ha | ⟨o, ha⟩
        · refine .inl ⟨a, .dT kvs, ex _ _ ha, trivial, fun od => ⟨.ref a, hv1, a, od, rfl, .inr ⟨kvs, upd_same, ?_⟩⟩⟩
          refine core _ (Itkt a od kvs) (upd I a (.frz od (.dT kvs))) _ (fun v H' => H' a = some (.frz od (.dT kvs)) ∧ Q v (upd H' a (.dT kvs))) ⟨re.len, fun j d' q' => ?_⟩ (lock_same ex ha _) (it_keysT upd_same) (fun z' hz' w I' H' s r => ?_) ⟨z, hz⟩
          · obtain ⟨v', a', b'⟩ := re.at_ j d' q'
            exact ⟨v', a', b'.lock (u := .dT kvs) trivial ha⟩
          · rw [hz] at hz'
            cases hz'
            exact ⟨s.h _ _ upd_same, h9 w _ _ (Stp.unlock ha (ex _ _ ha) s) (r.unlock (u := .dT kvs) trivial (s.i _ _ upd_same))⟩
        · refine .inr ⟨.ref a, hv1, a, o, rfl, .inr ⟨kvs, ex _ _ ha, ?_⟩⟩
          refine core _ (Itkt a o kvs) I H Q re ex (it_keysT ha) (fun z' hz' w I' H' s r => ?_) ⟨z, hz⟩
          rw [hz] at hz'
          cases hz'
          exact h9 w I' H' s r
      | _ => exact h.elim
end
end DL
namespace DL
open PySem PySem.Spec PyProof.Rows L2
/-! ### the same rules, the fragment given by name (for comprehensions) -/
section
variable {X : Cx} {E : Wh} {a : Expr} {ta : TE} {ma : Env → R D} {pos p p2 q : Pos}
theorem me_fldK (K : PySem.W.Frag) (ns : List Str) {g : Str} (hT : ClF X.K (gm X E) ns g) (ha : ME X E a ta ma) (hb : attributeBase a g X.env (eval a X.env) = eval a X.env := by rfl) (hK : X.K = K := by rfl) : ME X E (.Attribute a g pos) (tFld K ta g) (fun ρ => o1 (fldD ns g) (ma ρ)) := by
  subst hK
  exact me_fld ns hT ha hb
theorem me_lenSetK (K : PySem.W.Frag) (hc : X.calm = true) (hg : Gl X "len") (hm : X.mg "len" = none) (hg2 : Gl X "set") (hm2 : X.mg "set" = none) (ha : ME X E a ta ma) (na : starEach [a] X.env = [(false, eval a X.env)] := by rfl) (hK : X.K = K := by rfl) :
    ME X E (.Call (.Name "len" p) [.Call (.Name "set" p2) [a] [] q] [] pos) (tLenSetA K ta) (fun ρ => o1 lenSetD (ma ρ)) := by
  subst hK
  exact me_lenSet hc hg hm hg2 hm2 ha na
end
/-- a comprehension within one: what is asked of its names -/
theorem blkOk_in {X : Cx} {s : Shared} {H : Hp} {C : Addr} {cl : List (Str × Addr)} {fp : List Addr} {sc scope : Scope} {own : List (Str × Nat)} {N : List Str} (h : blkC N sc scope own = true) (hN : X.N = N := by rfl) : BlkOk (X.blk s H sc (compEnvC sc cl C X.env) fp).N (X.blk s H sc (compEnvC sc cl C X.env) fp).env.scope scope own := by
  subst hN
  obtain ⟨h1, h2, h3, h4, h5⟩ := blkOk_by h
  refine ⟨h1, h2, h3, fun y hy hf => ?_, h5⟩
  have key : ∀ {names : List (Str × NameKind)} {x : Str}, names.lookup x = some .cell ∨ names.lookup x = some .free →
      (names.map fun (n, k) => if (k == NameKind.free && X.env.scope.kind == .function && X.env.kindOf n == some .cell) then (n, NameKind.cell) else (n, k)).lookup x = some .cell ∨
      (names.map fun (n, k) => if (k == NameKind.free && X.env.scope.kind == .function && X.env.kindOf n == some .cell) then (n, NameKind.cell) else (n, k)).lookup x = some .free := by
    intro names
    induction names with
    | nil => intro x hx; rcases hx with hx | hx <;> simp at hx
    | cons p r ih =>
      intro x hx
      obtain ⟨n, k⟩ := p
      rw [List.map_cons]
      by_cases e : (x == n) = true
      · rw [List.lookup_cons, e] at hx
        have hk : k = .cell ∨ k = .free := by rcases hx with hx | hx <;> cases hx <;> simp
        show List.lookup x ((if (k == NameKind.free && X.env.scope.kind == .function && X.env.kindOf n == some .cell) = true then (n, NameKind.cell) else (n, k)) :: _) = some .cell ∨ List.lookup x ((if (k == NameKind.free && X.env.scope.kind == .function && X.env.kindOf n == some .cell) = true then (n, NameKind.cell) else (n, k)) :: _) = some .free
        split
        · rw [List.lookup_cons, e]
          exact .inl rfl
        · rw [List.lookup_cons, e]
          rcases hk with rfl | rfl
          · exact .inl rfl
          · exact .inr rfl
      · have e : (x == n) = false := by simpa using e
        rw [List.lookup_cons, e] at hx
        show List.lookup x ((if (k == NameKind.free && X.env.scope.kind == .function && X.env.kindOf n == some .cell) = true then (n, NameKind.cell) else (n, k)) :: _) = some .cell ∨ List.lookup x ((if (k == NameKind.free && X.env.scope.kind == .function && X.env.kindOf n == some .cell) = true then (n, NameKind.cell) else (n, k)) :: _) = some .free
        split <;> (rw [List.lookup_cons, e]; exact ih (by simpa using hx))
  exact key (h4 y hy hf)
end DL
namespace DL
open PySem PySem.Spec L2

/-! ### reckoning with what a text makes -/
@[simp] theorem get_zero (d : D) (ρ : Env) : get (some d :: ρ) 0 = .ok d := rfl
@[simp] theorem get_none (ρ : Env) : get (none :: ρ) 0 = .stuck := rfl
@[simp] theorem get_succ (o : Option D) (ρ : Env) (n : Nat) : get (o :: ρ) (n + 1) = get ρ n := rfl
@[simp] theorem wipeE_nil (ρ : Env) : wipeE ρ [] = ρ := rfl
@[simp] theorem wipeE_cons (ρ : Env) (v : Nat) (vs : List Nat) : wipeE ρ (v :: vs) = (wipeE ρ vs).set v none := rfl
@[simp] theorem setE_nil (ρ : Env) : setE ρ [] = ρ := rfl
@[simp] theorem setE_cons (ρ : Env) (i : Nat) (d : D) (as : As) : setE ρ ((i, d) :: as) = setE (ρ.set i (some d)) as := rfl
@[simp] theorem calm_calm {α : Type} (r : R α) : calm (calm r) = calm r := by cases r <;> rfl
@[simp] theorem endD_rt (d : D) : endD (.rt d) = .ok d := rfl
@[simp] theorem endD_nx (ρ : Env) : endD (.nx ρ) = .ok .non := rfl
theorem runF_rt {n : Nat} {ms : Env → R Fl} {ds : List D} {d : D} (h : ms (startE n ds) = .ok (.rt d)) : runF n ms ds = .ok d := by
  unfold runF
  rw [h]
  rfl
@[simp] theorem agV_ (i : Nat) (d : D) : agV i d = .ok [(i, d)] := rfl
@[simp] theorem agN_ : agN [] = .ok [] := rfl
@[simp] theorem agC_ (ag : D → R As) (bg : List D → R As) (d : D) (ds : List D) : agC ag bg (d :: ds) = (ag d >>= fun as => bg ds >>= fun bs => .ok (as ++ bs)) := rfl
@[simp] theorem tupAs_ (n : Nat) (ag : List D → R As) (ds : List D) : tupAs n ag (.tup ds) = if ds.length = n then ag ds else .stuck := rfl
@[simp] theorem addD_int (i j : Int) : addD (.int i) (.int j) = .ok (.int (i + j)) := rfl
@[simp] theorem subD_int (i j : Int) : subD (.int i) (.int j) = .ok (.int (i - j)) := rfl
@[simp] theorem negD_int (i : Int) : negD (.int i) = .ok (.int (-i)) := rfl
@[simp] theorem leD_int (i j : Int) : leD (.int i) (.int j) = .ok (.bl (decide (i ≤ j))) := rfl
@[simp] theorem ltD_int (i j : Int) : ltD (.int i) (.int j) = .ok (.bl (decide (i < j))) := rfl
@[simp] theorem gtD_int (i j : Int) : gtD (.int i) (.int j) = .ok (.bl (decide (j < i))) := rfl
@[simp] theorem geX_int (i j : Int) : geX (.int i) (.int j) = .ok (.bl (decide (j ≤ i))) := rfl
@[simp] theorem eqD_int (i j : Int) : eqD (.int i) (.int j) = .ok (.bl (decide (i = j))) := rfl
@[simp] theorem neD_int (i j : Int) : neD (.int i) (.int j) = .ok (.bl (!decide (i = j))) := rfl
@[simp] theorem notD_bl (b : Bool) : notD (.ok (.bl b)) = .ok (.bl !b) := rfl
@[simp] theorem asI_int (i : Int) : asI (.int i) = .ok (some i) := rfl
@[simp] theorem intD_int (i : Int) : intD [.int i] = .ok (.int i) := rfl
@[simp] theorem lenD_lst (ds : List D) : lenD [.lst ds] = .ok (.int ds.length) := rfl
@[simp] theorem lenD_tup (ds : List D) : lenD [.tup ds] = .ok (.int ds.length) := rfl
@[simp] theorem lenD_scr (ns : List Int) : lenD [.scr ns] = .ok (.int ns.length) := rfl
@[simp] theorem itemsD_lst (ds : List D) : itemsD (.lst ds) = .ok ds := rfl
@[simp] theorem itemsD_tup (ds : List D) : itemsD (.tup ds) = .ok ds := rfl
@[simp] theorem tupleD_lst (ds : List D) : tupleD [.lst ds] = .ok (.tup ds) := rfl
@[simp] theorem tupleD_tup (ds : List D) : tupleD [.tup ds] = .ok (.tup ds) := rfl
@[simp] theorem listD_lst (ds : List D) : listD [.lst ds] = .ok (.lst ds) := rfl
@[simp] theorem listL_lst (ds : List D) : listL [.lst ds] = .ok ds := rfl
@[simp] theorem listL_tup (ds : List D) : listL [.tup ds] = .ok ds := rfl
@[simp] theorem sliceD_lst (ds : List D) (l u : Option Int) : sliceD (.lst ds) l u = .ok (.lst (cutD ds l u)) := rfl
@[simp] theorem sliceD_tup (ds : List D) (l u : Option Int) : sliceD (.tup ds) l u = .ok (.tup (cutD ds l u)) := rfl
@[simp] theorem sortedD_lst (ns : List Int) : sortedD [.lst (ns.map D.int)] = .ok (.lst ((sortI ns).map D.int)) := by
  show (match intsOf (ns.map D.int) with | some ns => R.ok (D.lst ((sortI ns).map D.int)) | none => .stuck) = _
  rw [intsOf_map]
@[simp] theorem sortedD_tup (ns : List Int) : sortedD [.tup (ns.map D.int)] = .ok (.lst ((sortI ns).map D.int)) := by
  show (match intsOf (ns.map D.int) with | some ns => R.ok (D.lst ((sortI ns).map D.int)) | none => .stuck) = _
  rw [intsOf_map]
@[simp] theorem anyD_ (bs : List Bool) : anyD [.lst (bs.map D.bl)] = .ok (.bl (bs.any id)) := by
  show (match blsOf (bs.map D.bl) with | some bs => R.ok (D.bl (bs.any id)) | none => .stuck) = _
  rw [blsOf_map]
@[simp] theorem allD_ (bs : List Bool) : allD [.lst (bs.map D.bl)] = .ok (.bl (bs.all id)) := by
  show (match blsOf (bs.map D.bl) with | some bs => R.ok (D.bl (bs.all id)) | none => .stuck) = _
  rw [blsOf_map]
theorem modD_int {i j : Int} (h : 0 < j) : modD (.int i) (.int j) = .ok (.int (i % j)) := gd_ok h
theorem fdivD_int {i j : Int} (h : 0 < j ∧ j < 1073741824) : fdivD (.int i) (.int j) = .ok (.int (i / j)) := gd_ok h
theorem mulD_int {i j : Int} (h : (-(2 ^ 64) < i ∧ i < 2 ^ 64) ∨ (-(2 ^ 64) < j ∧ j < 2 ^ 64)) : mulD (.int i) (.int j) = .ok (.int (i * j)) := gd_ok h
theorem addD_lst {xs ys : List D} (h : xs.length + ys.length ≤ LIM) : addD (.lst xs) (.lst ys) = .ok (.lst (xs ++ ys)) := gd_ok h
theorem addD_tup {xs ys : List D} (h : xs.length + ys.length ≤ LIM) : addD (.tup xs) (.tup ys) = .ok (.tup (xs ++ ys)) := gd_ok h
theorem tupD_of {ds : List D} (h : ds.length ≤ LIM) : tupD ds = .ok (.tup ds) := if_pos h
theorem lstD_of {ds : List D} (h : ds.length ≤ LIM) : lstD ds = .ok (.lst ds) := if_pos h
@[simp] theorem lstD_nil : lstD [] = .ok (.lst []) := rfl
@[simp] theorem tupD_nil : tupD [] = .ok (.tup []) := rfl
@[simp] theorem tupD_1 (a : D) : tupD [a] = .ok (.tup [a]) := rfl
@[simp] theorem tupD_2 (a b : D) : tupD [a, b] = .ok (.tup [a, b]) := rfl
@[simp] theorem lstD_1 (a : D) : lstD [a] = .ok (.lst [a]) := rfl
@[simp] theorem lenOk_nil : lenOk [] = .ok [] := rfl
theorem lim63 {n : Nat} (h : n ≤ 100000) : n ≤ LIM := Nat.le_trans h (by decide)
theorem all_flat (ns : List Int) : (ns.map D.int).all D.flat = true := by
  induction ns with
  | nil => rfl
  | cons n ns ih => rw [List.map_cons, List.all_cons, ih]; rfl
theorem inB_int (x : Int) (ns : List Int) : inB (.int x) (ns.map D.int) = decide (x ∈ ns) := by
  induction ns with
  | nil => rfl
  | cons n ns ih =>
    show (eqF (.int n) (.int x) || inB (.int x) (ns.map D.int)) = _
    rw [ih]
    show ((n == x) || decide (x ∈ ns)) = decide (x ∈ n :: ns)
    by_cases h : n = x
    · subst h
      simp
    · have h2 : ¬ x = n := fun e => h e.symm
      simp [h, h2]
@[simp] theorem inD_tup (x : Int) (ns : List Int) : inD (.int x) (.tup (ns.map D.int)) = .ok (.bl (decide (x ∈ ns))) := by
  rw [← inB_int]
  exact gd_ok ⟨rfl, all_flat ns⟩
@[simp] theorem inD_lst (x : Int) (ns : List Int) : inD (.int x) (.lst (ns.map D.int)) = .ok (.bl (decide (x ∈ ns))) := by
  rw [← inB_int]
  exact gd_ok ⟨rfl, all_flat ns⟩
@[simp] theorem notInD_tup (x : Int) (ns : List Int) : notInD (.int x) (.tup (ns.map D.int)) = .ok (.bl (!decide (x ∈ ns))) := by
  unfold notInD
  rw [inD_tup]
  rfl
@[simp] theorem notInD_lst (x : Int) (ns : List Int) : notInD (.int x) (.lst (ns.map D.int)) = .ok (.bl (!decide (x ∈ ns))) := by
  unfold notInD
  rw [inD_lst]
  rfl
theorem cutD_map {α : Type} (f : α → D) (xs : List α) (l u : Option Int) : cutD (xs.map f) l u = (((xs.drop (HT.sIx xs.length 0 l)).take (HT.sIx xs.length xs.length u - HT.sIx xs.length 0 l)).map f) := by
  unfold cutD
  rw [List.length_map, List.map_take, List.map_drop]
/-- xs[:k], xs[k:] -/
theorem cutD_to {α : Type} (f : α → D) (xs : List α) (k : Nat) : cutD (xs.map f) none (some (k : Int)) = (xs.take k).map f := by
  rw [cutD_map, HT.sIx_none, HT.sIx_nat, Nat.sub_zero, List.drop_zero]
  by_cases h : k ≤ xs.length
  · rw [Nat.min_eq_left h]
  · rw [Nat.min_eq_right (by omega), List.take_of_length_le (by omega), List.take_of_length_le (by omega)]
theorem cutD_from {α : Type} (f : α → D) (xs : List α) (k : Nat) : cutD (xs.map f) (some (k : Int)) none = (xs.drop k).map f := by
  rw [cutD_map, HT.sIx_none, HT.sIx_nat]
  by_cases h : k ≤ xs.length
  · rw [Nat.min_eq_left h, List.take_of_length_le (by rw [List.length_drop]; omega)]
  · rw [Nat.min_eq_right (by omega), List.take_of_length_le (by rw [List.length_drop]; omega), List.drop_of_length_le (by omega), List.drop_of_length_le (by omega)]
theorem cutD_mid {α : Type} (f : α → D) (xs : List α) (j k : Nat) : cutD (xs.map f) (some (j : Int)) (some (k : Int)) = ((xs.take k).drop j).map f := by
  rw [cutD_map, HT.sIx_nat, HT.sIx_nat, List.drop_take]
  congr 1
  by_cases hj : j ≤ xs.length
  · rw [Nat.min_eq_left hj]
    by_cases hk : k ≤ xs.length
    · rw [Nat.min_eq_left hk]
    · rw [Nat.min_eq_right (by omega), List.take_of_length_le (by rw [List.length_drop]; exact Nat.le_refl _), List.take_of_length_le (by rw [List.length_drop]; omega)]
  · rw [Nat.min_eq_right (by omega : xs.length ≤ j), List.drop_of_length_le (Nat.le_refl _), List.drop_of_length_le (by omega), List.take_nil, List.take_nil]
theorem ixD_lst {α : Type} (f : α → D) (xs : List α) (k : Nat) {x : α} (h : xs[k]? = some x) : ixD (.lst (xs.map f)) (.int (k : Int)) = .ok (f x) := by
  show (match atI (xs.map f) (k : Int) with | some d => R.ok d | none => .stuck) = _
  rw [atI_nat (j := k) (v := f x) (by rw [List.getElem?_map, h]; rfl)]
theorem ixD_tup {α : Type} (f : α → D) (xs : List α) (k : Nat) {x : α} (h : xs[k]? = some x) : ixD (.tup (xs.map f)) (.int (k : Int)) = .ok (f x) := by
  show (match atI (xs.map f) (k : Int) with | some d => R.ok d | none => .stuck) = _
  rw [atI_nat (j := k) (v := f x) (by rw [List.getElem?_map, h]; rfl)]
theorem ixD_scr (xs : List Int) (k : Nat) {x : Int} (h : xs[k]? = some x) : ixD (.scr xs) (.int (k : Int)) = .ok (.int x) := by
  show (match atI xs (k : Int) with | some n => R.ok (D.int n) | none => .stuck) = _
  rw [atI_nat (j := k) (v := x) h]
theorem rangeD_01 (n : Nat) : rangeD 0 1 n = (List.range n).map fun (i : Nat) => D.int (i : Int) := by
  unfold rangeD
  congr 1
  funext i
  rw [Int.mul_one, Int.zero_add]
theorem rangeD_1 (lo : Int) (n : Nat) : rangeD lo 1 n = (List.range n).map fun (i : Nat) => D.int (lo + (i : Int)) := by
  unfold rangeD
  congr 1
  funext i
  rw [Int.mul_one]
theorem rg1_nat {n : Nat} (h : n ≤ LIM) : rg1 [.int (n : Int)] = .ok ((List.range n).map fun (i : Nat) => D.int (i : Int)) := by
  have h : n ≤ 1000000 := h
  have hc : -(2 ^ 62) ≤ (n : Int) ∧ (n : Int) < 2 ^ 62 := ⟨by omega, by omega⟩
  simp only [rg1]
  rw [if_pos hc, rangeD_01, Int.toNat_natCast]
/-! #### comprehensions and loops -/
theorem lcGo_map {α : Type} {ag : D → R As} {mt : Env → R Bool} {me : Env → R D} {ρ : Env} (emb : α → D) (f : α → Bool) (v : α → D) : ∀ (xs : List α), (∀ x ∈ xs, ∃ as, ag (emb x) = .ok as ∧ mt (setE ρ as) = .ok (f x) ∧ (f x = true → me (setE ρ as) = .ok (v x))) →
    lcGo ag mt me ρ (xs.map emb) = .ok ((xs.filter f).map v)
  | [], _ => rfl
  | x :: xs, h => by
    obtain ⟨as, h1, h2, h3⟩ := h x List.mem_cons_self
    have ih := lcGo_map emb f v xs fun y hy => h y (List.mem_cons_of_mem _ hy)
    rw [List.map_cons]
    unfold lcGo
    rw [h1, calm_ok, ok_bind, h2, calm_ok, ok_bind, ih, List.filter_cons]
    cases hf : f x with
    | true => rw [if_pos rfl, if_pos rfl, h3 hf, calm_ok, ok_bind, ok_bind]; rfl
    | false => rw [if_neg (by decide), if_neg (by decide)]
/-- every item is kept -/
theorem lcGo_all {α : Type} {ag : D → R As} {mt : Env → R Bool} {me : Env → R D} {ρ : Env} (emb : α → D) (v : α → D) (xs : List α) (h : ∀ x ∈ xs, ∃ as, ag (emb x) = .ok as ∧ mt (setE ρ as) = .ok true ∧ me (setE ρ as) = .ok (v x)) :
    lcGo ag mt me ρ (xs.map emb) = .ok (xs.map v) := by
  rw [lcGo_map emb (fun _ => true) v xs fun x hx => by
    obtain ⟨as, a, b, c⟩ := h x hx
    exact ⟨as, a, b, fun _ => c⟩, List.filter_eq_self.mpr (fun _ _ => rfl)]
theorem lcM_map {α : Type} {vs : List Nat} {mi : Env → R (List D)} {ag : D → R As} {mt : Env → R Bool} {me : Env → R D} {ρ : Env} (emb : α → D) (f : α → Bool) (v : α → D) (xs : List α) (hi : mi ρ = .ok (xs.map emb)) (hl : xs.length ≤ LIM)
    (h : ∀ x ∈ xs, ∃ as, ag (emb x) = .ok as ∧ mt (setE (wipeE ρ vs) as) = .ok (f x) ∧ (f x = true → me (setE (wipeE ρ vs) as) = .ok (v x))) : lcM vs mi ag mt me ρ = .ok (.lst ((xs.filter f).map v)) := by
  unfold lcM
  rw [hi, ok_bind, if_pos (by rw [List.length_map]; exact hl), lcGo_map emb f v xs h, calm_ok, ok_bind]
theorem lcM_all {α : Type} {vs : List Nat} {mi : Env → R (List D)} {ag : D → R As} {mt : Env → R Bool} {me : Env → R D} {ρ : Env} (emb : α → D) (v : α → D) (xs : List α) (hi : mi ρ = .ok (xs.map emb)) (hl : xs.length ≤ LIM)
    (h : ∀ x ∈ xs, ∃ as, ag (emb x) = .ok as ∧ mt (setE (wipeE ρ vs) as) = .ok true ∧ me (setE (wipeE ρ vs) as) = .ok (v x)) : lcM vs mi ag mt me ρ = .ok (.lst (xs.map v)) := by
  unfold lcM
  rw [hi, ok_bind, if_pos (by rw [List.length_map]; exact hl), lcGo_all emb v xs h, calm_ok, ok_bind]
theorem loopGo_inv {α : Type} {ag : D → R As} {mb : Env → R Fl} (emb : α → D) (xs : List α) (P : Nat → Env → Prop) {ρ : Env} (h0 : P 0 ρ) (hs : ∀ i x ρ, xs[i]? = some x → P i ρ → ∃ as ρ', ag (emb x) = .ok as ∧ (mb (setE ρ as) = .ok (.nx ρ') ∨ mb (setE ρ as) = .ok (.ct ρ')) ∧ P (i + 1) ρ') :
    ∃ ρ', loopGo ag mb (xs.map emb) ρ = .ok (.nx ρ') ∧ P xs.length ρ' := by
  induction xs generalizing ρ P with
  | nil => exact ⟨ρ, rfl, h0⟩
  | cons x xs ih =>
    obtain ⟨as, ρ1, h1, h2, h3⟩ := hs 0 x ρ rfl h0
    obtain ⟨ρ2, h4, h5⟩ := ih (fun i => P (i + 1)) h3 fun i y ρ hy hp => hs (i + 1) y ρ hy hp
    refine ⟨ρ2, ?_, h5⟩
    rw [List.map_cons]
    unfold loopGo
    rw [h1, calm_ok, ok_bind]
    rcases h2 with h2 | h2
    · rw [h2, ok_bind]
      exact h4
    · rw [h2, ok_bind]
      exact h4
def isT : R D → Bool
  | .ok (.bl true) => true
  | _ => false
theorem isT_of {r : R D} (h : isT r = true) : r = .ok (.bl true) := by
  unfold isT at h
  split at h
  · rfl
  · cases h
end DL
namespace DL
open PySem PySem.Spec L2

/-! ### one statement after the other -/
theorem th_asg {i : Nat} {ρ : Env} {a : R D} {d : D} {k : Env → R Fl} {out : R Fl} (h : a = .ok d) (h2 : k (ρ.set i (some d)) = out) : then_ (asg i ρ a) k = out := by
  subst h
  exact h2
theorem th_asgW {i : Nat} {ρ : Env} {a : R D} {d : D} {k : Env → R Fl} {out : R Fl} (h : a = .ok d) (hs : d.scal = true) (h2 : k (ρ.set i (some d)) = out) : then_ (asgW i ρ a) k = out := by
  subst h
  rw [asgW_ok, if_pos hs]
  exact h2
theorem th_own {i : Nat} {ρ : Env} {a : R (List D)} {ds : List D} {k : Env → R Fl} {out : R Fl} (h : a = .ok ds) (h2 : k (ρ.set i (some (.lst ds))) = out) : then_ (ownS i ρ a) k = out := by
  subst h
  exact h2
theorem th_skip {c : R Bool} {a : R Fl} {ρ : Env} {k : Env → R Fl} {out : R Fl} (h : c = .ok false) (h2 : k ρ = out) : then_ (ifv c a (.ok (.nx ρ))) k = out := by
  subst h
  exact h2
theorem th_if {c : R Bool} {b : Bool} {x y : R Fl} {k : Env → R Fl} {out : R Fl} (h : c = .ok b) (h1 : b = true → then_ x k = out) (h2 : b = false → then_ y k = out) : then_ (ifv c x y) k = out := by
  subst h
  cases b with
  | true => exact h1 rfl
  | false => exact h2 rfl
theorem ifv_of {α : Type} {c : R Bool} {b : Bool} {x y : R α} {out : R α} (h : c = .ok b) (h1 : b = true → x = out) (h2 : b = false → y = out) : ifv c x y = out := by
  subst h
  cases b with
  | true => exact h1 rfl
  | false => exact h2 rfl
theorem th_nx {x : R Fl} {ρ : Env} {k : Env → R Fl} {out : R Fl} (h : x = .ok (.nx ρ)) (h2 : k ρ = out) : then_ x k = out := by
  subst h
  exact h2
theorem rt_of {a : R D} {d : D} (h : a = .ok d) : ret a = .ok (.rt d) := by
  subst h
  rfl
theorem for_inv {α : Type} {rg : List D → R (List D)} {ag : D → R As} {mb : Env → R Fl} {ρ : Env} {r : R (List D)} {ds : List D} (emb : α → D) (xs : List α) (P : Nat → Env → Prop) (hr : r = .ok ds) (hg : rg ds = .ok (xs.map emb)) (h0 : P 0 ρ)
    (hs : ∀ i x ρ, xs[i]? = some x → P i ρ → ∃ as ρ', ag (emb x) = .ok as ∧ (mb (setE ρ as) = .ok (.nx ρ') ∨ mb (setE ρ as) = .ok (.ct ρ')) ∧ P (i + 1) ρ') :
    ∃ ρ', forR rg ag mb ρ r = .ok (.nx ρ') ∧ P xs.length ρ' := by
  subst hr
  rw [forR_ok, hg, calm_ok, ok_bind]
  exact loopGo_inv emb xs P h0 hs
theorem fors_inv {α : Type} {ag : D → R As} {mb : Env → R Fl} {ρ : Env} {r : R (List D)} (emb : α → D) (xs : List α) (P : Nat → Env → Prop) (hr : r = .ok (xs.map emb)) (h0 : P 0 ρ)
    (hs : ∀ i x ρ, xs[i]? = some x → P i ρ → ∃ as ρ', ag (emb x) = .ok as ∧ (mb (setE ρ as) = .ok (.nx ρ') ∨ mb (setE ρ as) = .ok (.ct ρ')) ∧ P (i + 1) ρ') :
    ∃ ρ', forS ag mb ρ r = .ok (.nx ρ') ∧ P xs.length ρ' := by
  subst hr
  exact loopGo_inv emb xs P h0 hs
theorem th_for {α : Type} {rg : List D → R (List D)} {ag : D → R As} {mb : Env → R Fl} {ρ : Env} {r : R (List D)} {ds : List D} {k : Env → R Fl} {out : R Fl} (emb : α → D) (xs : List α) (P : Nat → Env → Prop) (hr : r = .ok ds) (hg : rg ds = .ok (xs.map emb)) (h0 : P 0 ρ)
    (hs : ∀ i x ρ, xs[i]? = some x → P i ρ → ∃ as ρ', ag (emb x) = .ok as ∧ (mb (setE ρ as) = .ok (.nx ρ') ∨ mb (setE ρ as) = .ok (.ct ρ')) ∧ P (i + 1) ρ')
    (hk : ∀ ρ', P xs.length ρ' → k ρ' = out) : then_ (forR rg ag mb ρ r) k = out := by
  obtain ⟨ρ', h1, h2⟩ := for_inv emb xs P hr hg h0 hs
  rw [h1]
  exact hk _ h2
theorem th_fors {α : Type} {ag : D → R As} {mb : Env → R Fl} {ρ : Env} {r : R (List D)} {k : Env → R Fl} {out : R Fl} (emb : α → D) (xs : List α) (P : Nat → Env → Prop) (hr : r = .ok (xs.map emb)) (h0 : P 0 ρ)
    (hs : ∀ i x ρ, xs[i]? = some x → P i ρ → ∃ as ρ', ag (emb x) = .ok as ∧ (mb (setE ρ as) = .ok (.nx ρ') ∨ mb (setE ρ as) = .ok (.ct ρ')) ∧ P (i + 1) ρ')
    (hk : ∀ ρ', P xs.length ρ' → k ρ' = out) : then_ (forS ag mb ρ r) k = out := by
  obtain ⟨ρ', h1, h2⟩ := fors_inv emb xs P hr h0 hs
  rw [h1]
  exact hk _ h2
/-! ### own lists -/
theorem ixN_nat {n k : Nat} (h : k < n) : ixN n (k : Int) = some k := by
  unfold ixN
  rw [if_pos (by omega), if_pos (by omega), Int.toNat_natCast]
theorem seqIx_nat {n k : Nat} (h : k < n) : seqIndex? (k : Int) n = some k := by
  unfold seqIndex?
  simp
  omega
theorem ownD_of' {ρ : Env} {i : Nat} {ds : List D} (h : ρ[i]? = some (some (.lst ds))) : ownD ρ i = .ok ds := by
  unfold ownD
  rw [h]
theorem appPop_a1 {k n : Nat} (hl : k < n) (h1 : n ≤ LIM) : -(2 ^ 63) ≤ (k : Int) ∧ (k : Int) < 2 ^ 63 := by
  have h1 : n ≤ 1000000 := h1
  exact ⟨by omega, by omega⟩
theorem appPop_a2 {i j : Nat} {ρ : Env} {k : Nat} {ds es : List D} {d : D} (hk : es[k]? = some d) (hc : -(2 ^ 63) ≤ (k : Int) ∧ (k : Int) < 2 ^ 63 ∧ ds.length < LIM) (hs : seqIndex? (k : Int) es.length = some k) : appPopG i j ρ ds es (.int (k : Int)) = .ok (.nx ((ρ.set j (some (.lst (es.eraseIdx k)))).set i (some (.lst (ds ++ [d]))))) := by
  rw [appPopG]
  rw [if_pos hc]
  rw [hs]
  dsimp only
  rw [hk]
theorem appPopS_nat {i j : Nat} {ρ : Env} {a : R D} {k : Nat} {ds es : List D} {d : D} (hi : ρ[i]? = some (some (.lst ds))) (hj : ρ[j]? = some (some (.lst es))) (ha : a = .ok (.int (k : Int))) (hk : es[k]? = some d) (h1 : es.length ≤ LIM) (h2 : ds.length < LIM) :
    appPopS i j ρ a = .ok (.nx ((ρ.set j (some (.lst (es.eraseIdx k)))).set i (some (.lst (ds ++ [d]))))) := by
  have hl : k < es.length := (List.getElem?_eq_some_iff.mp hk).1
  obtain ⟨c1, c2⟩ := appPop_a1 hl h1
  unfold appPopS
  rw [ownD_of' hi, ownD_of' hj, ha, calm_ok, calm_ok, ok_bind, ok_bind, ok_bind]
  exact appPop_a2 hk ⟨c1, c2, h2⟩ (seqIx_nat hl)
theorem setixS_nat {i : Nat} {ρ : Env} {a b : R D} {k : Nat} {ds : List D} {d : D} (ha : a = .ok d) (hi : ρ[i]? = some (some (.lst ds))) (hb : b = .ok (.int (k : Int))) (hk : k < ds.length) : setixS i ρ a b = .ok (.nx (ρ.set i (some (.lst (ds.set k d))))) := by
  unfold setixS
  rw [ha, ok_bind, ownD_of' hi, calm_ok, ok_bind, hb, ok_bind]
  show (match ixN ds.length (k : Int) with
    | some j => R.ok (Fl.nx (ρ.set i (some (.lst (ds.set j d)))))
    | none => .stuck) = _
  rw [ixN_nat hk]
theorem setixSW_nat {i : Nat} {ρ : Env} {a b : R D} {k : Nat} {ds : List D} {d : D} (ha : a = .ok d) (hs : d.scal = true) (hi : ρ[i]? = some (some (.lst ds))) (hb : b = .ok (.int (k : Int))) (hk : k < ds.length) : setixSW i ρ a b = .ok (.nx (ρ.set i (some (.lst (ds.set k d))))) := by
  unfold setixSW
  rw [ha, ok_bind, if_pos hs, ownD_of' hi, calm_ok, ok_bind, hb, ok_bind]
  show (match ixN ds.length (k : Int) with
    | some j => R.ok (Fl.nx (ρ.set i (some (.lst (ds.set j d)))))
    | none => .stuck) = _
  rw [ixN_nat hk]
theorem rgL1_nat {n : Nat} (h : n ≤ LIM) : rgL1 [.int (n : Int)] = .ok ((List.range n).map fun (i : Nat) => D.int (i : Int)) := by
  have h : n ≤ 1000000 := h
  show rgL 0 (n : Int) = _
  unfold rgL
  rw [if_pos ⟨by omega, by omega, by omega, by omega, by show ((n : Int) - 0).toNat ≤ 1000000; omega⟩, Int.sub_zero, Int.toNat_natCast, rangeD_01]
theorem rg2_nat {lo n : Nat} (h1 : lo ≤ LIM) (h2 : n ≤ LIM) : rg2 [.int (lo : Int), .int (n : Int)] = .ok ((List.range (n - lo)).map fun (i : Nat) => D.int ((lo + i : Nat) : Int)) := by
  have h1 : lo ≤ 1000000 := h1
  have h2 : n ≤ 1000000 := h2
  have hc : -(2 ^ 62) ≤ (lo : Int) ∧ (lo : Int) < 2 ^ 62 ∧ -(2 ^ 62) ≤ (n : Int) ∧ (n : Int) < 2 ^ 62 := ⟨by omega, by omega, by omega, by omega⟩
  simp -implicitDefEqProofs only [rg2, if_pos hc, show ((n : Int) - lo).toNat = n - lo from by omega, rangeD_1, Int.natCast_add]
end DL
namespace DL
open PySem PySem.Spec L2

/-! ### what a def gives is reckoned: rows of ints, pairs, dicts by rows -/
mutual
theorem eqv_refl : ∀ d : D, PyData.eqv d.py d.py = true
  | .non => by simp [D.py, PyData.eqv]
  | .bl b => by simp [D.py, PyData.eqv]
  | .int i => by simp [D.py, PyData.eqv]
  | .str x => by simp [D.py, PyData.eqv]
  | .lst ds => by simp only [D.py, PyData.eqv]; exact eqvs_refl ds
  | .tup ds => by simp only [D.py, PyData.eqv]; exact eqvs_refl ds
  | .scr _ => by simp [D.py, PyData.eqv]
  | .rng _ _ => by simp [D.py, PyData.eqv]
  | .ty _ => by simp [D.py, PyData.eqv]
  | .cls _ => by simp [D.py, PyData.eqv]
  | .obj _ _ _ => by simp [D.py, PyData.eqv]
  | .dk _ _ => by simp [D.py, PyData.eqv]
  | .dt _ _ => by simp [D.py, PyData.eqv]
  | .exc _ _ _ => by simp [D.py, PyData.eqv]
theorem eqvs_refl : ∀ ds : List D, PyData.eqvAll (D.pys ds) (D.pys ds) = true
  | [] => by simp [D.pys, PyData.eqvAll]
  | d :: ds => by simp only [D.pys, PyData.eqvAll]; rw [eqv_refl d, eqvs_refl ds]; rfl
end
/-- a == a -/
theorem eqD_refl {d : D} (h : d.fine 60 = true) : eqD d d = .ok (.bl true) := by
  unfold eqD
  split
  · simp
  · rfl
  · rw [eqv_refl]
    exact gd_ok ⟨h, h⟩
theorem neD_refl {d : D} (h : d.fine 60 = true) : neD d d = .ok (.bl false) := by
  unfold neD
  rw [eqD_refl h]
  rfl
def rowL (r : List Int) : D := .lst (r.map D.int)
theorem eqv_rows : ∀ (r q : List Int), PyData.eqvAll (D.pys (r.map D.int)) (D.pys (q.map D.int)) = decide (r = q)
  | [], [] => by simp [D.pys, PyData.eqvAll]
  | [], _ :: _ => by simp [D.pys, PyData.eqvAll]
  | _ :: _, [] => by simp [D.pys, PyData.eqvAll]
  | x :: r, y :: q => by
    simp only [List.map_cons, D.pys, PyData.eqvAll, D.py, PyData.eqv]
    rw [eqv_rows r q]
    by_cases h : x = y
    · subst h
      simp
    · simp [h]
theorem fine_ints (n : Nat) (r : List Int) : (r.map D.int).all (D.fine n) = true := by
  rw [List.all_eq_true]
  intro d hd
  obtain ⟨i, _, rfl⟩ := List.mem_map.mp hd
  cases n <;> simp [D.fine]
theorem fine_rowL (n : Nat) (r : List Int) : (rowL r).fine (n + 1) = true := by
  simp only [rowL, D.fine]
  exact fine_ints n r
theorem fine_rowD (n : Nat) (r : List Int) : (rowD r).fine (n + 1) = true := by
  simp only [rowD, D.fine]
  exact fine_ints n r
theorem fine_rowsL (n : Nat) (R : List (List Int)) : (D.lst (R.map rowL)).fine (n + 2) = true := by
  simp only [D.fine]
  rw [List.all_eq_true]
  intro d hd
  obtain ⟨i, _, rfl⟩ := List.mem_map.mp hd
  exact fine_rowL n i
theorem fine_rowsD (n : Nat) (R : List (List Int)) : (D.lst (R.map rowD)).fine (n + 2) = true := by
  simp only [D.fine]
  rw [List.all_eq_true]
  intro d hd
  obtain ⟨i, _, rfl⟩ := List.mem_map.mp hd
  exact fine_rowD n i
theorem pys_map {α : Type} (f : α → D) (xs : List α) : D.pys (xs.map f) = xs.map fun x => (f x).py := by
  induction xs with
  | nil => simp [D.pys]
  | cons x xs ih => simp [D.pys, ih]
theorem eqv_rowL (r q : List Int) : PyData.eqv (rowL r).py (rowL q).py = decide (r = q) := by
  simp only [rowL, D.py, PyData.eqv]
  exact eqv_rows r q
theorem eqv_rowsL : ∀ (R Q : List (List Int)), PyData.eqvAll (D.pys (R.map rowL)) (D.pys (Q.map rowL)) = decide (R = Q)
  | [], [] => by simp [D.pys, PyData.eqvAll]
  | [], _ :: _ => by simp [D.pys, PyData.eqvAll]
  | _ :: _, [] => by simp [D.pys, PyData.eqvAll]
  | x :: r, y :: q => by
    simp only [List.map_cons, D.pys, PyData.eqvAll]
    rw [eqv_rowsL r q, eqv_rowL]
    by_cases h : x = y
    · subst h
      simp
    · simp [h]
theorem eqD_rowsL (R Q : List (List Int)) : eqD (.lst (R.map rowL)) (.lst (Q.map rowL)) = .ok (.bl (decide (R = Q))) := by
  have h : eqD (.lst (R.map rowL)) (.lst (Q.map rowL)) = gd ((D.lst (R.map rowL)).fine 60 = true ∧ (D.lst (Q.map rowL)).fine 60 = true) (.bl (PyData.eqv (D.lst (R.map rowL)).py (D.lst (Q.map rowL)).py)) := rfl
  rw [h, gd_ok ⟨fine_rowsL 58 R, fine_rowsL 58 Q⟩]
  simp only [D.py, PyData.eqv]
  rw [eqv_rowsL]
theorem any_rowsL (r : List Int) (S : List (List Int)) : ((D.pys (S.map rowL)).any fun z => PyData.eqv z (rowL r).py) = decide (r ∈ S) := by
  induction S with
  | nil => simp [D.pys]
  | cons x S ih =>
    simp only [List.map_cons, D.pys, List.any_cons]
    rw [ih, eqv_rowL]
    by_cases h : x = r
    · subst h
      simp
    · have h2 : ¬ r = x := fun e => h e.symm
      simp [h, h2]
/-- row in rows -/
theorem inG_rowsL (r : List Int) (S : List (List Int)) : inG (rowL r) (.lst (S.map rowL)) = .ok (.bl (decide (r ∈ S))) := by
  have hf : flatIn (rowL r) (.lst (S.map rowL)) = false := by simp [flatIn, rowL, D.flat]
  unfold inG
  rw [hf, if_neg (by decide)]
  show gd ((rowL r).fine 60 = true ∧ (D.lst (S.map rowL)).fine 60 = true) _ = _
  rw [gd_ok ⟨fine_rowL 59 r, fine_rowsL 58 S⟩, any_rowsL]
/-- int in row -/
theorem inG_row (x : Int) (r : List Int) : inG (.int x) (.lst (r.map D.int)) = .ok (.bl (decide (x ∈ r))) := by
  have hf : flatIn (.int x) (.lst (r.map D.int)) = true := by simp [flatIn, D.flat]
  unfold inG
  rw [hf, if_pos rfl]
  exact inD_lst x r
def kyI (r : List Int) : List Key := r.map Sum.inl
theorem kyI_inj {r q : List Int} : kyI r = kyI q ↔ r = q := by
  constructor
  · intro h
    induction r generalizing q with
    | nil => cases q with
      | nil => rfl
      | cons => simp [kyI] at h
    | cons x r ih => cases q with
      | nil => simp [kyI] at h
      | cons y q =>
        simp only [kyI, List.map_cons, List.cons.injEq, Sum.inl.injEq] at h
        rw [h.1, ih h.2]
  · intro h
    rw [h]
theorem mem_kyI (r : List Int) (S : List (List Int)) : kyI r ∈ S.map kyI ↔ r ∈ S := by
  rw [List.mem_map]
  constructor
  · rintro ⟨q, h1, h2⟩
    rw [← kyI_inj.mp h2]
    exact h1
  · intro h
    exact ⟨r, h, rfl⟩
theorem keysD_ints : ∀ r : List Int, keysD (r.map D.int) = some (kyI r)
  | [] => rfl
  | x :: r => by
    simp only [List.map_cons, keysD, keyD, keysD_ints r, kyI]
theorem getK_some {κ : Type} [DecidableEq κ] {k : κ} : ∀ {ks : List κ} {ds : List D}, k ∈ ks → ks.length = ds.length → ∃ d, getK k ks ds = some d
  | k' :: ks, d :: ds, h, hl => by
    by_cases e : k' = k
    · exact ⟨d, by simp [getK, e]⟩
    · have h2 : k ∈ ks := by
        cases h with
        | head => exact absurd rfl e
        | tail _ h => exact h
      obtain ⟨d2, h3⟩ := getK_some (ds := ds) h2 (by simpa using hl)
      exact ⟨d2, by simp [getK, e, h3]⟩
/-- row in dict -/
theorem inG_dt (r : List Int) (S : List (List Int)) (ds : List D) (hl : ds.length = S.length) : inG (rowD r) (.dt (S.map kyI) ds) = .ok (.bl (decide (r ∈ S))) := by
  have hg : (getK (kyI r) (S.map kyI) ds).isSome = decide (r ∈ S) := by
    by_cases h : r ∈ S
    · obtain ⟨d, hd⟩ := getK_some (ds := ds) ((mem_kyI r S).mpr h) (by simp [hl])
      rw [hd]
      simp [h]
    · rw [getK_none fun e => h ((mem_kyI r S).mp e)]
      simp [h]
  have hk : lookD (.dt (S.map kyI) ds) (rowD r) = some (getK (kyI r) (S.map kyI) ds) := by
    show (keysD (r.map D.int)).map _ = _
    rw [keysD_ints]
    rfl
  show dinD (rowD r) (.dt (S.map kyI) ds) = _
  unfold dinD
  rw [hk]
  show R.ok (D.bl (getK (kyI r) (S.map kyI) ds).isSome) = _
  rw [hg]
theorem putKs_new (r : List Int) (S : List (List Int)) (h : r ∉ S) : putKs (kyI r) (S.map kyI) = (S ++ [r]).map kyI := by
  unfold putKs
  rw [if_neg fun e => h ((mem_kyI r S).mp e), List.map_append]
  rfl
theorem putKd_new (r : List Int) (S : List (List Int)) (d : D) (ds : List D) (h : r ∉ S) : putKd (kyI r) d (S.map kyI) ds = ds ++ [d] := by
  unfold putKd
  rw [if_neg fun e => h ((mem_kyI r S).mp e)]
theorem intsOf_rowsD_nil : intsOf (([] : List (List Int)).map rowD) = some [] := rfl
theorem rowsOf_map : ∀ R : List (List Int), (∀ r ∈ R, r ≠ []) → rowsOf (R.map rowD) = some R
  | [], _ => rfl
  | [] :: R, h => absurd rfl (h [] List.mem_cons_self)
  | (x :: r) :: R, h => by
    have ih := rowsOf_map R fun q hq => h q (List.mem_cons_of_mem _ hq)
    show (match intsOf ((x :: r).map D.int) with
      | some (n :: ns) => (rowsOf (R.map rowD)).map ((n :: ns) :: ·)
      | _ => none) = _
    rw [intsOf_map, ih]
    rfl
/-- sorted of rows: tuples -/
theorem sortedA_rows (R : List (List Int)) (h : ∀ r ∈ R, r ≠ []) : sortedA [.lst (R.map rowD)] = .ok (.lst ((sortR R).map rowD)) := by
  show sortedX (R.map rowD) = _
  cases R with
  | nil => rfl
  | cons x R =>
    have hi : intsOf ((x :: R).map rowD) = none := rfl
    unfold sortedX
    rw [hi, rowsOf_map _ h]
theorem sortedA_ints (r : List Int) : sortedA [.lst (r.map D.int)] = .ok (.lst ((sortI r).map D.int)) := by
  show sortedX (r.map D.int) = _
  unfold sortedX
  rw [intsOf_map]
theorem sortedA_intsT (r : List Int) : sortedA [.tup (r.map D.int)] = .ok (.lst ((sortI r).map D.int)) := by
  show sortedX (r.map D.int) = _
  unfold sortedX
  rw [intsOf_map]
/-! #### statements -/
theorem appS_nx {i : Nat} {ρ : Env} {a : R D} {ds : List D} {d : D} (h : ρ[i]? = some (some (.lst ds))) (ha : a = .ok d) (hl : ds.length < LIM) : appS i ρ a = .ok (.nx (ρ.set i (some (.lst (ds ++ [d]))))) := by
  unfold appS
  rw [ownD_of' h, ha, calm_ok, ok_bind, ok_bind, if_pos hl]
theorem th_app {i : Nat} {ρ : Env} {a : R D} {ds : List D} {d : D} {k : Env → R Fl} {out : R Fl} (h : ρ[i]? = some (some (.lst ds))) (ha : a = .ok d) (hl : ds.length < LIM) (h2 : k (ρ.set i (some (.lst (ds ++ [d])))) = out) : then_ (appS i ρ a) k = out := by
  rw [appS_nx h ha hl]
  exact h2
theorem nd_t {p : Prop} [Decidable p] (h : (!decide p) = true) : ¬ p := by simpa using h
theorem nd_f {p : Prop} [Decidable p] (h : (!decide p) = false) : p := by simpa using h
theorem lim_le {n : Nat} (h : n ≤ 100000) : n ≤ LIM := lim63 h
theorem lim_lt' {n : Nat} (h : n ≤ 100000) : n < LIM := Nat.lt_of_le_of_lt h (by decide)
theorem dputS_dt {M : List Nat} {i : Nat} {ρ : Env} {a k : R D} {d : D} {r : List Int} {S : List (List Int)} {ds : List D} (ha : a = .ok d) (hk : keepOk M ρ d = true) (hg : get ρ i = .ok (.dt (S.map kyI) ds)) (hr : k = .ok (rowD r)) (hl : S.length < LIM) (hn : r ∉ S) :
    dputS M i ρ a k = .ok (.nx (ρ.set i (some (.dt ((S ++ [r]).map kyI) (ds ++ [d]))))) := by
  unfold dputS
  rw [ha, ok_bind, if_pos hk, hg, calm_ok, ok_bind, hr, ok_bind]
  show (match keysD (r.map D.int) with
    | some k => if (S.map kyI).length < LIM then R.ok (Fl.nx (ρ.set i (some (.dt (putKs k (S.map kyI)) (putKd k d (S.map kyI) ds))))) else .stuck
    | none => .stuck) = _
  rw [keysD_ints]
  show (if (S.map kyI).length < LIM then R.ok (Fl.nx (ρ.set i (some (.dt (putKs (kyI r) (S.map kyI)) (putKd (kyI r) d (S.map kyI) ds))))) else .stuck) = _
  rw [if_pos (by rw [List.length_map]; exact hl), putKs_new r S hn, putKd_new r S d ds hn]
theorem enumD_map {α : Type} (emb : α → D) (xs : List α) (d0 : α) : ∀ k, enumD k (xs.map emb) = (List.range xs.length).map fun j => .tup [.int ((k + j : Nat) : Int), emb (xs.getD j d0)] := by
  induction xs with
  | nil => intro k; rfl
  | cons x xs ih =>
    intro k
    rw [List.map_cons]
    show D.tup [.int (k : Int), emb x] :: enumD (k + 1) (xs.map emb) = _
    rw [ih (k + 1), List.length_cons, List.range_succ_eq_map, List.map_cons, List.map_map]
    congr 1
    refine List.map_congr_left fun j _ => ?_
    show D.tup [.int ((k + 1 + j : Nat) : Int), emb (xs.getD j d0)] = D.tup [.int ((k + (j + 1) : Nat) : Int), emb ((x :: xs).getD (j + 1) d0)]
    rw [show k + 1 + j = k + (j + 1) from by omega, List.getD_cons_succ]
/-! #### what may be kept -/
theorem has_map {α : Type} {k : Nat} (f : α → D) (xs : List α) (h : ∀ x ∈ xs, (f x).has k = false) : D.hasAny k (xs.map f) = false := by
  induction xs with
  | nil => simp [D.hasAny]
  | cons x xs ih =>
    simp only [List.map_cons, D.hasAny]
    rw [h x List.mem_cons_self, ih fun y hy => h y (List.mem_cons_of_mem _ hy)]
    rfl
theorem has_rowD (k : Nat) (r : List Int) : (rowD r).has k = false := by
  simp only [rowD, D.has]
  exact has_map _ _ fun x _ => by simp [D.has]
theorem has_rowsT (k : Nat) (R : List (List Int)) : (D.tup (R.map rowD)).has k = false := by
  simp only [D.has]
  exact has_map _ _ fun x _ => has_rowD k x
theorem tkey_row (r : List Int) : tkey (rowD r) = .ok (kyI r) := by
  unfold tkey
  show (match keysD (r.map D.int) with
    | some k => DL.R.ok k
    | none => .stuck) = _
  rw [keysD_ints]
/-- a dict from rows -/
theorem dcGo_rows {ag : D → R As} {mt : Env → R Bool} {mk mv : Env → R D} {ρ : Env} (v : List Int → D) : ∀ (Q S : List (List Int)) (ds : List D), (S ++ Q).Nodup → (∀ q ∈ Q, ∃ as, ag (rowD q) = .ok as ∧ mt (setE ρ as) = .ok true ∧ mk (setE ρ as) = .ok (rowD q) ∧ mv (setE ρ as) = .ok (v q)) →
    dcGo ag mt mk mv ρ (Q.map rowD) (S.map kyI) ds = .ok (.dt ((S ++ Q).map kyI) (ds ++ Q.map v))
  | [], S, ds, _, _ => by simp [dcGo]
  | q :: Q, S, ds, hn, h => by
    obtain ⟨as, h1, h2, h3, h4⟩ := h q List.mem_cons_self
    have hq : q ∉ S := fun e => by
      rw [List.nodup_append] at hn
      exact hn.2.2 q e q List.mem_cons_self rfl
    have ih := dcGo_rows (ρ := ρ) (ag := ag) (mt := mt) (mk := mk) (mv := mv) v Q (S ++ [q]) (ds ++ [v q]) (by rw [List.append_assoc]; exact hn) fun p hp => h p (List.mem_cons_of_mem _ hp)
    rw [List.map_cons]
    unfold dcGo
    rw [h1, calm_ok, ok_bind, h2, calm_ok, ok_bind, if_pos rfl, h3, calm_ok, ok_bind, tkey_row, calm_ok, ok_bind, h4, calm_ok, ok_bind, putKs_new q S hq, putKd_new q S _ ds hq, ih]
    simp [List.append_assoc]
theorem dcM_rows {vs : List Nat} {mi : Env → R (List D)} {ag : D → R As} {mt : Env → R Bool} {mk mv : Env → R D} {ρ : Env} (v : List Int → D) (Q : List (List Int)) (hi : mi ρ = .ok (Q.map rowD)) (hl : Q.length ≤ LIM) (hn : Q.Nodup)
    (h : ∀ q ∈ Q, ∃ as, ag (rowD q) = .ok as ∧ mt (setE (wipeE ρ vs) as) = .ok true ∧ mk (setE (wipeE ρ vs) as) = .ok (rowD q) ∧ mv (setE (wipeE ρ vs) as) = .ok (v q)) :
    dcM vs mi ag mt mk mv ρ = .ok (.dt (Q.map kyI) (Q.map v)) := by
  unfold dcM
  have h2 := dcGo_rows v Q [] [] (by simpa using hn) h
  simp only [List.map_nil, List.nil_append] at h2
  rw [hi, ok_bind, if_pos (by rw [List.length_map]; exact hl), h2, calm_ok]
theorem th_rt {x : R Fl} {d : D} {k : Env → R Fl} (h : x = .ok (.rt d)) : then_ x k = .ok (.rt d) := by
  subst h
  rfl
end DL
namespace DL
open PySem PySem.Spec L2

/-! ### tables of faces, counts by rows -/
def facesP (r : List Int) : List (List Int) := (List.range r.length).map fun k => r.take k ++ r.drop (k + 1)
def addT (f r : List Int) : List (List Int × List (List Int)) → List (List Int × List (List Int))
  | [] => [(f, [r])]
  | p :: T => if p.1 = f then (p.1, p.2 ++ [r]) :: T else p :: addT f r T
def tabF (ps : List (List Int × List Int)) : List (List Int × List (List Int)) := ps.foldl (fun T p => addT p.1 p.2 T) []
def facePairs (Q : List (List Int)) : List (List Int × List Int) := Q.flatMap fun r => (facesP r).map fun f => (f, r)
def tabD (T : List (List Int × List (List Int))) : D := .dt (T.map fun p => kyI p.1) (T.map fun p => .lst (p.2.map rowD))
theorem addT_len (f r : List Int) : ∀ T, (addT f r T).length ≤ T.length + 1
  | [] => by simp [addT]
  | p :: T => by
    have := addT_len f r T
    simp only [addT]
    split
    · simp
    · simp only [List.length_cons]
      omega
theorem addT_in (f r : List Int) (n : Nat) (h0 : 1 ≤ n) : ∀ T, (∀ p ∈ T, p.2.length < n) → ∀ p ∈ addT f r T, p.2.length ≤ n
  | [], _, p, hp => by
    simp only [addT, List.mem_singleton] at hp
    subst hp
    simpa using h0
  | q :: T, h, p, hp => by
    simp only [addT] at hp
    split at hp
    · rcases List.mem_cons.mp hp with rfl | hp
      · have := h q List.mem_cons_self
        simp only [List.length_append, List.length_singleton]
        omega
      · exact Nat.le_of_lt (h p (List.mem_cons_of_mem _ hp))
    · rcases List.mem_cons.mp hp with rfl | hp
      · exact Nat.le_of_lt (h p List.mem_cons_self)
      · exact addT_in f r n h0 T (fun p hp => h p (List.mem_cons_of_mem _ hp)) p hp
theorem tabF_snoc (ps : List (List Int × List Int)) (p : List Int × List Int) : tabF (ps ++ [p]) = addT p.1 p.2 (tabF ps) := by
  unfold tabF
  rw [List.foldl_append]
  rfl
theorem tabF_len' (ps : List (List Int × List Int)) : ∀ n, n ≤ ps.length → (tabF (ps.take n)).length ≤ n ∧ ∀ p ∈ tabF (ps.take n), p.2.length ≤ n
  | 0, _ => by simp [tabF]
  | n + 1, h => by
    obtain ⟨h1, h2⟩ := tabF_len' ps n (by omega)
    rw [List.take_succ_eq_append_getElem (by omega), tabF_snoc]
    refine ⟨?_, addT_in _ _ _ (by omega) _ fun p hp => Nat.lt_succ_of_le (h2 p hp)⟩
    have := addT_len (ps[n]).1 (ps[n]).2 (tabF (ps.take n))
    omega
theorem tabF_len (ps : List (List Int × List Int)) : (tabF ps).length ≤ ps.length ∧ ∀ p ∈ tabF ps, p.2.length ≤ ps.length := by
  have := tabF_len' ps ps.length (Nat.le_refl _)
  rwa [List.take_length] at this
theorem getK_tab (f : List Int) : ∀ T : List (List Int × List (List Int)), getK (kyI f) (T.map fun p => kyI p.1) (T.map fun p => D.lst (p.2.map rowD)) = (T.find? fun p => decide (p.1 = f)).map fun p => .lst (p.2.map rowD)
  | [] => rfl
  | p :: T => by
    simp only [List.map_cons, getK, List.find?_cons]
    by_cases h : p.1 = f
    · rw [if_pos (kyI_inj.mpr h), decide_eq_true h]
      rfl
    · rw [if_neg fun e => h (kyI_inj.mp e), decide_eq_false h, getK_tab f T]
theorem sd_tab (f r : List Int) : ∀ T : List (List Int × List (List Int)), ((T.find? fun p => decide (p.1 = f)).isSome → (addT f r T).map (fun p => kyI p.1) = T.map (fun p => kyI p.1) ∧ (addT f r T).map (fun p => D.lst (p.2.map rowD)) = sdGo (kyI f) (rowD r) (T.map fun p => kyI p.1) (T.map fun p => .lst (p.2.map rowD))) ∧
    ((T.find? fun p => decide (p.1 = f)) = none → addT f r T = T ++ [(f, [r])])
  | [] => ⟨fun h => (by cases h), fun _ => rfl⟩
  | p :: T => by
    obtain ⟨h1, h2⟩ := sd_tab f r T
    simp only [List.map_cons, sdGo, List.find?_cons, addT]
    by_cases h : p.1 = f
    · rw [if_pos h, if_pos (kyI_inj.mpr h), decide_eq_true h]
      refine ⟨fun _ => ⟨rfl, ?_⟩, fun e => (by cases e)⟩
      simp only [List.map_cons, List.map_append, List.map_nil]
    · rw [if_neg h, if_neg fun e => h (kyI_inj.mp e), decide_eq_false h]
      refine ⟨fun e => ?_, fun e => ?_⟩
      · obtain ⟨a, b⟩ := h1 e
        simp only [List.map_cons]
        rw [a, b]
        exact ⟨rfl, rfl⟩
      · rw [h2 e]
        rfl
theorem sdS_tab {M : List Nat} {i : Nat} {ρ : Env} {kd a : R D} {f r : List Int} {T : List (List Int × List (List Int))} (h : ρ[i]? = some (some (tabD T))) (hk : kd = .ok (rowD f)) (ha : a = .ok (rowD r)) (hl : T.length < LIM) (hs : ∀ p ∈ T, p.2.length < LIM) :
    sdS M i ρ kd a = .ok (.nx (ρ.set i (some (tabD (addT f r T))))) := by
  obtain ⟨h1, h2⟩ := sd_tab f r T
  unfold sdS
  rw [h]
  show (kd >>= fun kd => calm (tkey kd) >>= fun k => if (T.map fun p => kyI p.1).length < LIM then (a >>= fun d => match getK k (T.map fun p => kyI p.1) (T.map fun p => D.lst (p.2.map rowD)) with
    | some (.lst es) => if es.length < LIM then R.ok (Fl.nx (ρ.set i (some (.dt (T.map fun p => kyI p.1) (sdGo k d (T.map fun p => kyI p.1) (T.map fun p => D.lst (p.2.map rowD))))))) else .stuck
    | some _ => .stuck
    | none => .ok (.nx (ρ.set i (some (.dt ((T.map fun p => kyI p.1) ++ [k]) ((T.map fun p => D.lst (p.2.map rowD)) ++ [.lst [d]])))))) else .stuck) = _
  rw [hk, ok_bind, tkey_row, calm_ok, ok_bind, if_pos (by rw [List.length_map]; exact hl), ha, ok_bind, getK_tab]
  cases hf : T.find? fun p => decide (p.1 = f) with
  | none =>
    have h2 := h2 hf
    rw [h2]
    simp [tabD]
  | some p =>
    obtain ⟨h3, h4⟩ := h1 (by rw [hf]; rfl)
    have hp := hs p (List.mem_of_find?_eq_some hf)
    show (if (p.2.map rowD).length < LIM then R.ok (Fl.nx (ρ.set i (some (.dt (T.map fun p => kyI p.1) (sdGo (kyI f) (rowD r) (T.map fun p => kyI p.1) (T.map fun p => D.lst (p.2.map rowD))))))) else .stuck) = _
    rw [if_pos (by rw [List.length_map]; exact hp)]
    unfold tabD
    rw [h3, h4]
/-! #### counts -/
def addC (f : List Int) : List (List Int × Int) → List (List Int × Int)
  | [] => [(f, 1)]
  | p :: C => if p.1 = f then (p.1, p.2 + 1) :: C else p :: addC f C
def cntD (C : List (List Int × Int)) : D := .dt (C.map fun p => kyI p.1) (C.map fun p => .int p.2)
def sizes (T : List (List Int × List (List Int))) : List (List Int × Int) := T.map fun p => (p.1, (p.2.length : Int))
theorem addC_sizes (f r : List Int) : ∀ T, addC f (sizes T) = sizes (addT f r T)
  | [] => by simp [sizes, addC, addT]
  | p :: T => by
    have ih := addC_sizes f r T
    unfold sizes at ih ⊢
    simp only [List.map_cons, addC, addT]
    split
    · simp
    · rw [ih]
      rfl
def getC (f : List Int) (C : List (List Int × Int)) : Option Int := (C.find? fun p => decide (p.1 = f)).map (·.2)
theorem getK_cnt (f : List Int) : ∀ C : List (List Int × Int), getK (kyI f) (C.map fun p => kyI p.1) (C.map fun p => D.int p.2) = (getC f C).map D.int
  | [] => rfl
  | p :: C => by
    unfold getC
    simp only [List.map_cons, getK, List.find?_cons]
    by_cases h : p.1 = f
    · rw [if_pos (kyI_inj.mpr h), decide_eq_true h]
      rfl
    · rw [if_neg fun e => h (kyI_inj.mp e), decide_eq_false h, getK_cnt f C]
      rfl
theorem look_cnt (f : List Int) (C : List (List Int × Int)) : lookD (cntD C) (rowD f) = some ((getC f C).map D.int) := by
  rw [← getK_cnt]
  show (keysD (f.map D.int)).map _ = _
  rw [keysD_ints]
  rfl
theorem mem_cnt (f : List Int) (C : List (List Int × Int)) : kyI f ∈ C.map (fun p => kyI p.1) ↔ (getC f C).isSome := by
  induction C with
  | nil => simp [getC]
  | cons p C ih =>
    unfold getC at ih ⊢
    rw [List.map_cons, List.mem_cons, ih, List.find?_cons]
    by_cases h : p.1 = f
    · rw [decide_eq_true h, h]
      simp
    · rw [decide_eq_false h]
      constructor
      · rintro (e | e)
        · exact absurd (kyI_inj.mp e).symm h
        · exact e
      · exact .inr
theorem putC (f : List Int) : ∀ (C : List (List Int × Int)), (C.map fun p => p.1).Nodup → putKs (kyI f) (C.map fun p => kyI p.1) = (addC f C).map (fun p => kyI p.1) ∧ putKd (kyI f) (.int ((getC f C).getD 0 + 1)) (C.map fun p => kyI p.1) (C.map fun p => D.int p.2) = (addC f C).map fun p => D.int p.2
  | [], _ => by simp [putKs, putKd, addC, getC]
  | p :: C, hn => by
    rw [List.map_cons, List.nodup_cons] at hn
    obtain ⟨h1, h2⟩ := putC f C hn.2
    unfold putKs at h1
    unfold putKd at h2
    unfold putKs putKd
    by_cases h : p.1 = f
    · have hc : getC f (p :: C) = some p.2 := by
        unfold getC
        rw [List.find?_cons, decide_eq_true h]
        rfl
      have hm : kyI f ∈ (p :: C).map (fun p => kyI p.1) := by
        rw [mem_cnt, hc]
        rfl
      have hno : ∀ C' : List (List Int × Int), f ∉ C'.map (fun p => p.1) → ∀ d : D, repK (kyI f) d (C'.map fun p => kyI p.1) (C'.map fun p => D.int p.2) = C'.map fun p => D.int p.2 := by
        intro C'
        induction C' with
        | nil => intro _ d; rfl
        | cons q C' ih =>
          intro hq d
          simp only [List.map_cons, List.mem_cons, not_or] at hq
          simp only [List.map_cons, repK]
          rw [if_neg fun e => hq.1 (kyI_inj.mp e).symm, ih hq.2 d]
      rw [if_pos hm, if_pos hm, hc]
      simp only [List.map_cons, repK, addC, if_pos h, if_pos (kyI_inj.mpr h)]
      rw [hno C (h ▸ hn.1)]
      exact ⟨trivial, rfl⟩
    · have hc : getC f (p :: C) = getC f C := by
        unfold getC
        rw [List.find?_cons, decide_eq_false h]
      have hk : ¬ kyI p.1 = kyI f := fun e => h (kyI_inj.mp e)
      rw [hc]
      by_cases hm : kyI f ∈ C.map (fun p => kyI p.1)
      · have hm1 : kyI f ∈ (p :: C).map (fun p => kyI p.1) := List.mem_cons_of_mem _ hm
        rw [if_pos hm] at h1 h2
        rw [if_pos hm1, if_pos hm1]
        simp only [List.map_cons, addC, if_neg h, repK]
        rw [if_neg hk, h2, ← h1]
        exact ⟨rfl, rfl⟩
      · rw [if_neg hm] at h1 h2
        have hm2 : kyI f ∉ (p :: C).map (fun p => kyI p.1) := fun e => by
          rcases List.mem_cons.mp e with e | e
          · exact hk e.symm
          · exact hm e
        rw [if_neg hm2, if_neg hm2]
        simp only [List.map_cons, addC, if_neg h]
        rw [← h1, ← h2]
        exact ⟨rfl, rfl⟩
theorem addT_keys (f r : List Int) : ∀ T, (T.map fun p => p.1).Nodup → ((addT f r T).map fun p => p.1).Nodup ∧ ∀ g, g ∈ (addT f r T).map (fun p => p.1) ↔ g = f ∨ g ∈ T.map fun p => p.1
  | [], _ => by simp [addT]
  | p :: T, hn => by
    rw [List.map_cons, List.nodup_cons] at hn
    obtain ⟨h1, h2⟩ := addT_keys f r T hn.2
    simp only [addT]
    by_cases h : p.1 = f
    · rw [if_pos h]
      simp only [List.map_cons, List.nodup_cons, List.mem_cons]
      refine ⟨⟨hn.1, hn.2⟩, fun g => ?_⟩
      rw [h]
      constructor
      · rintro (e | e)
        · exact .inl e
        · exact .inr (.inr e)
      · rintro (e | e | e)
        · exact .inl e
        · exact .inl e
        · exact .inr e
    · rw [if_neg h]
      simp only [List.map_cons, List.nodup_cons, List.mem_cons]
      refine ⟨⟨fun e => ?_, h1⟩, fun g => ?_⟩
      · rcases (h2 _).mp e with e | e
        · exact h e
        · exact hn.1 e
      · rw [h2]
        constructor
        · rintro (e | e | e)
          · exact .inr (.inl e)
          · exact .inl e
          · exact .inr (.inr e)
        · rintro (e | e | e)
          · exact .inr (.inl e)
          · exact .inl e
          · exact .inr (.inr e)
theorem tabF_keys (ps : List (List Int × List Int)) : ((tabF ps).map fun p => p.1).Nodup := by
  have : ∀ n, n ≤ ps.length → ((tabF (ps.take n)).map fun p => p.1).Nodup := by
    intro n
    induction n with
    | zero => intro _; simp [tabF]
    | succ n ih =>
      intro h
      rw [List.take_succ_eq_append_getElem (by omega), tabF_snoc]
      exact (addT_keys _ _ _ (ih (by omega))).1
  have h := this ps.length (Nat.le_refl _)
  rwa [List.take_length] at h
/-- d[k] = d.get(k, 0) + 1 -/
theorem dput_cnt {M : List Nat} {i : Nat} {ρ : Env} {a k : R D} {f : List Int} {C : List (List Int × Int)} (hg : get ρ i = .ok (cntD C)) (hr : k = .ok (rowD f)) (ha : a = .ok (.int ((getC f C).getD 0 + 1))) (hk : keepOk M ρ (.int ((getC f C).getD 0 + 1)) = true) (hl : C.length < LIM) (hn : (C.map fun p => p.1).Nodup) :
    dputS M i ρ a k = .ok (.nx (ρ.set i (some (cntD (addC f C))))) := by
  obtain ⟨h1, h2⟩ := putC f C hn
  unfold dputS
  rw [ha, ok_bind, if_pos hk, hg, calm_ok, ok_bind, hr, ok_bind]
  show (match keysD (f.map D.int) with
    | some k => if (C.map fun (p : List Int × Int) => kyI p.1).length < LIM then R.ok (Fl.nx (ρ.set i (some (.dt (putKs k (C.map fun (p : List Int × Int) => kyI p.1)) (putKd k (.int ((getC f C).getD 0 + 1)) (C.map fun (p : List Int × Int) => kyI p.1) (C.map fun (p : List Int × Int) => D.int p.2)))))) else .stuck
    | none => .stuck) = _
  rw [keysD_ints]
  show (if (C.map fun (p : List Int × Int) => kyI p.1).length < LIM then R.ok (Fl.nx (ρ.set i (some (.dt (putKs (kyI f) (C.map fun (p : List Int × Int) => kyI p.1)) (putKd (kyI f) (.int ((getC f C).getD 0 + 1)) (C.map fun (p : List Int × Int) => kyI p.1) (C.map fun (p : List Int × Int) => D.int p.2)))))) else .stuck) = _
  rw [if_pos (by rw [List.length_map]; exact hl), h1, h2]
  rfl
/-- d.get(k, 0) -/
theorem get_cnt {f : List Int} {C : List (List Int × Int)} : og2 dgetE (.ok (cntD C)) (.ok (rowD f)) (.ok (.int 0)) = .ok (.int ((getC f C).getD 0)) := by
  show calm (dgetE (cntD C) (rowD f) (.int 0)) = _
  unfold dgetE
  rw [look_cnt]
  cases getC f C with
  | none => rfl
  | some z => rfl
/-! #### what is read of the tables -/
theorem keyDD_ky (f : List Int) : (D.tup ((kyI f).map keyDD)) = rowD f := by
  unfold kyI rowD
  rw [List.map_map]
  rfl
theorem keysI_tab (T : List (List Int × List (List Int))) : keysI (tabD T) = .ok (T.map fun p => rowD p.1) := by
  show R.ok ((T.map fun p => kyI p.1).map fun k => D.tup (k.map keyDD)) = _
  rw [List.map_map]
  refine congrArg R.ok (List.map_congr_left fun p _ => ?_)
  exact keyDD_ky p.1
theorem keysI_cnt (C : List (List Int × Int)) : keysI (cntD C) = .ok (C.map fun p => rowD p.1) := by
  show R.ok ((C.map fun p => kyI p.1).map fun k => D.tup (k.map keyDD)) = _
  rw [List.map_map]
  refine congrArg R.ok (List.map_congr_left fun p _ => ?_)
  exact keyDD_ky p.1
theorem find_self {β : Type} : ∀ (T : List (List Int × β)), (T.map fun p => p.1).Nodup → ∀ p ∈ T, (T.find? fun q => decide (q.1 = p.1)) = some p
  | q :: T, hn, p, hp => by
    rw [List.map_cons, List.nodup_cons] at hn
    rw [List.find?_cons]
    by_cases h : q.1 = p.1
    · rw [decide_eq_true h]
      rcases List.mem_cons.mp hp with rfl | hp
      · rfl
      · exact absurd (h ▸ List.mem_map.mpr ⟨p, hp, rfl⟩) hn.1
    · rw [decide_eq_false h]
      rcases List.mem_cons.mp hp with rfl | hp
      · exact absurd rfl h
      · exact find_self T hn.2 p hp
theorem at_tab {T : List (List Int × List (List Int))} (hn : (T.map fun p => p.1).Nodup) {p : List Int × List (List Int)} (hp : p ∈ T) : ixA (tabD T) (rowD p.1) = .ok (.lst (p.2.map rowD)) := by
  have h : lookD (tabD T) (rowD p.1) = some (some (.lst (p.2.map rowD))) := by
    show (keysD (p.1.map D.int)).map (fun k => getK k (T.map fun p => kyI p.1) (T.map fun p => D.lst (p.2.map rowD))) = _
    rw [keysD_ints]
    show some (getK (kyI p.1) (T.map fun p => kyI p.1) (T.map fun p => D.lst (p.2.map rowD))) = _
    rw [getK_tab, find_self T hn p hp]
    rfl
  show dgetD (tabD T) (rowD p.1) = _
  unfold dgetD
  rw [h]
theorem at_cnt {C : List (List Int × Int)} (hn : (C.map fun p => p.1).Nodup) {p : List Int × Int} (hp : p ∈ C) : ixA (cntD C) (rowD p.1) = .ok (.int p.2) := by
  have h := look_cnt p.1 C
  unfold getC at h
  rw [find_self C hn p hp] at h
  show dgetD (cntD C) (rowD p.1) = _
  unfold dgetD
  rw [h]
  rfl
theorem sizes_keys (T : List (List Int × List (List Int))) : (sizes T).map (fun p => p.1) = T.map fun p => p.1 := by
  unfold sizes
  rw [List.map_map]
  rfl
/-- [k for k in d ..] -/
theorem lcK_map {α : Type} {i : Nat} {vs : List Nat} {ag : D → R As} {mt : Env → R Bool} {me : Env → R D} {ρ : Env} {d : D} (emb : α → D) (f : α → Bool) (v : α → D) (xs : List α) (hg : get ρ i = .ok d) (hk : keysI d = .ok (xs.map emb)) (hl : xs.length ≤ LIM)
    (h : ∀ x ∈ xs, ∃ as, ag (emb x) = .ok as ∧ mt (setE (wipeE ρ vs) as) = .ok (f x) ∧ (f x = true → me (setE (wipeE ρ vs) as) = .ok (v x))) : lcK i vs ag mt me ρ = .ok (.lst ((xs.filter f).map v)) := by
  unfold lcK
  rw [hg, ok_bind, hk, calm_ok, ok_bind, if_pos (by rw [List.length_map]; exact hl), lcGo_map emb f v xs h, calm_ok, ok_bind]
  rfl
theorem facePairs_snoc (Q : List (List Int)) (r : List Int) : facePairs (Q ++ [r]) = facePairs Q ++ (facesP r).map fun f => (f, r) := by
  unfold facePairs
  rw [List.flatMap_append]
  simp
theorem facesP_len (r : List Int) : (facesP r).length = r.length := by simp [facesP]
theorem facePairs_len (n : Nat) : ∀ Q : List (List Int), (∀ r ∈ Q, r.length ≤ n) → (facePairs Q).length ≤ n * Q.length
  | [], _ => by simp [facePairs]
  | r :: Q, h => by
    have ih := facePairs_len n Q fun q hq => h q (List.mem_cons_of_mem _ hq)
    have h0 := h r List.mem_cons_self
    unfold facePairs at ih ⊢
    rw [List.flatMap_cons, List.length_append, List.length_map, facesP_len, List.length_cons, Nat.mul_succ]
    omega
def bookI (n s : Int) (Q : List (List Int)) : D := .obj "Book" ["places", "size", "rooms", "_known"] [.int n, .int s, .tup (Q.map rowD), .dt (Q.map kyI) (Q.map fun _ => .bl true)]
end DL
namespace Lk13
open PySem PySem.Spec PyProof.Rows L2 DL
set_option maxHeartbeats 4000000
def topS (i : Nat) : Stmt := PySem.Challenge.pw_neveralone_k13_ring_books.main.body.getD i (.Pass ⟨0, 0, 0, 0⟩)
def xT : Str → Str → Option Bool := tab [("BadBook", "Mismatch", false), ("BadBook", "NeverAloneError", true), ("BadBook", "BadBook", true), ("Mismatch", "Mismatch", true), ("Mismatch", "NeverAloneError", true), ("Mismatch", "BadBook", false)]
def xB : Str → String → Option Bool := tab [("BadBook", "ValueError", true), ("Mismatch", "ValueError", true)]
def oT : Str → Str → Option Bool := tab [("Book", "Book", true)]
def oB : Str → String → Option Bool := tab [("Book", "tuple", false), ("Book", "int", false), ("Book", "bool", false)]
section
variable {P : Program} {w : World} {K : PySem.W.Frag} {mg : Str → Option Value} {base : Heap}
abbrev s__law_cell : Stmt := topS 25
abbrev N__law_cell : List Str := ["_law_script", "_law_k", "_law_cell_here"]
theorem sc__law_cell : FnScope N__law_cell ["_law_script", "_law_k"] (defScope s__law_cell) := ⟨rfl, rfl, rfl, by decide +kernel, rfl, by decide +kernel, by decide +kernel⟩
def b__law_cell : DL.Env → R Fl := fun r => (then_ (asg 2 r (o2 addD (o2 mulD (.ok (.int 17)) (get r 1)) (.ok (.int 5)))) (fun r => (then_ (ifv (tst (o2 ltD (get r 1) (cbf lenD (acons (get r 0) (.ok []))))) (then_ (asg 2 r (cbf absD (acons (o2 ixA (get r 0) (get r 1)) (.ok [])))) (fun r => (ifv (tst (o2 geX (get r 2) (o2 powD (.ok (.int 10)) (.ok (.int 18))))) (ret (o2 subD (get r 2) (o2 powD (.ok (.int 10)) (.ok (.int 18))))) (.ok (.nx r))))) (ifv (tst (o2 gtD (cbf lenD (acons (get r 0) (.ok []))) (.ok (.int 0)))) (asg 2 r (o2 addD (cbf absD (acons (o2 ixA (get r 0) (o2 modD (cbf intD (acons (get r 1) (.ok []))) (cbf lenD (acons (get r 0) (.ok []))))) (.ok []))) (o2 mulD (.ok (.int 101)) (get r 1)))) (.ok (.nx r)))) (fun r => (then_ (asg 2 r (o2 modD (cbf intD (acons (o2 addD (o2 addD (o2 mulD (get r 2) (.ok (.int 48271))) (o2 mulD (.ok (.int 11)) (get r 1))) (.ok (.int 7))) (.ok []))) (.ok (.int 2147483647)))) (fun r => (ret (o2 fdivD (o2 modD (cbf intD (acons (o2 mulD (o2 addD (o2 addD (o2 mulD (get r 2) (get r 2)) (o2 mulD (.ok (.int 69621)) (get r 2))) (get r 1)) (.ok (.int 1000000000039))) (.ok []))) (.ok (.int 2305843009213693951))) (.ok (.int 2))))))))))
def m__law_cell : List D → R D := runX 3 b__law_cell
theorem k__law_cell (F : FnAt K mg "_law_cell" s__law_cell ["_law_script", "_law_k"]) (b_len : mg "len" = none) (b_abs : mg "abs" = none) (b_int : mg "int" = none) : KnX P w K mg base "_law_cell" 1 2 m__law_cell :=
  KnX.mk' (M := []) (M' := []) F sc__law_cell (by decide) fun f cdv A outer s H E hr => ⟨_,
(mss_cons (ms_set 2 sc__law_cell.nd (me_op (r := rAddX K) op_addX rs_add (me_op DL.op_mulX rs_mul me_int (me_var 1)) me_int))
(mss_cons (ms_if (mt_cmp (r := rLtX K) (op_ltX hr) rs_lt (me_var 1) (me_callB (r := rLenX K) cr_lenX cs_len (by rfl) b_len (by decide +kernel) (ma_cons (me_var 0) ma_nil)))
(mss_cons (ms_set 2 sc__law_cell.nd (me_callB call_abs cs_abs (by rfl) b_abs (by decide +kernel) (ma_cons (me_ixA K (hu_of hr) (me_var 0) (me_var 1)) ma_nil)))
(mss_one (ms_if (mt_cmp (r := rGeX K) (op_geX hr) rs_geX (me_var 2) (me_op op_pow rs_pow me_int me_int))
(mss_one (ms_ret (me_op op_sub rs_sub (me_var 2) (me_op op_pow rs_pow me_int me_int))))
mss_nil)))
(mss_one (ms_if (mt_cmp op_gt rs_gt (me_callB (r := rLenX K) cr_lenX cs_len (by rfl) b_len (by decide +kernel) (ma_cons (me_var 0) ma_nil)) me_int)
(mss_one (ms_set 2 sc__law_cell.nd (me_op (r := rAddX K) op_addX rs_add (me_callB call_abs cs_abs (by rfl) b_abs (by decide +kernel) (ma_cons (me_ixA K (hu_of hr) (me_var 0) (me_op op_mod rs_mod (me_callTy call_int1 cs_int (by rfl) b_int (by decide +kernel) (ma_cons (me_var 1) ma_nil)) (me_callB (r := rLenX K) cr_lenX cs_len (by rfl) b_len (by decide +kernel) (ma_cons (me_var 0) ma_nil)))) ma_nil)) (me_op DL.op_mulX rs_mul me_int (me_var 1)))))
mss_nil)))
(mss_cons (ms_set 2 sc__law_cell.nd (me_op op_mod rs_mod (me_callTy call_int1 cs_int (by rfl) b_int (by decide +kernel) (ma_cons (me_op (r := rAddX K) op_addX rs_add (me_op (r := rAddX K) op_addX rs_add (me_op DL.op_mulX rs_mul (me_var 2) me_int) (me_op DL.op_mulX rs_mul me_int (me_var 1))) me_int) ma_nil)) me_int))
(mss_one (ms_ret (me_op op_fdiv rs_fdiv (me_op op_mod rs_mod (me_callTy call_int1 cs_int (by rfl) b_int (by decide +kernel) (ma_cons (me_op DL.op_mulX rs_mul (me_op (r := rAddX K) op_addX rs_add (me_op (r := rAddX K) op_addX rs_add (me_op DL.op_mulX rs_mul (me_var 2) (me_var 2)) (me_op DL.op_mulX rs_mul me_int (me_var 2))) (me_var 1)) me_int) ma_nil)) me_int) me_int))))))⟩
abbrev s_subsets : Stmt := topS 9
abbrev N_subsets : List Str := ["items", "size", "grown", "missing", "stop", "row", "start", "at", "_"]
theorem sc_subsets : FnScope N_subsets ["items", "size"] (defScope s_subsets) := ⟨rfl, rfl, rfl, by decide +kernel, rfl, by decide +kernel, by decide +kernel⟩
def b_subsets : DL.Env → R Fl := fun r => (then_ (ifv (tst (o2 gtD (get r 1) (cbf lenD (acons (get r 0) (.ok []))))) (ret (dsp lstD (.ok []))) (.ok (.nx r))) (fun r => (then_ (asg 2 r (dsp lstD (acons (dsp tupD (acons (dsp tupD (.ok [])) (acons (.ok (.int 0)) (.ok [])))) (.ok [])))) (fun r => (then_ (forR rg3 (agV 3) (fun r => (then_ (asg 4 r (o2 addD (o2 subD (cbf lenD (acons (get r 0) (.ok []))) (get r 3)) (.ok (.int 1)))) (fun r => (asg 2 r (lc2M [5, 6, 7] [7] (fun r => (its (get r 2))) (tupAs 2 (agC (agV 5) (agC (agV 6) agN))) (fun _ => .ok true) (fun r => (dsp rg2 (acons (get r 6) (acons (get r 4) (.ok []))))) (agV 7) (fun _ => .ok true) (fun r => (dsp tupD (acons (o2 addD (get r 5) (dsp tupD (acons (o2 ixA (get r 0) (get r 7)) (.ok [])))) (acons (o2 addD (get r 7) (.ok (.int 1))) (.ok []))))) r))))) r (acons (get r 1) (acons (.ok (.int 0)) (acons (o1 negD (.ok (.int 1))) (.ok []))))) (fun r => (ret (lcM [5, 8] (fun r => (its (get r 2))) (tupAs 2 (agC (agV 5) (agC (agV 8) agN))) (fun _ => .ok true) (fun r => (get r 5)) r))))))))
def m_subsets : List D → R D := runX 9 b_subsets
theorem k_subsets (F : FnAt K mg "subsets" s_subsets ["items", "size"]) (b_len : mg "len" = none) (b_range : mg "range" = none) : KnX P w K mg base "subsets" 1 2 m_subsets :=
  KnX.mk' (M := []) (M' := []) F sc_subsets (by decide) fun f cdv A outer s H E hr => ⟨_,
(mss_cons (ms_if (mt_cmp op_gt rs_gt (me_var 1) (me_callB (r := rLenX K) cr_lenX cs_len (by rfl) b_len (by decide +kernel) (ma_cons (me_var 0) ma_nil)))
(mss_one (ms_ret (me_lst ma_nil)))
mss_nil)
(mss_cons (ms_set 2 sc_subsets.nd (me_lst (ma_cons (me_tup (ma_cons (me_tup ma_nil) (ma_cons me_int ma_nil))) ma_nil)))
(mss_cons (ms_forR3 (passes_of rfl) rfl (by rfl) b_range (ma_cons (me_var 1) (ma_cons me_int (ma_cons (me_un un_neg us_neg me_int) ma_nil))) (mg_name 3 sc_subsets.nd) (agin_name (by decide))
(mss_cons (ms_set 4 sc_subsets.nd (me_op (r := rAddX K) op_addX rs_add (me_op op_sub rs_sub (me_callB (r := rLenX K) cr_lenX cs_len (by rfl) b_len (by decide +kernel) (ma_cons (me_var 0) ma_nil)) (me_var 3)) me_int))
(mss_one (ms_setLc2 2 (own := [("row", 5), ("start", 6), ("at", 7)]) rfl sc_subsets.nd (mi_seq K (me_var 2)) (blkOk_by (N := N_subsets) (sc := defScope s_subsets) (own := [("row", 5), ("start", 6), ("at", 7)]) (by decide +kernel)) (vs1 := [7]) (by decide) (fun _ _ _ _ _ => (mg_tup K (mgs_cons (mg_name 5 sc_subsets.nd) (mgs_cons (mg_name 6 sc_subsets.nd) mgs_nil)))) (fun _ _ _ _ _ => mts_nil) (fun _ _ _ _ _ => (mi_rng2 (by rfl) b_range (ma_cons (me_var 6) (ma_cons (me_var 4) ma_nil)))) (fun _ _ _ _ _ => (mg_name 7 sc_subsets.nd)) (fun _ _ _ _ _ => mts_nil) (fun _ _ _ _ _ => (me_tup (ma_cons (me_op (r := rAddX K) op_addX rs_add (me_var 5) (me_tup (ma_cons (me_ixA K (hu_of hr) (me_var 0) (me_var 7)) ma_nil))) (ma_cons (me_op (r := rAddX K) op_addX rs_add (me_var 7) me_int) ma_nil)))) (agin_tup (agsin_cons (agin_name (by decide)) (agsin_cons (agin_name (by decide)) agsin_nil))) (agin_name (by decide)) (sw_true rfl rfl rfl (by decide +kernel))))) (hi := fun h1 => pi_range3 (by rfl) b_range h1))
(mss_one (ms_ret (me_lc (own := [("row", 5), ("_", 8)]) rfl sc_subsets.nd (mi_seq K (me_var 2)) (blkOk_by (N := N_subsets) (sc := defScope s_subsets) (own := [("row", 5), ("_", 8)]) (by decide +kernel)) (fun _ _ _ _ _ => (mg_tup K (mgs_cons (mg_name 5 sc_subsets.nd) (mgs_cons (mg_name 8 sc_subsets.nd) mgs_nil)))) (fun _ _ _ _ _ => mts_nil) (fun _ _ _ _ _ => (me_var 5)) (agin_tup (agsin_cons (agin_name (by decide)) (agsin_cons (agin_name (by decide)) agsin_nil)))))))))⟩
abbrev s_room_fault : Stmt := topS 10
abbrev N_room_fault : List Str := ["places", "size", "room", "place"]
theorem sc_room_fault : FnScope N_room_fault ["places", "size", "room"] (defScope s_room_fault) := ⟨rfl, rfl, rfl, by decide +kernel, rfl, by decide +kernel, by decide +kernel⟩
def b_room_fault : DL.Env → R Fl := fun r => (then_ (ifv (tst (o2 neD (cbf lenD (acons (get r 2) (.ok []))) (get r 1))) (ret (.ok (.str "count"))) (.ok (.nx r))) (fun r => (then_ (ifv (tst (cbf anyD (acons (lcM [3] (fun r => (its (get r 2))) (agV 3) (fun _ => .ok true) (fun r => (vnot (ch2 leD ltD (.ok (.int 0)) (get r 3) (get r 0)))) r) (.ok [])))) (ret (.ok (.str "place"))) (.ok (.nx r))) (fun r => (then_ (ifv (tst (o2 neD (o1 lenSetD (get r 2)) (cbf lenD (acons (get r 2) (.ok []))))) (ret (.ok (.str "twice"))) (.ok (.nx r))) (fun r => (ret (.ok (.str "")))))))))
def m_room_fault : List D → R D := runX 4 b_room_fault
theorem k_room_fault (F : FnAt K mg "room_fault" s_room_fault ["places", "size", "room"]) (b_len : mg "len" = none) (b_any : mg "any" = none) (b_set : mg "set" = none) : KnX P w K mg base "room_fault" 1 3 m_room_fault :=
  KnX.mk' (M := []) (M' := []) F sc_room_fault (by decide) fun f cdv A outer s H E hr => ⟨_,
(mss_cons (ms_if (mt_cmp (r := rNeD K) (op_neD hr.units) rs_ne (me_callB (r := rLenX K) cr_lenX cs_len (by rfl) b_len (by decide +kernel) (ma_cons (me_var 2) ma_nil)) (me_var 1))
(mss_one (ms_ret me_str))
mss_nil)
(mss_cons (ms_if (mt_val (me_callB (r := rAny K) (cr_any rfl) cs_any (by rfl) b_any (by decide +kernel) (ma_cons (me_lc (own := [("place", 3)]) rfl sc_room_fault.nd (mi_seq K (me_var 2)) (blkOk_by (N := N_room_fault) (sc := defScope s_room_fault) (own := [("place", 3)]) (by decide +kernel)) (fun _ _ _ _ _ => (mg_name 3 sc_room_fault.nd)) (fun _ _ _ _ _ => mts_nil) (fun _ _ _ _ _ => (me_not (me_chain op_le rs_le (r' := rLtX K) (op_ltX hr) rs_lt me_int (me_var 3) (me_var 0)))) (agin_name (by decide))) ma_nil)))
(mss_one (ms_ret me_str))
mss_nil)
(mss_cons (ms_if (mt_cmp (r := rNeD K) (op_neD hr.units) rs_ne (me_lenSetK K rfl (by rfl) b_len (by rfl) b_set (me_var 2)) (me_callB (r := rLenX K) cr_lenX cs_len (by rfl) b_len (by decide +kernel) (ma_cons (me_var 2) ma_nil)))
(mss_one (ms_ret me_str))
mss_nil)
(mss_one (ms_ret me_str)))))⟩
abbrev s_book_faults : Stmt := topS 12
abbrev N_book_faults : List Str := ["places", "size", "rooms", "found", "seen", "at", "room", "fault", "kept"]
theorem sc_book_faults : FnScope N_book_faults ["places", "size", "rooms"] (defScope s_book_faults) := ⟨rfl, rfl, rfl, by decide +kernel, rfl, by decide +kernel, by decide +kernel⟩
def b_book_faults : DL.Env → R Fl := fun r => (then_ (ifv (tnot (tst (ch2 leD leD (.ok (.int 1)) (get r 0) (.ok (.int 12))))) (ret (dsp lstD (acons (dsp tupD (acons (.ok (.str "places")) (acons (.ok (.int 0)) (.ok [])))) (.ok [])))) (.ok (.nx r))) (fun r => (then_ (ifv (tnot (tst (ch2 leD leD (.ok (.int 1)) (get r 1) (get r 0)))) (ret (dsp lstD (acons (dsp tupD (acons (.ok (.str "size")) (acons (.ok (.int 0)) (.ok [])))) (.ok [])))) (.ok (.nx r))) (fun r => (then_ (ownS 3 r (dsp lenOk (.ok []))) (fun r => (then_ (.ok (.nx (r.set 4 (some (.dt [] []))))) (fun r => (then_ (forS (tupAs 2 (agC (agV 5) (agC (agV 6) agN))) (fun r => (then_ (asg 7 r (call_ 3 m_room_fault (acons (get (wipeE r [3, 4]) 0) (acons (get (wipeE r [3, 4]) 1) (acons (get (wipeE r [3, 4]) 6) (.ok [])))))) (fun r => (then_ (asg 8 r (cbf tupleD (acons (cbf sortedA (acons (get (wipeE r [3, 4]) 6) (.ok []))) (.ok [])))) (fun r => (then_ (ifv (tand (tst (o2 eqD (get r 7) (.ok (.str "")))) (tst (o2 inG (get r 8) (get r 4)))) (asg 7 r (.ok (.str "again"))) (.ok (.nx r))) (fun r => (ifv (tst (o2 eqD (get r 7) (.ok (.str "")))) (dputS [3, 4] 4 r (.ok (.bl true)) (get r 8)) (appS 3 r (dsp tupD (acons (get (wipeE r [3, 4]) 7) (acons (get (wipeE r [3, 4]) 5) (.ok []))))))))))))) r (dsp enumA (acons (get (wipeE r [3, 4]) 2) (.ok [])))) (fun r => (ret (get r 3))))))))))))
def m_book_faults : List D → R D := runX 9 b_book_faults
theorem k_book_faults (F : FnAt K mg "book_faults" s_book_faults ["places", "size", "rooms"]) (k_room_fault : KnX P w K mg base "room_fault" 1 3 m_room_fault) (b_sorted : mg "sorted" = none) (b_tuple : mg "tuple" = none) (b_enumerate : mg "enumerate" = none) {t_MOST_PLACES : Tok} (g_MOST_PLACES : mg "MOST_PLACES" = some (.int 12 t_MOST_PLACES)) : KnX P w K mg base "book_faults" 2 3 m_book_faults :=
  KnX.mk' (M := [3, 4]) (M' := [3, 4]) F sc_book_faults (by decide) fun f cdv A outer s H E hr => ⟨_,
(mss_cons (ms_if (mt_not (mt_chain op_le rs_le op_le rs_le me_int (me_var 0) (me_glb (v := .int 12) (by rfl) g_MOST_PLACES ⟨_, rfl⟩ (fun _ => .int _))))
(mss_one (ms_ret (me_lst (ma_cons (me_tup (ma_cons me_str (ma_cons me_int ma_nil))) ma_nil))))
mss_nil)
(mss_cons (ms_if (mt_not (mt_chain op_le rs_le op_le rs_le me_int (me_var 1) (me_var 0)))
(mss_one (ms_ret (me_lst (ma_cons (me_tup (ma_cons me_str (ma_cons me_int ma_nil))) ma_nil))))
mss_nil)
(mss_cons (ms_own 3 sc_book_faults.nd (mn_lst ma_nil))
(mss_cons (ms_newT 4 sc_book_faults.nd)
(mss_cons (ms_for (passes_of rfl) rfl (mi_enumA K (by rfl) b_enumerate (ma_cons (me_var 2) ma_nil)) (mg_tup K (mgs_cons (mg_name 5 sc_book_faults.nd) (mgs_cons (mg_name 6 sc_book_faults.nd) mgs_nil))) (agin_tup (agsin_cons (agin_name (by decide)) (agsin_cons (agin_name (by decide)) agsin_nil)))
(mss_cons (ms_set 7 sc_book_faults.nd (me_callX k_room_fault hr (px (takes_of rfl rfl rfl rfl)) (by rfl) (ma_cons (me_var 0) (ma_cons (me_var 1) (ma_cons (me_var 6) ma_nil)))))
(mss_cons (ms_set 8 sc_book_faults.nd (me_callTy (r := rTupOf K) cr_tupOf cs_tuple (by rfl) b_tuple (by decide +kernel) (ma_cons (me_callB (r := rSortedA K) cr_sortedA cs_sortedA (by rfl) b_sorted (by decide +kernel) (ma_cons (me_var 6) ma_nil)) ma_nil)))
(mss_cons (ms_if (MW.mt (mw_and (mt_cmp (r := rEqD K) (op_eqD hr.units) rs_eq (me_var 7) me_str) (mw_and1 (mt_inG K (hu65 hr) (me_var 8) (me_var 4)))))
(mss_one (ms_set 7 sc_book_faults.nd me_str))
mss_nil)
(mss_one (ms_if (mt_cmp (r := rEqD K) (op_eqD hr.units) rs_eq (me_var 7) me_str)
(mss_one (ms_dputV 4 (hu_of hr) me_bl (me_var 8)))
(mss_one (ms_app 3 (me_tup (ma_cons (me_var 7) (ma_cons (me_var 5) ma_nil))) (hp := fun h1 => pe_bm PySem.F.plainAttrs_list PySem.F.slot_list_append PySem.F.type_list_append mt_append (pv 3) (pa_cons h1 pa_nil))))))))))
(mss_one (ms_ret (me_var 3))))))))⟩
abbrev s_Book_init : Stmt := inC (topS 17) 1
abbrev N_Book_init : List Str := ["self", "places", "size", "rooms", "found", "fault", "at", "room"]
theorem sc_Book_init : FnScope N_Book_init ["self", "places", "size", "rooms"] (defScope s_Book_init) := ⟨rfl, rfl, rfl, by decide +kernel, rfl, by decide +kernel, by decide +kernel⟩
def b_Book_init : DL.Env → R Fl := fun r => (then_ (asg 4 r (call_ 3 m_book_faults (acons (get (wipeE r [0]) 1) (acons (get (wipeE r [0]) 2) (acons (get (wipeE r [0]) 3) (.ok [])))))) (fun r => (then_ (ifv (tst (o2 gtD (cbf lenD (acons (get r 4) (.ok []))) (.ok (.int 0)))) (then_ (asgG (tupAs 2 (agC (agV 5) (agC (agV 6) agN))) r (o2 ixA (get (wipeE r [0]) 4) (.ok (.int 0)))) (fun r => (raiseS "BadBook" ["fault", "at"] (acons (get r 5) (acons (get r 6) (.ok [])))))) (.ok (.nx r))) (fun r => (then_ (fldS [0] 0 "Book" "places" r (get r 1)) (fun r => (then_ (fldS [0] 0 "Book" "size" r (get r 2)) (fun r => (then_ (fldS [0] 0 "Book" "rooms" r (cbf tupleD (acons (cbf sortedA (acons (lcM [7] (fun r => (its (get r 3))) (agV 7) (fun _ => .ok true) (fun r => (cbf tupleD (acons (cbf sortedA (acons (get r 7) (.ok []))) (.ok [])))) r) (.ok []))) (.ok [])))) (fun r => (fldS [0] 0 "Book" "_known" r (dcM [7] (fun r => (its (o1 (fldD ["Book"] "rooms") (get r 0)))) (agV 7) (fun _ => .ok true) (fun r => (get r 7)) (fun r => (.ok (.bl true))) r))))))))))))
def m_Book_init : List D → R D := runI 8 "Book" b_Book_init
theorem k_Book_init {f : Addr} {fd : FuncData} (F : Fun K "__init__" "Book.__init__" s_Book_init f fd) (b : Binds K fd ["self", "places", "size", "rooms"] []) {C_Book : Addr} (h_Book : mg "Book" = some (.ref C_Book)) (k_book_faults : KnX P w K mg base "book_faults" 2 3 m_book_faults) (b_len : mg "len" = none) (b_sorted : mg "sorted" = none) (b_tuple : mg "tuple" = none) {C_BadBook : Addr} (x_BadBook : XcAt P w K mg base "BadBook" C_BadBook ["fault", "at"]) (f_places : ClF K (g0 mg) ["Book"] "places") (f_size : ClF K (g0 mg) ["Book"] "size") (f_rooms : ClF K (g0 mg) ["Book"] "rooms") (f__known : ClF K (g0 mg) ["Book"] "_known") (hm : Mk K C_Book f) : CkAt P w K mg base "Book" C_Book 3 3 m_Book_init :=
  CkAt.mk' (M := [0]) F h_Book hm b sc_Book_init rfl (by decide) (by decide) (by decide) fun cdv A outer s H E hr => ⟨_,
(mss_cons (ms_set 4 sc_Book_init.nd (me_callX k_book_faults hr (px (takes_of rfl rfl rfl rfl)) (by rfl) (ma_cons (me_var 1) (ma_cons (me_var 2) (ma_cons (me_var 3) ma_nil)))))
(mss_cons (ms_if (mt_cmp op_gt rs_gt (me_callB (r := rLenX K) cr_lenX cs_len (by rfl) b_len (by decide +kernel) (ma_cons (me_var 4) ma_nil)) me_int)
(mss_cons (ms_asg (me_ixA K (hu_of hr) (me_var 4) me_int) (mg_tup K (mgs_cons (mg_name 5 sc_Book_init.nd) (mgs_cons (mg_name 6 sc_Book_init.nd) mgs_nil))) (agin_tup (agsin_cons (agin_name (by decide)) (agsin_cons (agin_name (by decide)) agsin_nil))))
(mss_one (ms_raiseX x_BadBook (takes_of rfl rfl rfl rfl) hr (by rfl) (ma_cons (me_var 5) (ma_cons (me_var 6) ma_nil)))))
mss_nil)
(mss_cons (ms_fldV 0 "Book" (fun C h => f_places "Book" (by decide) C h) (me_var 1))
(mss_cons (ms_fldV 0 "Book" (fun C h => f_size "Book" (by decide) C h) (me_var 2))
(mss_cons (ms_fldV 0 "Book" (fun C h => f_rooms "Book" (by decide) C h) (me_callTy (r := rTupOf K) cr_tupOf cs_tuple (by rfl) b_tuple (by decide +kernel) (ma_cons (me_callB (r := rSortedA K) cr_sortedA cs_sortedA (by rfl) b_sorted (by decide +kernel) (ma_cons (me_lc (own := [("room", 7)]) rfl sc_Book_init.nd (mi_seq K (me_var 3)) (blkOk_by (N := N_Book_init) (sc := defScope s_Book_init) (own := [("room", 7)]) (by decide +kernel)) (fun _ _ _ _ _ => (mg_name 7 sc_Book_init.nd)) (fun _ _ _ _ _ => mts_nil) (fun _ _ _ _ _ => (me_callTy (r := rTupOf K) cr_tupOf cs_tuple (by rfl) b_tuple (by decide +kernel) (ma_cons (me_callB (r := rSortedA K) cr_sortedA cs_sortedA (by rfl) b_sorted (by decide +kernel) (ma_cons (me_var 7) ma_nil)) ma_nil))) (agin_name (by decide))) ma_nil)) ma_nil)))
(mss_one (ms_fldV 0 "Book" (fun C h => f__known "Book" (by decide) C h) (me_dcT (own := [("room", 7)]) (hu_of hr) rfl sc_Book_init.nd (mi_seq K (me_fldK K ["Book"] f_rooms (me_var 0))) (blkOk_by (N := N_Book_init) (sc := defScope s_Book_init) (own := [("room", 7)]) (by decide +kernel)) (fun _ _ _ _ _ => (mg_name 7 sc_Book_init.nd)) (fun _ _ _ _ _ => mts_nil) (fun _ _ _ _ _ => (me_var 7)) (fun _ _ _ _ _ => me_bl) (agin_name (by decide))))))))))⟩
abbrev s_Book_empty : Stmt := inC (topS 17) 2
abbrev N_Book_empty : List Str := ["cls", "places", "size"]
theorem sc_Book_empty : FnScope N_Book_empty ["cls", "places", "size"] (defScope s_Book_empty) := ⟨rfl, rfl, rfl, by decide +kernel, rfl, by decide +kernel, by decide +kernel⟩
def b_Book_empty : DL.Env → R Fl := fun r => (ret (mkV 0 "Book" 3 m_Book_init r (acons (get r 1) (acons (get r 2) (acons (dsp tupD (.ok [])) (.ok []))))))
def m_Book_empty : List D → R D := runX 3 b_Book_empty
theorem c_Book_empty {f : Addr} {fd : FuncData} (F : Fun K "empty" "Book.empty" s_Book_empty f fd) (b : Binds K fd ["cls", "places", "size"] []) {C_Book : Addr} (h_Book : mg "Book" = some (.ref C_Book)) (k_Book_init : CkAt P w K mg base "Book" C_Book 3 3 m_Book_init) {mc : Value} {p : Addr} (hc : ClX.CRead K C_Book mc) (hm : ClX.CMet K C_Book mc "empty" p f) : CmAt P w K mg base "Book" C_Book "empty" 5 3 m_Book_empty :=
  CmAt.mk' (M := []) (M' := []) F h_Book hc hm b sc_Book_empty (by decide) fun cdv A outer s H E hr => ⟨_,
(mss_one (ms_ret (me_makeV (i := 0) k_Book_init hr (px (takes_of rfl rfl rfl rfl)) (ma_cons (me_var 1) (ma_cons (me_var 2) (ma_cons (me_tup ma_nil) ma_nil))))))⟩
abbrev s_rooms_of_size : Stmt := topS 21
abbrev N_rooms_of_size : List Str := ["places", "size"]
theorem sc_rooms_of_size : FnScope N_rooms_of_size ["places", "size"] (defScope s_rooms_of_size) := ⟨rfl, rfl, rfl, by decide +kernel, rfl, by decide +kernel, by decide +kernel⟩
def b_rooms_of_size : DL.Env → R Fl := fun r => (then_ (drp r (cmM "Book" 3 m_Book_empty (.ok (.cls "Book")) (acons (get r 0) (acons (get r 1) (.ok []))))) (fun r => (ret (call_ 2 m_subsets (acons (dsp rgT1 (acons (get r 0) (.ok []))) (acons (get r 1) (.ok [])))))))
def m_rooms_of_size : List D → R D := runX 2 b_rooms_of_size
theorem k_rooms_of_size (F : FnAt K mg "rooms_of_size" s_rooms_of_size ["places", "size"]) {C_Book : Addr} (k_subsets : KnX P w K mg base "subsets" 1 2 m_subsets) (b_range : mg "range" = none) (b_tuple : mg "tuple" = none) (c_Book_empty : CmAt P w K mg base "Book" C_Book "empty" 5 3 m_Book_empty) (h_Book : mg "Book" = some (.ref C_Book)) : KnX P w K mg base "rooms_of_size" 6 2 m_rooms_of_size :=
  KnX.mk' (M := []) (M' := []) F sc_rooms_of_size (by decide) fun f cdv A outer s H E hr => ⟨_,
(mss_cons (ms_expr (me_cmeth c_Book_empty hr (takes_of rfl rfl rfl rfl) (me_cls (by rfl) h_Book) (ma_cons (me_var 0) (ma_cons (me_var 1) ma_nil))))
(mss_one (ms_ret (me_callX k_subsets hr (px (takes_of rfl rfl rfl rfl)) (by rfl) (ma_cons (me_tupRg1 (by rfl) b_tuple (by rfl) b_range (me_var 0)) (ma_cons (me_var 1) ma_nil))))))⟩
abbrev s_complement : Stmt := topS 8
abbrev N_complement : List Str := ["places", "room", "place"]
theorem sc_complement : FnScope N_complement ["places", "room"] (defScope s_complement) := ⟨rfl, rfl, rfl, by decide +kernel, rfl, by decide +kernel, by decide +kernel⟩
def b_complement : DL.Env → R Fl := fun r => (ret (cbf tupleD (acons (lcM [2] (fun r => (dsp rg1 (acons (get r 0) (.ok [])))) (agV 2) (fun r => (tst (o2 ninG (get r 2) (get r 1)))) (fun r => (get r 2)) r) (.ok []))))
def m_complement : List D → R D := runX 3 b_complement
theorem k_complement (F : FnAt K mg "complement" s_complement ["places", "room"]) (b_range : mg "range" = none) (b_tuple : mg "tuple" = none) : KnX P w K mg base "complement" 1 2 m_complement :=
  KnX.mk' (M := []) (M' := []) F sc_complement (by decide) fun f cdv A outer s H E hr => ⟨_,
(mss_one (ms_ret (me_callTy (r := rTupOf K) cr_tupOf cs_tuple (by rfl) b_tuple (by decide +kernel) (ma_cons (me_lc (own := [("place", 2)]) rfl sc_complement.nd (mi_rng1 (by rfl) b_range (ma_cons (me_var 0) ma_nil)) (blkOk_by (N := N_complement) (sc := defScope s_complement) (own := [("place", 2)]) (by decide +kernel)) (fun _ _ _ _ _ => (mg_name 2 sc_complement.nd)) (fun _ _ _ _ _ => (mts_one (mt_ninG K (hu65 hr) (me_var 2) (me_var 1)))) (fun _ _ _ _ _ => (me_var 2)) (agin_name (by decide))) ma_nil))))⟩
abbrev s_has_even_runs : Stmt := topS 23
abbrev N_has_even_runs : List Str := ["places", "room", "outside", "stops", "at"]
theorem sc_has_even_runs : FnScope N_has_even_runs ["places", "room"] (defScope s_has_even_runs) := ⟨rfl, rfl, rfl, by decide +kernel, rfl, by decide +kernel, by decide +kernel⟩
def b_has_even_runs : DL.Env → R Fl := fun r => (then_ (asg 2 r (call_ 2 m_complement (acons (get r 0) (acons (get r 1) (.ok []))))) (fun r => (then_ (asg 3 r (o2 addD (get r 2) (dsp tupD (acons (o2 addD (o2 ixA (get r 2) (.ok (.int 0))) (get r 0)) (.ok []))))) (fun r => (ret (cbf allT (acons (lcM [4] (fun r => (dsp rg1 (acons (cbf lenD (acons (get r 2) (.ok []))) (.ok [])))) (agV 4) (fun _ => .ok true) (fun r => (o2 andD (o2 subD (o2 ixA (get r 3) (o2 addD (get r 4) (.ok (.int 1)))) (o2 ixA (get r 3) (get r 4))) (.ok (.int 1)))) r) (.ok []))))))))
def m_has_even_runs : List D → R D := runX 5 b_has_even_runs
theorem k_has_even_runs (F : FnAt K mg "has_even_runs" s_has_even_runs ["places", "room"]) (k_complement : KnX P w K mg base "complement" 1 2 m_complement) (b_range : mg "range" = none) (b_len : mg "len" = none) (b_all : mg "all" = none) : KnX P w K mg base "has_even_runs" 2 2 m_has_even_runs :=
  KnX.mk' (M := []) (M' := []) F sc_has_even_runs (by decide) fun f cdv A outer s H E hr => ⟨_,
(mss_cons (ms_set 2 sc_has_even_runs.nd (me_callX k_complement hr (px (takes_of rfl rfl rfl rfl)) (by rfl) (ma_cons (me_var 0) (ma_cons (me_var 1) ma_nil))))
(mss_cons (ms_set 3 sc_has_even_runs.nd (me_op (r := rAddX K) op_addX rs_add (me_var 2) (me_tup (ma_cons (me_op (r := rAddX K) op_addX rs_add (me_ixA K (hu_of hr) (me_var 2) me_int) (me_var 0)) ma_nil))))
(mss_one (ms_ret (me_callB (r := rAllT K) (cr_allT rfl) cs_allT (by rfl) b_all (by decide +kernel) (ma_cons (me_lc (own := [("at", 4)]) rfl sc_has_even_runs.nd (mi_rng1 (by rfl) b_range (ma_cons (me_callB (r := rLenX K) cr_lenX cs_len (by rfl) b_len (by decide +kernel) (ma_cons (me_var 2) ma_nil)) ma_nil)) (blkOk_by (N := N_has_even_runs) (sc := defScope s_has_even_runs) (own := [("at", 4)]) (by decide +kernel)) (fun _ _ _ _ _ => (mg_name 4 sc_has_even_runs.nd)) (fun _ _ _ _ _ => mts_nil) (fun _ _ _ _ _ => (me_op op_and rs_and (me_op op_sub rs_sub (me_ixA K (hu_of hr) (me_var 3) (me_op (r := rAddX K) op_addX rs_add (me_var 4) me_int)) (me_ixA K (hu_of hr) (me_var 3) (me_var 4))) me_int)) (agin_name (by decide))) ma_nil))))))⟩
abbrev s_ring_book : Stmt := topS 22
abbrev N_ring_book : List Str := ["places", "size", "rooms", "room"]
theorem sc_ring_book : FnScope N_ring_book ["places", "size"] (defScope s_ring_book) := ⟨rfl, rfl, rfl, by decide +kernel, rfl, by decide +kernel, by decide +kernel⟩
def b_ring_book : DL.Env → R Fl := fun r => (then_ (ifv (tor (tst (o2 eqD (o2 modD (get r 1) (.ok (.int 2))) (.ok (.int 1)))) (tnot (tst (ch2 leD ltD (.ok (.int 2)) (get r 1) (get r 0))))) (raiseS "Mismatch" ["fault"] (acons (.ok (.str "size")) (.ok []))) (.ok (.nx r))) (fun r => (then_ (asg 2 r (call_ 2 m_rooms_of_size (acons (get r 0) (acons (get r 1) (.ok []))))) (fun r => (ret (call_ 3 m_Book_init (acons (get r 0) (acons (get r 1) (acons (lcM [3] (fun r => (its (get r 2))) (agV 3) (fun r => (tst (call_ 2 m_has_even_runs (acons (get r 0) (acons (get r 3) (.ok [])))))) (fun r => (get r 3)) r) (.ok []))))))))))
def m_ring_book : List D → R D := runX 4 b_ring_book
theorem k_ring_book (F : FnAt K mg "ring_book" s_ring_book ["places", "size"]) {C_Book : Addr} (k_rooms_of_size : KnX P w K mg base "rooms_of_size" 6 2 m_rooms_of_size) (k_has_even_runs : KnX P w K mg base "has_even_runs" 2 2 m_has_even_runs) {C_Mismatch : Addr} (x_Mismatch : XcAt P w K mg base "Mismatch" C_Mismatch ["fault"]) (k_Book_init : CkAt P w K mg base "Book" C_Book 3 3 m_Book_init) : KnX P w K mg base "ring_book" 7 2 m_ring_book :=
  KnX.mk' (M := []) (M' := []) F sc_ring_book (by decide) fun f cdv A outer s H E hr => ⟨_,
(mss_cons (ms_if (MW.mt (mw_or (mt_cmp (r := rEqD K) (op_eqD hr.units) rs_eq (me_op op_mod rs_mod (me_var 1) me_int) me_int) (mw_or1 (mt_not (mt_chain op_le rs_le (r' := rLtX K) (op_ltX hr) rs_lt me_int (me_var 1) (me_var 0))))))
(mss_one (ms_raiseX x_Mismatch (takes_of rfl rfl rfl rfl) hr (by rfl) (ma_cons me_str ma_nil)))
mss_nil)
(mss_cons (ms_set 2 sc_ring_book.nd (me_callX k_rooms_of_size hr (px (takes_of rfl rfl rfl rfl)) (by rfl) (ma_cons (me_var 0) (ma_cons (me_var 1) ma_nil))))
(mss_one (ms_ret (me_make k_Book_init hr (px (takes_of rfl rfl rfl rfl)) (by rfl) (ma_cons (me_var 0) (ma_cons (me_var 1) (ma_cons (me_lc (own := [("room", 3)]) rfl sc_ring_book.nd (mi_seq K (me_var 2)) (blkOk_by (N := N_ring_book) (sc := defScope s_ring_book) (own := [("room", 3)]) (by decide +kernel)) (fun _ _ _ _ _ => (mg_name 3 sc_ring_book.nd)) (fun _ _ _ _ _ => (mts_one (mt_val (me_callX k_has_even_runs hr pxL (by rfl) (ma_cons (me_var 0) (ma_cons (me_var 3) ma_nil)))))) (fun _ _ _ _ _ => (me_var 3)) (agin_name (by decide))) ma_nil))))))))⟩
abbrev s__law_ways : Stmt := topS 27
abbrev N__law_ways : List Str := ["_law_n", "_law_pairs", "_law_many", "_law_k"]
theorem sc__law_ways : FnScope N__law_ways ["_law_n", "_law_pairs"] (defScope s__law_ways) := ⟨rfl, rfl, rfl, by decide +kernel, rfl, by decide +kernel, by decide +kernel⟩
def b__law_ways : DL.Env → R Fl := fun r => (then_ (asg 2 r (get r 0)) (fun r => (then_ (forR rg1 (agV 3) (fun r => (asg 2 r (o2 mulD (get r 2) (o2 subD (o2 subD (o2 subD (get r 0) (get r 1)) (.ok (.int 1))) (get r 3))))) r (acons (o2 subD (get r 1) (.ok (.int 1))) (.ok []))) (fun r => (then_ (forR rg1 (agV 3) (fun r => (asg 2 r (o2 fdivD (get r 2) (o2 addD (get r 3) (.ok (.int 1)))))) r (acons (get r 1) (.ok []))) (fun r => (ret (get r 2))))))))
def m__law_ways : List D → R D := runX 4 b__law_ways
theorem k__law_ways (F : FnAt K mg "_law_ways" s__law_ways ["_law_n", "_law_pairs"]) (b_range : mg "range" = none) : KnX P w K mg base "_law_ways" 1 2 m__law_ways :=
  KnX.mk' (M := []) (M' := []) F sc__law_ways (by decide) fun f cdv A outer s H E hr => ⟨_,
(mss_cons (ms_set 2 sc__law_ways.nd (me_var 0))
(mss_cons (ms_forR1 (passes_of rfl) rfl (by rfl) b_range (ma_cons (me_op op_sub rs_sub (me_var 1) me_int) ma_nil) (mg_name 3 sc__law_ways.nd) (agin_name (by decide))
(mss_one (ms_set 2 sc__law_ways.nd (me_op DL.op_mulX rs_mul (me_var 2) (me_op op_sub rs_sub (me_op op_sub rs_sub (me_op op_sub rs_sub (me_var 0) (me_var 1)) me_int) (me_var 3))))))
(mss_cons (ms_forR1 (passes_of rfl) rfl (by rfl) b_range (ma_cons (me_var 1) ma_nil) (mg_name 3 sc__law_ways.nd) (agin_name (by decide))
(mss_one (ms_set 2 sc__law_ways.nd (me_op op_fdiv rs_fdiv (me_var 2) (me_op (r := rAddX K) op_addX rs_add (me_var 3) me_int)))))
(mss_one (ms_ret (me_var 2))))))⟩
abbrev s__law_room : Stmt := topS 28
abbrev N__law_room : List Str := ["_law_room_here", "_law_n", "_law_size", "_law_k"]
theorem sc__law_room : FnScope N__law_room ["_law_room_here", "_law_n", "_law_size"] (defScope s__law_room) := ⟨rfl, rfl, rfl, by decide +kernel, rfl, by decide +kernel, by decide +kernel⟩
def b__law_room : DL.Env → R Fl := fun r => (then_ (ifv (tor (tnot (tst (cbf (isoD oT oB (fun _ _ => none)) (acons (get r 0) (acons (.ok (.ty "tuple")) (.ok [])))))) (tst (o2 neD (cbf lenD (acons (get r 0) (.ok []))) (get r 2)))) (ret (.ok (.bl false))) (.ok (.nx r))) (fun r => (then_ (forR rg1 (agV 3) (fun r => (then_ (ifv (tor (tnot (tst (cbf (isoD oT oB (fun _ _ => none)) (acons (o2 ixA (get r 0) (get r 3)) (acons (.ok (.ty "int")) (.ok [])))))) (tor (tst (cbf (isoD oT oB (fun _ _ => none)) (acons (o2 ixA (get r 0) (get r 3)) (acons (.ok (.ty "bool")) (.ok []))))) (tor (tst (o2 ltD (o2 ixA (get r 0) (get r 3)) (.ok (.int 0)))) (tst (o2 geX (o2 ixA (get r 0) (get r 3)) (get r 1)))))) (ret (.ok (.bl false))) (.ok (.nx r))) (fun r => (ifv (tand (tst (o2 gtD (get r 3) (.ok (.int 0)))) (tst (o2 geX (o2 ixA (get r 0) (o2 subD (get r 3) (.ok (.int 1)))) (o2 ixA (get r 0) (get r 3))))) (ret (.ok (.bl false))) (.ok (.nx r)))))) r (acons (get r 2) (.ok []))) (fun r => (ret (.ok (.bl true)))))))
def m__law_room : List D → R D := runX 4 b__law_room
theorem k__law_room (F : FnAt K mg "_law_room" s__law_room ["_law_room_here", "_law_n", "_law_size"]) (b_tuple : mg "tuple" = none) (b_isinstance : mg "isinstance" = none) (b_len : mg "len" = none) (b_int : mg "int" = none) (b_bool : mg "bool" = none) (b_range : mg "range" = none) (S_o : OSub K mg oT oB (fun _ _ => none)) : KnX P w K mg base "_law_room" 1 3 m__law_room :=
  KnX.mk' (M := []) (M' := []) F sc__law_room (by decide) fun f cdv A outer s H E hr => ⟨_,
(mss_cons (ms_if (MW.mt (mw_or (mt_not (mt_val (me_callB (r := rIsi K) call_isi (cs_iso S_o) (by rfl) b_isinstance (by decide +kernel) (ma_cons (me_var 0) (ma_cons (me_bty (n := "tuple") (by rfl) b_tuple (by decide +kernel)) ma_nil))))) (mw_or1 (mt_cmp (r := rNeD K) (op_neD hr.units) rs_ne (me_callB (r := rLenX K) cr_lenX cs_len (by rfl) b_len (by decide +kernel) (ma_cons (me_var 0) ma_nil)) (me_var 2)))))
(mss_one (ms_ret me_bl))
mss_nil)
(mss_cons (ms_forR1 (passes_of rfl) rfl (by rfl) b_range (ma_cons (me_var 2) ma_nil) (mg_name 3 sc__law_room.nd) (agin_name (by decide))
(mss_cons (ms_if (MW.mt (mw_or (mt_not (mt_val (me_callB (r := rIsi K) call_isi (cs_iso S_o) (by rfl) b_isinstance (by decide +kernel) (ma_cons (me_ixA K (hu_of hr) (me_var 0) (me_var 3)) (ma_cons (me_bty (n := "int") (by rfl) b_int (by decide +kernel)) ma_nil))))) (mw_or (mt_val (me_callB (r := rIsi K) call_isi (cs_iso S_o) (by rfl) b_isinstance (by decide +kernel) (ma_cons (me_ixA K (hu_of hr) (me_var 0) (me_var 3)) (ma_cons (me_bty (n := "bool") (by rfl) b_bool (by decide +kernel)) ma_nil)))) (mw_or (mt_cmp (r := rLtX K) (op_ltX hr) rs_lt (me_ixA K (hu_of hr) (me_var 0) (me_var 3)) me_int) (mw_or1 (mt_cmp (r := rGeX K) (op_geX hr) rs_geX (me_ixA K (hu_of hr) (me_var 0) (me_var 3)) (me_var 1)))))))
(mss_one (ms_ret me_bl))
mss_nil)
(mss_one (ms_if (MW.mt (mw_and (mt_cmp op_gt rs_gt (me_var 3) me_int) (mw_and1 (mt_cmp (r := rGeX K) (op_geX hr) rs_geX (me_ixA K (hu_of hr) (me_var 0) (me_op op_sub rs_sub (me_var 3) me_int)) (me_ixA K (hu_of hr) (me_var 0) (me_var 3))))))
(mss_one (ms_ret me_bl))
mss_nil))))
(mss_one (ms_ret me_bl))))⟩
abbrev s__law_even_runs : Stmt := topS 26
abbrev N__law_even_runs : List Str := ["_law_n", "_law_room_here", "_law_outside", "_law_length", "_law_k", "_law_p"]
theorem sc__law_even_runs : FnScope N__law_even_runs ["_law_n", "_law_room_here"] (defScope s__law_even_runs) := ⟨rfl, rfl, rfl, by decide +kernel, rfl, by decide +kernel, by decide +kernel⟩
def b__law_even_runs : DL.Env → R Fl := fun r => (then_ (asg 2 r (lcM [5] (fun r => (dsp rg1 (acons (get r 0) (.ok [])))) (agV 5) (fun r => (tst (o2 ninG (get r 5) (get r 1)))) (fun r => (get r 5)) r)) (fun r => (then_ (asg 3 r (.ok (.int 0))) (fun r => (then_ (forR rg2 (agV 4) (fun r => (ifv (tst (o2 inG (o2 modD (cbf intD (acons (o2 addD (o2 ixA (get r 2) (.ok (.int 0))) (get r 4)) (.ok []))) (get r 0)) (get r 1))) (asg 3 r (o2 addD (get r 3) (.ok (.int 1)))) (then_ (ifv (tst (o2 eqD (o2 modD (cbf intD (acons (get r 3) (.ok []))) (.ok (.int 2))) (.ok (.int 1)))) (ret (.ok (.bl false))) (.ok (.nx r))) (fun r => (asg 3 r (.ok (.int 0))))))) r (acons (.ok (.int 1)) (acons (o2 addD (get r 0) (.ok (.int 1))) (.ok [])))) (fun r => (ret (.ok (.bl true)))))))))
def m__law_even_runs : List D → R D := runX 6 b__law_even_runs
theorem k__law_even_runs (F : FnAt K mg "_law_even_runs" s__law_even_runs ["_law_n", "_law_room_here"]) (b_range : mg "range" = none) (b_int : mg "int" = none) : KnX P w K mg base "_law_even_runs" 1 2 m__law_even_runs :=
  KnX.mk' (M := []) (M' := []) F sc__law_even_runs (by decide) fun f cdv A outer s H E hr => ⟨_,
(mss_cons (ms_setLc 2 (own := [("_law_p", 5)]) rfl sc__law_even_runs.nd (mi_rng1 (by rfl) b_range (ma_cons (me_var 0) ma_nil)) (blkOk_by (N := N__law_even_runs) (sc := defScope s__law_even_runs) (own := [("_law_p", 5)]) (by decide +kernel)) (fun _ _ _ _ _ => (mg_name 5 sc__law_even_runs.nd)) (fun _ _ _ _ _ => (mts_one (mt_ninG K (hu65 hr) (me_var 5) (me_var 1)))) (fun _ _ _ _ _ => (me_var 5)) (agin_name (by decide)) (sw_true rfl rfl rfl (by decide +kernel)))
(mss_cons (ms_set 3 sc__law_even_runs.nd me_int)
(mss_cons (ms_forR2 (passes_of rfl) rfl (by rfl) b_range (ma_cons me_int (ma_cons (me_op (r := rAddX K) op_addX rs_add (me_var 0) me_int) ma_nil)) (mg_name 4 sc__law_even_runs.nd) (agin_name (by decide))
(mss_one (ms_if (mt_inG K (hu65 hr) (me_op op_mod rs_mod (me_callTy call_int1 cs_int (by rfl) b_int (by decide +kernel) (ma_cons (me_op (r := rAddX K) op_addX rs_add (me_ixA K (hu_of hr) (me_var 2) me_int) (me_var 4)) ma_nil)) (me_var 0)) (me_var 1))
(mss_one (ms_set 3 sc__law_even_runs.nd (me_op (r := rAddX K) op_addX rs_add (me_var 3) me_int)))
(mss_cons (ms_if (mt_cmp (r := rEqD K) (op_eqD hr.units) rs_eq (me_op op_mod rs_mod (me_callTy call_int1 cs_int (by rfl) b_int (by decide +kernel) (ma_cons (me_var 3) ma_nil)) me_int) me_int)
(mss_one (ms_ret me_bl))
mss_nil)
(mss_one (ms_set 3 sc__law_even_runs.nd me_int))))))
(mss_one (ms_ret me_bl)))))⟩
abbrev s__law_two_each : Stmt := topS 29
abbrev N__law_two_each : List Str := ["_law_rooms", "_law_counts", "_law_room_here", "_law_k", "_law_face"]
theorem sc__law_two_each : FnScope N__law_two_each ["_law_rooms"] (defScope s__law_two_each) := ⟨rfl, rfl, rfl, by decide +kernel, rfl, by decide +kernel, by decide +kernel⟩
def b__law_two_each : DL.Env → R Fl := fun r => (then_ (.ok (.nx (r.set 1 (some (.dt [] []))))) (fun r => (then_ (forS (agV 2) (fun r => (forR rg1 (agV 3) (fun r => (then_ (asg 4 r (o2 addD (o3 sliceD (get (wipeE r [1]) 2) (.ok none) (toI (get (wipeE r [1]) 3))) (o3 sliceD (get (wipeE r [1]) 2) (toI (o2 addD (get (wipeE r [1]) 3) (.ok (.int 1)))) (.ok none)))) (fun r => (dputS [1] 1 r (o2 addD (og2 dgetE (get r 1) (get r 4) (.ok (.int 0))) (.ok (.int 1))) (get r 4))))) r (acons (cbf lenD (acons (get r 2) (.ok []))) (.ok [])))) r (its (get (wipeE r [1]) 0))) (fun r => (ret (o2 eqD (cbf lenD (acons (lcK 1 [4] (agV 4) (fun r => (tst (o2 neD (o2 ixA (get r 1) (get r 4)) (.ok (.int 2))))) (fun r => (get r 4)) r) (.ok []))) (.ok (.int 0))))))))
def m__law_two_each : List D → R D := runX 5 b__law_two_each
theorem k__law_two_each (F : FnAt K mg "_law_two_each" s__law_two_each ["_law_rooms"]) (b_range : mg "range" = none) (b_len : mg "len" = none) : KnX P w K mg base "_law_two_each" 1 1 m__law_two_each :=
  KnX.mk' (M := [1]) (M' := [1]) F sc__law_two_each (by decide) fun f cdv A outer s H E hr => ⟨_,
(mss_cons (ms_newT 1 sc__law_two_each.nd)
(mss_cons (ms_for (passes_of rfl) rfl (mi_seq K (me_var 0)) (mg_name 2 sc__law_two_each.nd) (agin_name (by decide))
(mss_one (ms_forR1 (passes_of rfl) rfl (by rfl) b_range (ma_cons (me_callB (r := rLenX K) cr_lenX cs_len (by rfl) b_len (by decide +kernel) (ma_cons (me_var 2) ma_nil)) ma_nil) (mg_name 3 sc__law_two_each.nd) (agin_name (by decide))
(mss_cons (ms_set 4 sc__law_two_each.nd (me_op (r := rAddX K) op_addX rs_add (me_slice (r := rSlX K) sl_X ss_X (me_var 2) mo_none (mo_some (me_var 3))) (me_slice (r := rSlX K) sl_X ss_X (me_var 2) (mo_some (me_op (r := rAddX K) op_addX rs_add (me_var 3) me_int)) mo_none)))
(mss_one (ms_dputV 1 (hu_of hr) (me_op (r := rAddX K) op_addX rs_add (me_get2 (hu_of hr) (me_var 1) (me_var 4) me_int) me_int) (me_var 4)))))))
(mss_one (ms_ret (me_cmp (r := rEqD K) (op_eqD hr.units) rs_eq (me_callB (r := rLenX K) cr_lenX cs_len (by rfl) b_len (by decide +kernel) (ma_cons (me_lcK (own := [("_law_face", 4)]) 1 rfl sc__law_two_each.nd (blkOk_by (N := N__law_two_each) (sc := defScope s__law_two_each) (own := [("_law_face", 4)]) (by decide +kernel)) (fun _ _ _ _ _ => (mg_name 4 sc__law_two_each.nd)) (fun _ _ _ _ _ => (mts_one (mt_cmp (r := rNeD K) (op_neD hr.units) rs_ne (me_ixA K (hu_of hr) (me_var 1) (me_var 4)) me_int))) (fun _ _ _ _ _ => (me_var 4)) (agin_name (by decide))) ma_nil)) me_int)))))⟩
abbrev s_faces : Stmt := topS 7
abbrev N_faces : List Str := ["room", "at"]
theorem sc_faces : FnScope N_faces ["room"] (defScope s_faces) := ⟨rfl, rfl, rfl, by decide +kernel, rfl, by decide +kernel, by decide +kernel⟩
def b_faces : DL.Env → R Fl := fun r => (ret (lcM [1] (fun r => (dsp rg1 (acons (cbf lenD (acons (get r 0) (.ok []))) (.ok [])))) (agV 1) (fun _ => .ok true) (fun r => (o2 addD (o3 sliceD (get r 0) (.ok none) (toI (get r 1))) (o3 sliceD (get r 0) (toI (o2 addD (get r 1) (.ok (.int 1)))) (.ok none)))) r))
def m_faces : List D → R D := runX 2 b_faces
theorem k_faces (F : FnAt K mg "faces" s_faces ["room"]) (b_range : mg "range" = none) (b_len : mg "len" = none) : KnX P w K mg base "faces" 1 1 m_faces :=
  KnX.mk' (M := []) (M' := []) F sc_faces (by decide) fun f cdv A outer s H E hr => ⟨_,
(mss_one (ms_ret (me_lc (own := [("at", 1)]) rfl sc_faces.nd (mi_rng1 (by rfl) b_range (ma_cons (me_callB (r := rLenX K) cr_lenX cs_len (by rfl) b_len (by decide +kernel) (ma_cons (me_var 0) ma_nil)) ma_nil)) (blkOk_by (N := N_faces) (sc := defScope s_faces) (own := [("at", 1)]) (by decide +kernel)) (fun _ _ _ _ _ => (mg_name 1 sc_faces.nd)) (fun _ _ _ _ _ => mts_nil) (fun _ _ _ _ _ => (me_op (r := rAddX K) op_addX rs_add (me_slice (r := rSlX K) sl_X ss_X (me_var 0) mo_none (mo_some (me_var 1))) (me_slice (r := rSlX K) sl_X ss_X (me_var 0) (mo_some (me_op (r := rAddX K) op_addX rs_add (me_var 1) me_int)) mo_none))) (agin_name (by decide)))))⟩
abbrev s_face_table : Stmt := topS 19
abbrev N_face_table : List Str := ["book", "table", "room", "face"]
theorem sc_face_table : FnScope N_face_table ["book"] (defScope s_face_table) := ⟨rfl, rfl, rfl, by decide +kernel, rfl, by decide +kernel, by decide +kernel⟩
def b_face_table : DL.Env → R Fl := fun r => (then_ (.ok (.nx (r.set 1 (some (.dt [] []))))) (fun r => (then_ (forS (agV 2) (fun r => (forS (agV 3) (fun r => (sdS [1, 1] 1 r (get (wipeE r [1, 1]) 3) (get (wipeE r [1, 1]) 2))) r (its (call_ 1 m_faces (acons (get (wipeE r [1, 1]) 2) (.ok [])))))) r (its (o1 (fldD ["Book"] "rooms") (get (wipeE r [1, 1]) 0)))) (fun r => (ret (get r 1))))))
def m_face_table : List D → R D := runX 4 b_face_table
theorem k_face_table (F : FnAt K mg "face_table" s_face_table ["book"]) (k_faces : KnX P w K mg base "faces" 1 1 m_faces) (f_rooms : ClF K (g0 mg) ["Book"] "rooms") : KnX P w K mg base "face_table" 2 1 m_face_table :=
  KnX.mk' (M := [1, 1]) (M' := [1, 1]) F sc_face_table (by decide) fun f cdv A outer s H E hr => ⟨_,
(mss_cons (ms_newTD 1 sc_face_table.nd)
(mss_cons (ms_for (passes_of rfl) rfl (mi_seq K (me_fldK K ["Book"] f_rooms (me_var 0))) (mg_name 2 sc_face_table.nd) (agin_name (by decide))
(mss_one (ms_for (passes_of rfl) rfl (mi_seq K (me_callX k_faces hr (px (takes_of rfl rfl rfl rfl)) (by rfl) (ma_cons (me_var 2) ma_nil))) (mg_name 3 sc_face_table.nd) (agin_name (by decide))
(mss_one (ms_sdapp 1 (hu_of hr) (me_var 3) (me_var 2) (hp := fun h1 h2 => pe_bm PySem.F.plainAttrs_list PySem.F.slot_list_append PySem.F.type_list_append mt_append h1 (pa_cons h2 pa_nil)))))))
(mss_one (ms_ret (me_var 1)))))⟩
abbrev s_Book_is_two_each : Stmt := inC (topS 17) 10
abbrev N_Book_is_two_each : List Str := ["self", "table", "face"]
theorem sc_Book_is_two_each : FnScope N_Book_is_two_each ["self"] (defScope s_Book_is_two_each) := ⟨rfl, rfl, rfl, by decide +kernel, rfl, by decide +kernel, by decide +kernel⟩
def b_Book_is_two_each : DL.Env → R Fl := fun r => (then_ (asg 1 r (call_ 1 m_face_table (acons (get r 0) (.ok [])))) (fun r => (ret (cbf allD (acons (lcK 1 [2] (agV 2) (fun _ => .ok true) (fun r => (o2 eqD (cbf lenD (acons (o2 ixA (get r 1) (get r 2)) (.ok []))) (.ok (.int 2)))) r) (.ok []))))))
def m_Book_is_two_each : List D → R D := runX 3 b_Book_is_two_each
theorem p_Book_is_two_each {f : Addr} {fd : FuncData} (F : Fun K "is_two_each" "Book.is_two_each" s_Book_is_two_each f fd) (b : Binds K fd ["self"] []) {C_Book : Addr} (h_Book : mg "Book" = some (.ref C_Book)) (k_face_table : KnX P w K mg base "face_table" 2 1 m_face_table) (b_len : mg "len" = none) (b_all : mg "all" = none) {p : Addr} (hc : Cls K C_Book) (hm : PropOf K C_Book "is_two_each" p f) : PrAt P w K mg base "Book" C_Book "is_two_each" 3 m_Book_is_two_each :=
  PrAt.mk' (M := []) (M' := []) F h_Book hc hm b sc_Book_is_two_each (by decide) rfl fun cdv A outer s H E hr => ⟨_,
(mss_cons (ms_set 1 sc_Book_is_two_each.nd (me_callX k_face_table hr (px (takes_of rfl rfl rfl rfl)) (by rfl) (ma_cons (me_var 0) ma_nil)))
(mss_one (ms_ret (me_callB (r := rAll K) (cr_all rfl) cs_all (by rfl) b_all (by decide +kernel) (ma_cons (me_lcK (own := [("face", 2)]) 1 rfl sc_Book_is_two_each.nd (blkOk_by (N := N_Book_is_two_each) (sc := defScope s_Book_is_two_each) (own := [("face", 2)]) (by decide +kernel)) (fun _ _ _ _ _ => (mg_name 2 sc_Book_is_two_each.nd)) (fun _ _ _ _ _ => mts_nil) (fun _ _ _ _ _ => (me_cmp (r := rEqD K) (op_eqD hr.units) rs_eq (me_callB (r := rLenX K) cr_lenX cs_len (by rfl) b_len (by decide +kernel) (ma_cons (me_ixA K (hu_of hr) (me_var 1) (me_var 2)) ma_nil)) me_int)) (agin_name (by decide))) ma_nil)))))⟩
abbrev s_Book_odd_faces : Stmt := inC (topS 17) 11
abbrev N_Book_odd_faces : List Str := ["self", "table", "face"]
theorem sc_Book_odd_faces : FnScope N_Book_odd_faces ["self"] (defScope s_Book_odd_faces) := ⟨rfl, rfl, rfl, by decide +kernel, rfl, by decide +kernel, by decide +kernel⟩
def b_Book_odd_faces : DL.Env → R Fl := fun r => (then_ (asg 1 r (call_ 1 m_face_table (acons (get r 0) (.ok [])))) (fun r => (ret (cbf sortedA (acons (lcK 1 [2] (agV 2) (fun r => (tru (o2 andD (cbf lenD (acons (o2 ixA (get r 1) (get r 2)) (.ok []))) (.ok (.int 1))))) (fun r => (get r 2)) r) (.ok []))))))
def m_Book_odd_faces : List D → R D := runX 3 b_Book_odd_faces
theorem t_Book_odd_faces {f : Addr} {fd : FuncData} (F : Fun K "odd_faces" "Book.odd_faces" s_Book_odd_faces f fd) (b : Binds K fd ["self"] []) {C_Book : Addr} (h_Book : mg "Book" = some (.ref C_Book)) (k_face_table : KnX P w K mg base "face_table" 2 1 m_face_table) (b_len : mg "len" = none) (b_sorted : mg "sorted" = none) (hc : Cls K C_Book) (hm : Meth K C_Book "odd_faces" f) : MtAt P w K mg base "Book" C_Book "odd_faces" 3 1 m_Book_odd_faces :=
  MtAt.mk' (M := []) (M' := []) F h_Book hc hm b sc_Book_odd_faces (by decide) fun cdv A outer s H E hr => ⟨_,
(mss_cons (ms_set 1 sc_Book_odd_faces.nd (me_callX k_face_table hr (px (takes_of rfl rfl rfl rfl)) (by rfl) (ma_cons (me_var 0) ma_nil)))
(mss_one (ms_ret (me_callB (r := rSortedA K) cr_sortedA cs_sortedA (by rfl) b_sorted (by decide +kernel) (ma_cons (me_lcK (own := [("face", 2)]) 1 rfl sc_Book_odd_faces.nd (blkOk_by (N := N_Book_odd_faces) (sc := defScope s_Book_odd_faces) (own := [("face", 2)]) (by decide +kernel)) (fun _ _ _ _ _ => (mg_name 2 sc_Book_odd_faces.nd)) (fun _ _ _ _ _ => (mts_one (mt_truK K (me_op op_and rs_and (me_callB (r := rLenX K) cr_lenX cs_len (by rfl) b_len (by decide +kernel) (ma_cons (me_ixA K (hu_of hr) (me_var 1) (me_var 2)) ma_nil)) me_int)))) (fun _ _ _ _ _ => (me_var 2)) (agin_name (by decide))) ma_nil)))))⟩
abbrev s_Book_is_even : Stmt := inC (topS 17) 9
abbrev N_Book_is_even : List Str := ["self"]
theorem sc_Book_is_even : FnScope N_Book_is_even ["self"] (defScope s_Book_is_even) := ⟨rfl, rfl, rfl, by decide +kernel, rfl, by decide +kernel, by decide +kernel⟩
def b_Book_is_even : DL.Env → R Fl := fun r => (ret (o2 eqD (cbf lenD (acons (mth "Book" "odd_faces" 1 m_Book_odd_faces (get r 0) (.ok [])) (.ok []))) (.ok (.int 0))))
def m_Book_is_even : List D → R D := runX 1 b_Book_is_even
theorem p_Book_is_even {f : Addr} {fd : FuncData} (F : Fun K "is_even" "Book.is_even" s_Book_is_even f fd) (b : Binds K fd ["self"] []) {C_Book : Addr} (h_Book : mg "Book" = some (.ref C_Book)) (b_len : mg "len" = none) (t_Book_odd_faces : MtAt P w K mg base "Book" C_Book "odd_faces" 3 1 m_Book_odd_faces) {p : Addr} (hc : Cls K C_Book) (hm : PropOf K C_Book "is_even" p f) : PrAt P w K mg base "Book" C_Book "is_even" 4 m_Book_is_even :=
  PrAt.mk' (M := []) (M' := []) F h_Book hc hm b sc_Book_is_even (by decide) rfl fun cdv A outer s H E hr => ⟨_,
(mss_one (ms_ret (me_cmp (r := rEqD K) (op_eqD hr.units) rs_eq (me_callB (r := rLenX K) cr_lenX cs_len (by rfl) b_len (by decide +kernel) (ma_cons (me_meth0 t_Book_odd_faces hr (px (takes_of rfl rfl rfl rfl)) (me_var 0)) ma_nil)) me_int)))⟩
abbrev s__law_ring : Stmt := topS 30
abbrev N__law_ring : List Str := ["_law_n", "_law_size", "_law_book", "_law_rooms", "_law_k", "_law_p"]
theorem sc__law_ring : FnScope N__law_ring ["_law_n", "_law_size"] (defScope s__law_ring) := ⟨rfl, rfl, rfl, by decide +kernel, rfl, by decide +kernel, by decide +kernel⟩
def b__law_ring : DL.Env → R Fl := fun r => (then_ (asg 2 r (call_ 2 m_ring_book (acons (get r 0) (acons (get r 1) (.ok []))))) (fun r => (then_ (ifv (tor (tnot (tst (cbf (isoD oT oB (fun _ _ => none)) (acons (get r 2) (acons (.ok (.cls "Book")) (.ok [])))))) (tor (tst (o2 neD (o1 (fldD ["Book"] "places") (get r 2)) (get r 0))) (tor (tst (o2 neD (o1 (fldD ["Book"] "size") (get r 2)) (get r 1))) (tnot (tst (cbf (isoD oT oB (fun _ _ => none)) (acons (o1 (fldD ["Book"] "rooms") (get r 2)) (acons (.ok (.ty "tuple")) (.ok []))))))))) (ret (.ok (.bl false))) (.ok (.nx r))) (fun r => (then_ (asg 3 r (cbf listD (acons (o1 (fldD ["Book"] "rooms") (get r 2)) (.ok [])))) (fun r => (then_ (ifv (tst (o2 neD (cbf lenD (acons (get r 3) (.ok []))) (call_ 2 m__law_ways (acons (get r 0) (acons (o2 fdivD (get r 1) (.ok (.int 2))) (.ok [])))))) (ret (.ok (.bl false))) (.ok (.nx r))) (fun r => (then_ (forR rg1 (agV 4) (fun r => (then_ (ifv (tor (tnot (tst (call_ 3 m__law_room (acons (o2 ixA (get r 3) (get r 4)) (acons (get r 0) (acons (get r 1) (.ok []))))))) (tnot (tst (call_ 2 m__law_even_runs (acons (get r 0) (acons (o2 ixA (get r 3) (get r 4)) (.ok []))))))) (ret (.ok (.bl false))) (.ok (.nx r))) (fun r => (then_ (ifv (tand (tst (o2 gtD (get r 4) (.ok (.int 0)))) (tst (o2 geX (o2 ixA (get r 3) (o2 subD (get r 4) (.ok (.int 1)))) (o2 ixA (get r 3) (get r 4))))) (ret (.ok (.bl false))) (.ok (.nx r))) (fun r => (ifv (tst (o2 ninG (cbf tupleD (acons (cbf sortedA (acons (lcM [5] (fun r => (its (o2 ixA (get r 3) (get r 4)))) (agV 5) (fun _ => .ok true) (fun r => (o2 modD (cbf intD (acons (o2 addD (get r 5) (.ok (.int 1))) (.ok []))) (get r 0))) r) (.ok []))) (.ok []))) (get r 3))) (ret (.ok (.bl false))) (.ok (.nx r)))))))) r (acons (cbf lenD (acons (get r 3) (.ok []))) (.ok []))) (fun r => (ret (vand (call_ 1 m__law_two_each (acons (get r 3) (.ok []))) (vand (prp "Book" m_Book_is_two_each (get r 2)) (prp "Book" m_Book_is_even (get r 2)))))))))))))))
def m__law_ring : List D → R D := runX 6 b__law_ring
theorem k__law_ring (F : FnAt K mg "_law_ring" s__law_ring ["_law_n", "_law_size"]) {C_Book : Addr} (k_ring_book : KnX P w K mg base "ring_book" 7 2 m_ring_book) (k__law_ways : KnX P w K mg base "_law_ways" 1 2 m__law_ways) (k__law_room : KnX P w K mg base "_law_room" 1 3 m__law_room) (k__law_even_runs : KnX P w K mg base "_law_even_runs" 1 2 m__law_even_runs) (k__law_two_each : KnX P w K mg base "_law_two_each" 1 1 m__law_two_each) (b_isinstance : mg "isinstance" = none) (b_tuple : mg "tuple" = none) (b_list : mg "list" = none) (b_len : mg "len" = none) (b_int : mg "int" = none) (b_sorted : mg "sorted" = none) (b_range : mg "range" = none) (h_Book : mg "Book" = some (.ref C_Book)) (S_o : OSub K mg oT oB (fun _ _ => none)) (f_places : ClF K (g0 mg) ["Book"] "places") (f_size : ClF K (g0 mg) ["Book"] "size") (f_rooms : ClF K (g0 mg) ["Book"] "rooms") (p_Book_is_two_each : PrAt P w K mg base "Book" C_Book "is_two_each" 3 m_Book_is_two_each) (p_Book_is_even : PrAt P w K mg base "Book" C_Book "is_even" 4 m_Book_is_even) : KnX P w K mg base "_law_ring" 8 2 m__law_ring :=
  KnX.mk' (M := []) (M' := []) F sc__law_ring (by decide) fun f cdv A outer s H E hr => ⟨_,
(mss_cons (ms_set 2 sc__law_ring.nd (me_callX k_ring_book hr (px (takes_of rfl rfl rfl rfl)) (by rfl) (ma_cons (me_var 0) (ma_cons (me_var 1) ma_nil))))
(mss_cons (ms_if (MW.mt (mw_or (mt_not (mt_val (me_callB (r := rIsi K) call_isi (cs_iso S_o) (by rfl) b_isinstance (by decide +kernel) (ma_cons (me_var 2) (ma_cons (me_cls (by rfl) h_Book) ma_nil))))) (mw_or (mt_cmp (r := rNeD K) (op_neD hr.units) rs_ne (me_fldK K ["Book"] f_places (me_var 2)) (me_var 0)) (mw_or (mt_cmp (r := rNeD K) (op_neD hr.units) rs_ne (me_fldK K ["Book"] f_size (me_var 2)) (me_var 1)) (mw_or1 (mt_not (mt_val (me_callB (r := rIsi K) call_isi (cs_iso S_o) (by rfl) b_isinstance (by decide +kernel) (ma_cons (me_fldK K ["Book"] f_rooms (me_var 2)) (ma_cons (me_bty (n := "tuple") (by rfl) b_tuple (by decide +kernel)) ma_nil))))))))))
(mss_one (ms_ret me_bl))
mss_nil)
(mss_cons (ms_set 3 sc__law_ring.nd (me_callTy (r := rListOf K) cr_listOf cs_list (by rfl) b_list (by decide +kernel) (ma_cons (me_fldK K ["Book"] f_rooms (me_var 2)) ma_nil)))
(mss_cons (ms_if (mt_cmp (r := rNeD K) (op_neD hr.units) rs_ne (me_callB (r := rLenX K) cr_lenX cs_len (by rfl) b_len (by decide +kernel) (ma_cons (me_var 3) ma_nil)) (me_callX k__law_ways hr (px (takes_of rfl rfl rfl rfl)) (by rfl) (ma_cons (me_var 0) (ma_cons (me_op op_fdiv rs_fdiv (me_var 1) me_int) ma_nil))))
(mss_one (ms_ret me_bl))
mss_nil)
(mss_cons (ms_forR1 (passes_of rfl) rfl (by rfl) b_range (ma_cons (me_callB (r := rLenX K) cr_lenX cs_len (by rfl) b_len (by decide +kernel) (ma_cons (me_var 3) ma_nil)) ma_nil) (mg_name 4 sc__law_ring.nd) (agin_name (by decide))
(mss_cons (ms_if (MW.mt (mw_or (mt_not (mt_val (me_callX k__law_room hr (px (takes_of rfl rfl rfl rfl)) (by rfl) (ma_cons (me_ixA K (hu_of hr) (me_var 3) (me_var 4)) (ma_cons (me_var 0) (ma_cons (me_var 1) ma_nil)))))) (mw_or1 (mt_not (mt_val (me_callX k__law_even_runs hr (px (takes_of rfl rfl rfl rfl)) (by rfl) (ma_cons (me_var 0) (ma_cons (me_ixA K (hu_of hr) (me_var 3) (me_var 4)) ma_nil))))))))
(mss_one (ms_ret me_bl))
mss_nil)
(mss_cons (ms_if (MW.mt (mw_and (mt_cmp op_gt rs_gt (me_var 4) me_int) (mw_and1 (mt_cmp (r := rGeX K) (op_geX hr) rs_geX (me_ixA K (hu_of hr) (me_var 3) (me_op op_sub rs_sub (me_var 4) me_int)) (me_ixA K (hu_of hr) (me_var 3) (me_var 4))))))
(mss_one (ms_ret me_bl))
mss_nil)
(mss_one (ms_if (mt_ninG K (hu65 hr) (me_callTy (r := rTupOf K) cr_tupOf cs_tuple (by rfl) b_tuple (by decide +kernel) (ma_cons (me_callB (r := rSortedA K) cr_sortedA cs_sortedA (by rfl) b_sorted (by decide +kernel) (ma_cons (me_lc (own := [("_law_p", 5)]) rfl sc__law_ring.nd (mi_seq K (me_ixA K (hu_of hr) (me_var 3) (me_var 4))) (blkOk_by (N := N__law_ring) (sc := defScope s__law_ring) (own := [("_law_p", 5)]) (by decide +kernel)) (fun _ _ _ _ _ => (mg_name 5 sc__law_ring.nd)) (fun _ _ _ _ _ => mts_nil) (fun _ _ _ _ _ => (me_op op_mod rs_mod (me_callTy call_int1 cs_int (by rfl) b_int (by decide +kernel) (ma_cons (me_op (r := rAddX K) op_addX rs_add (me_var 5) me_int) ma_nil)) (me_var 0))) (agin_name (by decide))) ma_nil)) ma_nil)) (me_var 3))
(mss_one (ms_ret me_bl))
mss_nil)))))
(mss_one (ms_ret (me_and (me_callX k__law_two_each hr (px (takes_of rfl rfl rfl rfl)) (by rfl) (ma_cons (me_var 3) ma_nil)) (me_and (me_prop p_Book_is_two_each hr (me_var 2)) (me_one (me_prop p_Book_is_even hr (me_var 2))))))))))))⟩
abbrev s__law_refused : Stmt := topS 31
abbrev N__law_refused : List Str := ["_law_n", "_law_size", "e"]
theorem sc__law_refused : FnScope N__law_refused ["_law_n", "_law_size"] (defScope s__law_refused) := ⟨rfl, rfl, rfl, by decide +kernel, rfl, by decide +kernel, by decide +kernel⟩
def b__law_refused : DL.Env → R Fl := fun r => (then_ (tryM xT xB [] (fun r => (drp r (call_ 2 m_ring_book (acons (get (wipeE r []) 0) (acons (get (wipeE r []) 1) (.ok [])))))) [⟨2, true, "Mismatch", fun r => (ifv (tand (tst (cbf (isxD xT xB) (acons (get r 2) (acons (.ok (.cls "NeverAloneError")) (.ok []))))) (tand (tst (cbf (isxD xT xB) (acons (get r 2) (acons (.ok (.ty "ValueError")) (.ok []))))) (tnot (tst (cbf (isxD xT xB) (acons (get r 2) (acons (.ok (.cls "BadBook")) (.ok [])))))))) (ret (dsp tupD (acons (.ok (.str "Mismatch")) (acons (o1 (xfD ["BadBook", "Mismatch"] "fault") (get r 2)) (.ok []))))) (.ok (.nx r)))⟩, ⟨2, true, "BadBook", fun r => (ifv (tand (tst (cbf (isxD xT xB) (acons (get r 2) (acons (.ok (.cls "NeverAloneError")) (.ok []))))) (tst (cbf (isxD xT xB) (acons (get r 2) (acons (.ok (.ty "ValueError")) (.ok [])))))) (ret (dsp tupD (acons (o1 (xfD ["BadBook", "Mismatch"] "fault") (get r 2)) (acons (o1 (xfD ["BadBook"] "at") (get r 2)) (.ok []))))) (.ok (.nx r)))⟩] r) (fun r => (ret (.ok .non))))
def m__law_refused : List D → R D := runX 3 b__law_refused
theorem k__law_refused (F : FnAt K mg "_law_refused" s__law_refused ["_law_n", "_law_size"]) {C_Mismatch : Addr} {C_NeverAloneError : Addr} {C_BadBook : Addr} (k_ring_book : KnX P w K mg base "ring_book" 7 2 m_ring_book) (b_isinstance : mg "isinstance" = none) (b_ValueError : mg "ValueError" = none) (S_x : XSub K mg xT xB) (h_Mismatch : mg "Mismatch" = some (.ref C_Mismatch)) (h_NeverAloneError : mg "NeverAloneError" = some (.ref C_NeverAloneError)) (h_BadBook : mg "BadBook" = some (.ref C_BadBook)) (xf_fault : XcF K mg ["BadBook", "Mismatch"] "fault") (xf_at : XcF K mg ["BadBook"] "at") : KnX P w K mg base "_law_refused" 8 2 m__law_refused :=
  KnX.mk' (M := []) (M' := []) F sc__law_refused (by decide) fun f cdv A outer s H E hr => ⟨_,
(mss_cons (ms_try S_x (mys_one (my_expr (fun W pn xe tk => (me_callX k_ring_book hr (fun σ => passAt tk σ) (by rfl) (ma_cons (me_var 0) (ma_cons (me_var 1) ma_nil))))))
(ClOk.cons (o := true) (i := 2) ⟨rfl, by decide, .inl h_Mismatch⟩ h_Mismatch rfl rfl (fun a oe cls d pn hz hf => (mhs_one (mh_if (MW.mt (mw_and (mt_val (me_callB (call_isX hz hf) (cs_isx S_x) (by rfl) b_isinstance (by decide +kernel) (ma_cons (me_var 2) (ma_cons (me_cls (by rfl) h_NeverAloneError) ma_nil)))) (mw_and (mt_val (me_callB (call_isX hz hf) (cs_isx S_x) (by rfl) b_isinstance (by decide +kernel) (ma_cons (me_var 2) (ma_cons (me_bty (n := "ValueError") (by rfl) b_ValueError (by decide +kernel)) ma_nil)))) (mw_and1 (mt_not (mt_val (me_callB (call_isX hz hf) (cs_isx S_x) (by rfl) b_isinstance (by decide +kernel) (ma_cons (me_var 2) (ma_cons (me_cls (by rfl) h_BadBook) ma_nil)))))))))
(mhs_one (mh_ret (me_tup (ma_cons me_str (ma_cons (me_xf ["BadBook", "Mismatch"] xf_fault hz hf (me_var 2)) ma_nil)))))
mhs_nil)))
(ClOk.cons (o := true) (i := 2) ⟨rfl, by decide, .inl h_BadBook⟩ h_BadBook rfl rfl (fun a oe cls d pn hz hf => (mhs_one (mh_if (MW.mt (mw_and (mt_val (me_callB (call_isX hz hf) (cs_isx S_x) (by rfl) b_isinstance (by decide +kernel) (ma_cons (me_var 2) (ma_cons (me_cls (by rfl) h_NeverAloneError) ma_nil)))) (mw_and1 (mt_val (me_callB (call_isX hz hf) (cs_isx S_x) (by rfl) b_isinstance (by decide +kernel) (ma_cons (me_var 2) (ma_cons (me_bty (n := "ValueError") (by rfl) b_ValueError (by decide +kernel)) ma_nil)))))))
(mhs_one (mh_ret (me_tup (ma_cons (me_xf ["BadBook", "Mismatch"] xf_fault hz hf (me_var 2)) (ma_cons (me_xf ["BadBook"] xf_at hz hf (me_var 2)) ma_nil)))))
mhs_nil)))
ClOk.nil)) (takes_of rfl rfl rfl rfl) sc__law_refused.nd)
(mss_one (ms_ret me_non)))⟩
abbrev s_law : Stmt := topS 32
abbrev N_law : List Str := ["_law_script", "_law_n", "_law_size", "_law_many", "_law_other", "_law_great", "_law_wrong"]
theorem sc_law : FnScope N_law ["_law_script"] (defScope s_law) := ⟨rfl, rfl, rfl, by decide +kernel, rfl, by decide +kernel, by decide +kernel⟩
def b_law : DL.Env → R Fl := fun r => (then_ (asg 1 r (o2 addD (.ok (.int 3)) (o2 modD (cbf intD (acons (call_ 2 m__law_cell (acons (get r 0) (acons (.ok (.int 0)) (.ok [])))) (.ok []))) (.ok (.int 7))))) (fun r => (then_ (ifv (tst (o2 eqD (o2 modD (cbf intD (acons (call_ 2 m__law_cell (acons (get r 0) (acons (.ok (.int 1)) (.ok [])))) (.ok []))) (.ok (.int 8))) (.ok (.int 1)))) (asg 1 r (o2 addD (.ok (.int 10)) (o2 modD (cbf intD (acons (call_ 2 m__law_cell (acons (get r 0) (acons (.ok (.int 0)) (.ok [])))) (.ok []))) (.ok (.int 3))))) (.ok (.nx r))) (fun r => (then_ (asg 2 r (o2 addD (.ok (.int 2)) (o2 mulD (.ok (.int 2)) (o2 modD (cbf intD (acons (call_ 2 m__law_cell (acons (get r 0) (acons (.ok (.int 2)) (.ok [])))) (.ok []))) (o2 fdivD (o2 subD (get r 1) (.ok (.int 1))) (.ok (.int 2))))))) (fun r => (then_ (asg 3 r (o2 addD (.ok (.int 3)) (o2 modD (cbf intD (acons (call_ 2 m__law_cell (acons (get r 0) (acons (.ok (.int 3)) (.ok [])))) (.ok []))) (.ok (.int 6))))) (fun r => (then_ (asg 4 r (o2 addD (.ok (.int 2)) (o2 mulD (.ok (.int 2)) (o2 modD (cbf intD (acons (call_ 2 m__law_cell (acons (get r 0) (acons (.ok (.int 4)) (.ok [])))) (.ok []))) (o2 fdivD (o2 subD (get r 3) (.ok (.int 1))) (.ok (.int 2))))))) (fun r => (then_ (ifv (tor (tnot (tst (call_ 2 m__law_ring (acons (get r 1) (acons (get r 2) (.ok [])))))) (tnot (tst (call_ 2 m__law_ring (acons (get r 3) (acons (get r 4) (.ok []))))))) (ret (.ok (.bl false))) (.ok (.nx r))) (fun r => (then_ (asg 5 r (o2 modD (cbf intD (acons (call_ 2 m__law_cell (acons (get r 0) (acons (.ok (.int 5)) (.ok [])))) (.ok []))) (.ok (.int 1000)))) (fun r => (then_ (forS (agV 6) (fun r => (ifv (tst (o2 neD (call_ 2 m__law_refused (acons (get r 1) (acons (get r 6) (.ok [])))) (dsp tupD (acons (.ok (.str "Mismatch")) (acons (.ok (.str "size")) (.ok [])))))) (ret (.ok (.bl false))) (.ok (.nx r)))) r (its (dsp lstD (acons (o2 addD (get r 2) (.ok (.int 1))) (acons (o2 subD (get r 2) (.ok (.int 1))) (acons (.ok (.int 0)) (acons (o1 negD (get r 2)) (acons (o2 addD (get r 1) (o2 modD (cbf intD (acons (get r 1) (.ok []))) (.ok (.int 2)))) (acons (o2 addD (o2 addD (get r 1) (o2 modD (cbf intD (acons (get r 1) (.ok []))) (.ok (.int 2)))) (o2 mulD (.ok (.int 2)) (get r 5))) (.ok [])))))))))) (fun r => (then_ (ifv (tor (tst (o2 neD (call_ 2 m__law_refused (acons (get r 2) (acons (get r 2) (.ok [])))) (dsp tupD (acons (.ok (.str "Mismatch")) (acons (.ok (.str "size")) (.ok [])))))) (tst (o2 neD (call_ 2 m__law_refused (acons (o1 negD (get r 5)) (acons (.ok (.int 2)) (.ok [])))) (dsp tupD (acons (.ok (.str "Mismatch")) (acons (.ok (.str "size")) (.ok []))))))) (ret (.ok (.bl false))) (.ok (.nx r))) (fun r => (ret (vand (o2 eqD (call_ 2 m__law_refused (acons (o2 addD (.ok (.int 13)) (o2 modD (cbf intD (acons (get r 5) (.ok []))) (.ok (.int 4)))) (acons (get r 2) (.ok [])))) (dsp tupD (acons (.ok (.str "places")) (acons (.ok (.int 0)) (.ok []))))) (o2 eqD (call_ 2 m__law_refused (acons (.ok (.int 13)) (acons (.ok (.int 12)) (.ok [])))) (dsp tupD (acons (.ok (.str "places")) (acons (.ok (.int 0)) (.ok [])))))))))))))))))))))))))
def m_law : List D → R D := runX 7 b_law
theorem ok_law {f : Addr} {fd : FuncData} (F : Fun K "law" "law" s_law f fd) (k__law_cell : KnX P w K mg base "_law_cell" 1 2 m__law_cell) (k__law_ring : KnX P w K mg base "_law_ring" 8 2 m__law_ring) (k__law_refused : KnX P w K mg base "_law_refused" 8 2 m__law_refused) (b_int : mg "int" = none) : FnOk P w K mg base (L2.CX P w) 9 f fd ["_law_script"] (spOf K (g0 mg) 1 m_law) :=
  fn_mirX (M := []) (M' := []) F sc_law (by decide) fun cdv A outer s H E hr => ⟨_,
(mss_cons (ms_set 1 sc_law.nd (me_op (r := rAddX K) op_addX rs_add me_int (me_op op_mod rs_mod (me_callTy call_int1 cs_int (by rfl) b_int (by decide +kernel) (ma_cons (me_callX k__law_cell hr (px (takes_of rfl rfl rfl rfl)) (by rfl) (ma_cons (me_var 0) (ma_cons me_int ma_nil))) ma_nil)) me_int)))
(mss_cons (ms_if (mt_cmp (r := rEqD K) (op_eqD hr.units) rs_eq (me_op op_mod rs_mod (me_callTy call_int1 cs_int (by rfl) b_int (by decide +kernel) (ma_cons (me_callX k__law_cell hr (px (takes_of rfl rfl rfl rfl)) (by rfl) (ma_cons (me_var 0) (ma_cons me_int ma_nil))) ma_nil)) me_int) me_int)
(mss_one (ms_set 1 sc_law.nd (me_op (r := rAddX K) op_addX rs_add me_int (me_op op_mod rs_mod (me_callTy call_int1 cs_int (by rfl) b_int (by decide +kernel) (ma_cons (me_callX k__law_cell hr (px (takes_of rfl rfl rfl rfl)) (by rfl) (ma_cons (me_var 0) (ma_cons me_int ma_nil))) ma_nil)) me_int))))
mss_nil)
(mss_cons (ms_set 2 sc_law.nd (me_op (r := rAddX K) op_addX rs_add me_int (me_op DL.op_mulX rs_mul me_int (me_op op_mod rs_mod (me_callTy call_int1 cs_int (by rfl) b_int (by decide +kernel) (ma_cons (me_callX k__law_cell hr (px (takes_of rfl rfl rfl rfl)) (by rfl) (ma_cons (me_var 0) (ma_cons me_int ma_nil))) ma_nil)) (me_op op_fdiv rs_fdiv (me_op op_sub rs_sub (me_var 1) me_int) me_int)))))
(mss_cons (ms_set 3 sc_law.nd (me_op (r := rAddX K) op_addX rs_add me_int (me_op op_mod rs_mod (me_callTy call_int1 cs_int (by rfl) b_int (by decide +kernel) (ma_cons (me_callX k__law_cell hr (px (takes_of rfl rfl rfl rfl)) (by rfl) (ma_cons (me_var 0) (ma_cons me_int ma_nil))) ma_nil)) me_int)))
(mss_cons (ms_set 4 sc_law.nd (me_op (r := rAddX K) op_addX rs_add me_int (me_op DL.op_mulX rs_mul me_int (me_op op_mod rs_mod (me_callTy call_int1 cs_int (by rfl) b_int (by decide +kernel) (ma_cons (me_callX k__law_cell hr (px (takes_of rfl rfl rfl rfl)) (by rfl) (ma_cons (me_var 0) (ma_cons me_int ma_nil))) ma_nil)) (me_op op_fdiv rs_fdiv (me_op op_sub rs_sub (me_var 3) me_int) me_int)))))
(mss_cons (ms_if (MW.mt (mw_or (mt_not (mt_val (me_callX k__law_ring hr (px (takes_of rfl rfl rfl rfl)) (by rfl) (ma_cons (me_var 1) (ma_cons (me_var 2) ma_nil))))) (mw_or1 (mt_not (mt_val (me_callX k__law_ring hr (px (takes_of rfl rfl rfl rfl)) (by rfl) (ma_cons (me_var 3) (ma_cons (me_var 4) ma_nil))))))))
(mss_one (ms_ret me_bl))
mss_nil)
(mss_cons (ms_set 5 sc_law.nd (me_op op_mod rs_mod (me_callTy call_int1 cs_int (by rfl) b_int (by decide +kernel) (ma_cons (me_callX k__law_cell hr (px (takes_of rfl rfl rfl rfl)) (by rfl) (ma_cons (me_var 0) (ma_cons me_int ma_nil))) ma_nil)) me_int))
(mss_cons (ms_for (passes_of rfl) rfl (mi_seq K (me_lst (ma_cons (me_op (r := rAddX K) op_addX rs_add (me_var 2) me_int) (ma_cons (me_op op_sub rs_sub (me_var 2) me_int) (ma_cons me_int (ma_cons (me_un un_neg us_neg (me_var 2)) (ma_cons (me_op (r := rAddX K) op_addX rs_add (me_var 1) (me_op op_mod rs_mod (me_callTy call_int1 cs_int (by rfl) b_int (by decide +kernel) (ma_cons (me_var 1) ma_nil)) me_int)) (ma_cons (me_op (r := rAddX K) op_addX rs_add (me_op (r := rAddX K) op_addX rs_add (me_var 1) (me_op op_mod rs_mod (me_callTy call_int1 cs_int (by rfl) b_int (by decide +kernel) (ma_cons (me_var 1) ma_nil)) me_int)) (me_op DL.op_mulX rs_mul me_int (me_var 5))) ma_nil)))))))) (mg_name 6 sc_law.nd) (agin_name (by decide))
(mss_one (ms_if (mt_cmp (r := rNeD K) (op_neD hr.units) rs_ne (me_callX k__law_refused hr (px (takes_of rfl rfl rfl rfl)) (by rfl) (ma_cons (me_var 1) (ma_cons (me_var 6) ma_nil))) (me_tup (ma_cons me_str (ma_cons me_str ma_nil))))
(mss_one (ms_ret me_bl))
mss_nil)))
(mss_cons (ms_if (MW.mt (mw_or (mt_cmp (r := rNeD K) (op_neD hr.units) rs_ne (me_callX k__law_refused hr (px (takes_of rfl rfl rfl rfl)) (by rfl) (ma_cons (me_var 2) (ma_cons (me_var 2) ma_nil))) (me_tup (ma_cons me_str (ma_cons me_str ma_nil)))) (mw_or1 (mt_cmp (r := rNeD K) (op_neD hr.units) rs_ne (me_callX k__law_refused hr (px (takes_of rfl rfl rfl rfl)) (by rfl) (ma_cons (me_un un_neg us_neg (me_var 5)) (ma_cons me_int ma_nil))) (me_tup (ma_cons me_str (ma_cons me_str ma_nil)))))))
(mss_one (ms_ret me_bl))
mss_nil)
(mss_one (ms_ret (me_and (me_cmp (r := rEqD K) (op_eqD hr.units) rs_eq (me_callX k__law_refused hr (px (takes_of rfl rfl rfl rfl)) (by rfl) (ma_cons (me_op (r := rAddX K) op_addX rs_add me_int (me_op op_mod rs_mod (me_callTy call_int1 cs_int (by rfl) b_int (by decide +kernel) (ma_cons (me_var 5) ma_nil)) me_int)) (ma_cons (me_var 2) ma_nil))) (me_tup (ma_cons me_str (ma_cons me_int ma_nil)))) (me_one (me_cmp (r := rEqD K) (op_eqD hr.units) rs_eq (me_callX k__law_refused hr (px (takes_of rfl rfl rfl rfl)) (by rfl) (ma_cons me_int (ma_cons me_int ma_nil))) (me_tup (ma_cons me_str (ma_cons me_int ma_nil)))))))))))))))))⟩
abbrev s_xi_BadBook : Stmt := inC (topS 3) 0
theorem sc_xi_BadBook : FnScope ["self", "fault", "at"] ["self", "fault", "at"] (defScope s_xi_BadBook) := ⟨rfl, rfl, rfl, by decide +kernel, rfl, by decide +kernel, by decide +kernel⟩
abbrev s_xi_Mismatch : Stmt := inC (topS 4) 0
theorem sc_xi_Mismatch : FnScope ["self", "fault"] ["self", "fault"] (defScope s_xi_Mismatch) := ⟨rfl, rfl, rfl, by decide +kernel, rfl, by decide +kernel, by decide +kernel⟩
end
theorem all_mk {l : PySem.W.OpenLaw} {w : World} {K : PySem.W.Frag} {h : Heap} {mg : Str → Option Value} {fa : Addr} (X : K.In h) (G : h.Ns mainGlobals mg) (hfa : mg "law" = some (.ref fa)) (hlaw : ∀ ns : List Int, ns.length ≤ 63 → m_law [.scr ns] = .ok (.bl true))
    {C_Book : Addr} (aC_Book : PySem.W.nsIn K mainGlobals "Book" = some (some (.ref C_Book)))
    {C_Mismatch : Addr} (aC_Mismatch : PySem.W.nsIn K mainGlobals "Mismatch" = some (some (.ref C_Mismatch)))
    {C_NeverAloneError : Addr} (aC_NeverAloneError : PySem.W.nsIn K mainGlobals "NeverAloneError" = some (some (.ref C_NeverAloneError)))
    {C_BadBook : Addr} (aC_BadBook : PySem.W.nsIn K mainGlobals "BadBook" = some (some (.ref C_BadBook)))
    {f0 : Addr} (a0 : PySem.W.nsIn K mainGlobals "_law_cell" = some (some (.ref f0)))
    {od0 an0 : Option Addr} {sl0 : Array (Option Value)} {oc0 kV0 dc0 pm0 cd0 ct0 : Value}
    (l0 : K.lookup f0 = some ⟨oc0, od0, .func (PySem.W.fnOf "_law_cell" "_law_cell" (defArgs s__law_cell) (defBody s__law_cell) (defScope s__law_cell) .none kV0 dc0 pm0 an0 cd0 ct0), sl0⟩)
    (c0 : PySem.W.codeIn K cd0 "_law_cell" = true)
    (k0 : PySem.W.keepIn K (.ref f0) = true)
    {f1 : Addr} (a1 : PySem.W.nsIn K mainGlobals "subsets" = some (some (.ref f1)))
    {od1 an1 : Option Addr} {sl1 : Array (Option Value)} {oc1 kV1 dc1 pm1 cd1 ct1 : Value}
    (l1 : K.lookup f1 = some ⟨oc1, od1, .func (PySem.W.fnOf "subsets" "subsets" (defArgs s_subsets) (defBody s_subsets) (defScope s_subsets) .none kV1 dc1 pm1 an1 cd1 ct1), sl1⟩)
    (c1 : PySem.W.codeIn K cd1 "subsets" = true)
    (k1 : PySem.W.keepIn K (.ref f1) = true)
    {f2 : Addr} (a2 : PySem.W.nsIn K mainGlobals "room_fault" = some (some (.ref f2)))
    {od2 an2 : Option Addr} {sl2 : Array (Option Value)} {oc2 kV2 dc2 pm2 cd2 ct2 : Value}
    (l2 : K.lookup f2 = some ⟨oc2, od2, .func (PySem.W.fnOf "room_fault" "room_fault" (defArgs s_room_fault) (defBody s_room_fault) (defScope s_room_fault) .none kV2 dc2 pm2 an2 cd2 ct2), sl2⟩)
    (c2 : PySem.W.codeIn K cd2 "room_fault" = true)
    (k2 : PySem.W.keepIn K (.ref f2) = true)
    {f3 : Addr} (a3 : PySem.W.nsIn K mainGlobals "book_faults" = some (some (.ref f3)))
    {od3 an3 : Option Addr} {sl3 : Array (Option Value)} {oc3 kV3 dc3 pm3 cd3 ct3 : Value}
    (l3 : K.lookup f3 = some ⟨oc3, od3, .func (PySem.W.fnOf "book_faults" "book_faults" (defArgs s_book_faults) (defBody s_book_faults) (defScope s_book_faults) .none kV3 dc3 pm3 an3 cd3 ct3), sl3⟩)
    (c3 : PySem.W.codeIn K cd3 "book_faults" = true)
    (k3 : PySem.W.keepIn K (.ref f3) = true)
    {f4 : Addr} (a4 : PySem.W.findIn K (.ref C_Book) "__init__" = some (some (.ref f4)))
    (i4 : PySem.W.isFn K (.ref f4) = true)
    {od4 an4 : Option Addr} {sl4 : Array (Option Value)} {oc4 kV4 dc4 pm4 cd4 ct4 : Value}
    (l4 : K.lookup f4 = some ⟨oc4, od4, .func (PySem.W.fnOf "__init__" "Book.__init__" (defArgs s_Book_init) (defBody s_Book_init) (defScope s_Book_init) .none kV4 dc4 pm4 an4 cd4 ct4), sl4⟩)
    (c4 : PySem.W.codeIn K cd4 "Book.__init__" = true)
    (k4 : PySem.W.keepIn K (.ref f4) = true)
    {p5 : Addr} (a5 : PySem.W.findCls K (.ref C_Book) (.type "type") "empty" = some (.get (.builtin "classmethod.__get__") (.ref p5) .none (.ref C_Book)))
    {f5 : Addr} {rs5 : List Value} (r5 : PySem.W.recIn K p5 "classmethod" = some (.ref f5 :: rs5))
    (i5 : PySem.W.fnIn K f5 = true)
    (rd_Book : PySem.W.readsIn K C_Book (.type "type") = true)
    (rg_Book : PySem.W.specialIn K (.ref C_Book) "__getattribute__" = some (some (.builtin "type.__getattribute__")))
    {od5 an5 : Option Addr} {sl5 : Array (Option Value)} {oc5 kV5 dc5 pm5 cd5 ct5 : Value}
    (l5 : K.lookup f5 = some ⟨oc5, od5, .func (PySem.W.fnOf "empty" "Book.empty" (defArgs s_Book_empty) (defBody s_Book_empty) (defScope s_Book_empty) .none kV5 dc5 pm5 an5 cd5 ct5), sl5⟩)
    (c5 : PySem.W.codeIn K cd5 "Book.empty" = true)
    (k5 : PySem.W.keepIn K (.ref f5) = true)
    {f6 : Addr} (a6 : PySem.W.nsIn K mainGlobals "rooms_of_size" = some (some (.ref f6)))
    {od6 an6 : Option Addr} {sl6 : Array (Option Value)} {oc6 kV6 dc6 pm6 cd6 ct6 : Value}
    (l6 : K.lookup f6 = some ⟨oc6, od6, .func (PySem.W.fnOf "rooms_of_size" "rooms_of_size" (defArgs s_rooms_of_size) (defBody s_rooms_of_size) (defScope s_rooms_of_size) .none kV6 dc6 pm6 an6 cd6 ct6), sl6⟩)
    (c6 : PySem.W.codeIn K cd6 "rooms_of_size" = true)
    (k6 : PySem.W.keepIn K (.ref f6) = true)
    {f7 : Addr} (a7 : PySem.W.nsIn K mainGlobals "complement" = some (some (.ref f7)))
    {od7 an7 : Option Addr} {sl7 : Array (Option Value)} {oc7 kV7 dc7 pm7 cd7 ct7 : Value}
    (l7 : K.lookup f7 = some ⟨oc7, od7, .func (PySem.W.fnOf "complement" "complement" (defArgs s_complement) (defBody s_complement) (defScope s_complement) .none kV7 dc7 pm7 an7 cd7 ct7), sl7⟩)
    (c7 : PySem.W.codeIn K cd7 "complement" = true)
    (k7 : PySem.W.keepIn K (.ref f7) = true)
    {f8 : Addr} (a8 : PySem.W.nsIn K mainGlobals "has_even_runs" = some (some (.ref f8)))
    {od8 an8 : Option Addr} {sl8 : Array (Option Value)} {oc8 kV8 dc8 pm8 cd8 ct8 : Value}
    (l8 : K.lookup f8 = some ⟨oc8, od8, .func (PySem.W.fnOf "has_even_runs" "has_even_runs" (defArgs s_has_even_runs) (defBody s_has_even_runs) (defScope s_has_even_runs) .none kV8 dc8 pm8 an8 cd8 ct8), sl8⟩)
    (c8 : PySem.W.codeIn K cd8 "has_even_runs" = true)
    (k8 : PySem.W.keepIn K (.ref f8) = true)
    {f9 : Addr} (a9 : PySem.W.nsIn K mainGlobals "ring_book" = some (some (.ref f9)))
    {od9 an9 : Option Addr} {sl9 : Array (Option Value)} {oc9 kV9 dc9 pm9 cd9 ct9 : Value}
    (l9 : K.lookup f9 = some ⟨oc9, od9, .func (PySem.W.fnOf "ring_book" "ring_book" (defArgs s_ring_book) (defBody s_ring_book) (defScope s_ring_book) .none kV9 dc9 pm9 an9 cd9 ct9), sl9⟩)
    (c9 : PySem.W.codeIn K cd9 "ring_book" = true)
    (k9 : PySem.W.keepIn K (.ref f9) = true)
    {f10 : Addr} (a10 : PySem.W.nsIn K mainGlobals "_law_ways" = some (some (.ref f10)))
    {od10 an10 : Option Addr} {sl10 : Array (Option Value)} {oc10 kV10 dc10 pm10 cd10 ct10 : Value}
    (l10 : K.lookup f10 = some ⟨oc10, od10, .func (PySem.W.fnOf "_law_ways" "_law_ways" (defArgs s__law_ways) (defBody s__law_ways) (defScope s__law_ways) .none kV10 dc10 pm10 an10 cd10 ct10), sl10⟩)
    (c10 : PySem.W.codeIn K cd10 "_law_ways" = true)
    (k10 : PySem.W.keepIn K (.ref f10) = true)
    {f11 : Addr} (a11 : PySem.W.nsIn K mainGlobals "_law_room" = some (some (.ref f11)))
    {od11 an11 : Option Addr} {sl11 : Array (Option Value)} {oc11 kV11 dc11 pm11 cd11 ct11 : Value}
    (l11 : K.lookup f11 = some ⟨oc11, od11, .func (PySem.W.fnOf "_law_room" "_law_room" (defArgs s__law_room) (defBody s__law_room) (defScope s__law_room) .none kV11 dc11 pm11 an11 cd11 ct11), sl11⟩)
    (c11 : PySem.W.codeIn K cd11 "_law_room" = true)
    (k11 : PySem.W.keepIn K (.ref f11) = true)
    {f12 : Addr} (a12 : PySem.W.nsIn K mainGlobals "_law_even_runs" = some (some (.ref f12)))
    {od12 an12 : Option Addr} {sl12 : Array (Option Value)} {oc12 kV12 dc12 pm12 cd12 ct12 : Value}
    (l12 : K.lookup f12 = some ⟨oc12, od12, .func (PySem.W.fnOf "_law_even_runs" "_law_even_runs" (defArgs s__law_even_runs) (defBody s__law_even_runs) (defScope s__law_even_runs) .none kV12 dc12 pm12 an12 cd12 ct12), sl12⟩)
    (c12 : PySem.W.codeIn K cd12 "_law_even_runs" = true)
    (k12 : PySem.W.keepIn K (.ref f12) = true)
    {f13 : Addr} (a13 : PySem.W.nsIn K mainGlobals "_law_two_each" = some (some (.ref f13)))
    {od13 an13 : Option Addr} {sl13 : Array (Option Value)} {oc13 kV13 dc13 pm13 cd13 ct13 : Value}
    (l13 : K.lookup f13 = some ⟨oc13, od13, .func (PySem.W.fnOf "_law_two_each" "_law_two_each" (defArgs s__law_two_each) (defBody s__law_two_each) (defScope s__law_two_each) .none kV13 dc13 pm13 an13 cd13 ct13), sl13⟩)
    (c13 : PySem.W.codeIn K cd13 "_law_two_each" = true)
    (k13 : PySem.W.keepIn K (.ref f13) = true)
    {f14 : Addr} (a14 : PySem.W.nsIn K mainGlobals "faces" = some (some (.ref f14)))
    {od14 an14 : Option Addr} {sl14 : Array (Option Value)} {oc14 kV14 dc14 pm14 cd14 ct14 : Value}
    (l14 : K.lookup f14 = some ⟨oc14, od14, .func (PySem.W.fnOf "faces" "faces" (defArgs s_faces) (defBody s_faces) (defScope s_faces) .none kV14 dc14 pm14 an14 cd14 ct14), sl14⟩)
    (c14 : PySem.W.codeIn K cd14 "faces" = true)
    (k14 : PySem.W.keepIn K (.ref f14) = true)
    {f15 : Addr} (a15 : PySem.W.nsIn K mainGlobals "face_table" = some (some (.ref f15)))
    {od15 an15 : Option Addr} {sl15 : Array (Option Value)} {oc15 kV15 dc15 pm15 cd15 ct15 : Value}
    (l15 : K.lookup f15 = some ⟨oc15, od15, .func (PySem.W.fnOf "face_table" "face_table" (defArgs s_face_table) (defBody s_face_table) (defScope s_face_table) .none kV15 dc15 pm15 an15 cd15 ct15), sl15⟩)
    (c15 : PySem.W.codeIn K cd15 "face_table" = true)
    (k15 : PySem.W.keepIn K (.ref f15) = true)
    {p16 : Addr} (a16 : PySem.W.findIn K (.ref C_Book) "is_two_each" = some (some (.ref p16)))
    (i16 : PySem.W.specialIn K (.ref p16) "__get__" = some (some (.builtin "property.__get__")))
    (j16 : PySem.W.takesIn K (.ref p16) = some true)
    {f16 : Addr} {rs16 : List Value} (r16 : PySem.W.recIn K p16 "property" = some (.ref f16 :: rs16))
    {od16 an16 : Option Addr} {sl16 : Array (Option Value)} {oc16 kV16 dc16 pm16 cd16 ct16 : Value}
    (l16 : K.lookup f16 = some ⟨oc16, od16, .func (PySem.W.fnOf "is_two_each" "Book.is_two_each" (defArgs s_Book_is_two_each) (defBody s_Book_is_two_each) (defScope s_Book_is_two_each) .none kV16 dc16 pm16 an16 cd16 ct16), sl16⟩)
    (c16 : PySem.W.codeIn K cd16 "Book.is_two_each" = true)
    (k16 : PySem.W.keepIn K (.ref f16) = true)
    {f17 : Addr} (a17 : PySem.W.findIn K (.ref C_Book) "odd_faces" = some (some (.ref f17)))
    (i17 : PySem.W.isFn K (.ref f17) = true)
    {od17 an17 : Option Addr} {sl17 : Array (Option Value)} {oc17 kV17 dc17 pm17 cd17 ct17 : Value}
    (l17 : K.lookup f17 = some ⟨oc17, od17, .func (PySem.W.fnOf "odd_faces" "Book.odd_faces" (defArgs s_Book_odd_faces) (defBody s_Book_odd_faces) (defScope s_Book_odd_faces) .none kV17 dc17 pm17 an17 cd17 ct17), sl17⟩)
    (c17 : PySem.W.codeIn K cd17 "Book.odd_faces" = true)
    (k17 : PySem.W.keepIn K (.ref f17) = true)
    {p18 : Addr} (a18 : PySem.W.findIn K (.ref C_Book) "is_even" = some (some (.ref p18)))
    (i18 : PySem.W.specialIn K (.ref p18) "__get__" = some (some (.builtin "property.__get__")))
    (j18 : PySem.W.takesIn K (.ref p18) = some true)
    {f18 : Addr} {rs18 : List Value} (r18 : PySem.W.recIn K p18 "property" = some (.ref f18 :: rs18))
    {od18 an18 : Option Addr} {sl18 : Array (Option Value)} {oc18 kV18 dc18 pm18 cd18 ct18 : Value}
    (l18 : K.lookup f18 = some ⟨oc18, od18, .func (PySem.W.fnOf "is_even" "Book.is_even" (defArgs s_Book_is_even) (defBody s_Book_is_even) (defScope s_Book_is_even) .none kV18 dc18 pm18 an18 cd18 ct18), sl18⟩)
    (c18 : PySem.W.codeIn K cd18 "Book.is_even" = true)
    (k18 : PySem.W.keepIn K (.ref f18) = true)
    {f19 : Addr} (a19 : PySem.W.nsIn K mainGlobals "_law_ring" = some (some (.ref f19)))
    {od19 an19 : Option Addr} {sl19 : Array (Option Value)} {oc19 kV19 dc19 pm19 cd19 ct19 : Value}
    (l19 : K.lookup f19 = some ⟨oc19, od19, .func (PySem.W.fnOf "_law_ring" "_law_ring" (defArgs s__law_ring) (defBody s__law_ring) (defScope s__law_ring) .none kV19 dc19 pm19 an19 cd19 ct19), sl19⟩)
    (c19 : PySem.W.codeIn K cd19 "_law_ring" = true)
    (k19 : PySem.W.keepIn K (.ref f19) = true)
    {f20 : Addr} (a20 : PySem.W.nsIn K mainGlobals "_law_refused" = some (some (.ref f20)))
    {od20 an20 : Option Addr} {sl20 : Array (Option Value)} {oc20 kV20 dc20 pm20 cd20 ct20 : Value}
    (l20 : K.lookup f20 = some ⟨oc20, od20, .func (PySem.W.fnOf "_law_refused" "_law_refused" (defArgs s__law_refused) (defBody s__law_refused) (defScope s__law_refused) .none kV20 dc20 pm20 an20 cd20 ct20), sl20⟩)
    (c20 : PySem.W.codeIn K cd20 "_law_refused" = true)
    (k20 : PySem.W.keepIn K (.ref f20) = true)
    {f21 : Addr} (a21 : PySem.W.nsIn K mainGlobals "law" = some (some (.ref f21)))
    {od21 an21 : Option Addr} {sl21 : Array (Option Value)} {oc21 kV21 dc21 pm21 cd21 ct21 : Value}
    (l21 : K.lookup f21 = some ⟨oc21, od21, .func (PySem.W.fnOf "law" "law" (defArgs s_law) (defBody s_law) (defScope s_law) .none kV21 dc21 pm21 an21 cd21 ct21), sl21⟩)
    (c21 : PySem.W.codeIn K cd21 "law" = true)
    (k21 : PySem.W.keepIn K (.ref f21) = true)
    (pg_Book : PySem.W.plainGet K C_Book Str.empty = true)
    (hd_Book : PySem.W.hasDictIn K C_Book = true)
    (po_Book : PySem.W.plainOver K C_Book = true)
    (sa_Book : PySem.W.findIn K (.ref C_Book) "__setattr__" = some (some (.builtin "object.__setattr__")))
    (mk_Book : PySem.W.makesIn K C_Book = true)
    (kc_Book : PySem.W.keepIn K (.ref C_Book) = true)
    (no_Book_places : PySem.W.findIn K (.ref C_Book) "places" = some none)
    (no_Book_size : PySem.W.findIn K (.ref C_Book) "size" = some none)
    (no_Book_rooms : PySem.W.findIn K (.ref C_Book) "rooms" = some none)
    (no_Book__known : PySem.W.findIn K (.ref C_Book) "_known" = some none)
    {nm_BadBook q_BadBook : Str} {N_BadBook : Addr} {bs_BadBook bm_BadBook : List Value} {sn_BadBook : List Str} {sb_BadBook : List Value} {ab_BadBook : Bool} {co_BadBook : Option Bool} {dd_BadBook : Option Addr} {m0_BadBook m1_BadBook m2_BadBook m3_BadBook m5_BadBook : Option Value}
    (xL_BadBook : K.lookup C_BadBook = some (excClassObj nm_BadBook q_BadBook C_BadBook N_BadBook bs_BadBook bm_BadBook true sn_BadBook sb_BadBook ab_BadBook co_BadBook dd_BadBook m0_BadBook m1_BadBook m2_BadBook m3_BadBook m5_BadBook "ValueError.__new__"))
    (xV_BadBook : PySem.HandSPX.refsVE bm_BadBook = true)
    (eC_BadBook : PySem.W.subIn K (.ref C_BadBook) (.type "BaseException") = some true)
    (tC_BadBook : PySem.W.typeIn K (.ref C_BadBook) = some (.type "type"))
    (sa_BadBook : PySem.W.findIn K (.ref C_BadBook) "__setattr__" = some (some (.builtin "object.__setattr__")))
    (kc_BadBook : PySem.W.keepIn K (.ref C_BadBook) = true)
    (no_BadBook_fault : PySem.W.findIn K (.ref C_BadBook) "fault" = some none)
    (no_BadBook_at : PySem.W.findIn K (.ref C_BadBook) "at" = some none)
    {f_BadBook : Addr} (a_BadBook : PySem.W.findIn K (.ref C_BadBook) "__init__" = some (some (.ref f_BadBook)))
    (t_BadBook : PySem.W.typeIn K (.ref f_BadBook) = some (.type "function"))
    {od_BadBook an_BadBook : Option Addr} {sl_BadBook : Array (Option Value)} {oc_BadBook kV_BadBook dc_BadBook pm_BadBook cd_BadBook ct_BadBook : Value}
    (l_BadBook : K.lookup f_BadBook = some ⟨oc_BadBook, od_BadBook, .func (PySem.W.fnOf "__init__" "BadBook.__init__" (defArgs s_xi_BadBook) (defBody s_xi_BadBook) (defScope s_xi_BadBook) .none kV_BadBook dc_BadBook pm_BadBook an_BadBook cd_BadBook ct_BadBook), sl_BadBook⟩)
    (c_BadBook : PySem.W.codeIn K cd_BadBook "BadBook.__init__" = true)
    (k_BadBook : PySem.W.keepIn K (.ref f_BadBook) = true)
    {nm_Mismatch q_Mismatch : Str} {N_Mismatch : Addr} {bs_Mismatch bm_Mismatch : List Value} {sn_Mismatch : List Str} {sb_Mismatch : List Value} {ab_Mismatch : Bool} {co_Mismatch : Option Bool} {dd_Mismatch : Option Addr} {m0_Mismatch m1_Mismatch m2_Mismatch m3_Mismatch m5_Mismatch : Option Value}
    (xL_Mismatch : K.lookup C_Mismatch = some (excClassObj nm_Mismatch q_Mismatch C_Mismatch N_Mismatch bs_Mismatch bm_Mismatch true sn_Mismatch sb_Mismatch ab_Mismatch co_Mismatch dd_Mismatch m0_Mismatch m1_Mismatch m2_Mismatch m3_Mismatch m5_Mismatch "ValueError.__new__"))
    (xV_Mismatch : PySem.HandSPX.refsVE bm_Mismatch = true)
    (eC_Mismatch : PySem.W.subIn K (.ref C_Mismatch) (.type "BaseException") = some true)
    (tC_Mismatch : PySem.W.typeIn K (.ref C_Mismatch) = some (.type "type"))
    (sa_Mismatch : PySem.W.findIn K (.ref C_Mismatch) "__setattr__" = some (some (.builtin "object.__setattr__")))
    (kc_Mismatch : PySem.W.keepIn K (.ref C_Mismatch) = true)
    (no_Mismatch_fault : PySem.W.findIn K (.ref C_Mismatch) "fault" = some none)
    {f_Mismatch : Addr} (a_Mismatch : PySem.W.findIn K (.ref C_Mismatch) "__init__" = some (some (.ref f_Mismatch)))
    (t_Mismatch : PySem.W.typeIn K (.ref f_Mismatch) = some (.type "function"))
    {od_Mismatch an_Mismatch : Option Addr} {sl_Mismatch : Array (Option Value)} {oc_Mismatch kV_Mismatch dc_Mismatch pm_Mismatch cd_Mismatch ct_Mismatch : Value}
    (l_Mismatch : K.lookup f_Mismatch = some ⟨oc_Mismatch, od_Mismatch, .func (PySem.W.fnOf "__init__" "Mismatch.__init__" (defArgs s_xi_Mismatch) (defBody s_xi_Mismatch) (defScope s_xi_Mismatch) .none kV_Mismatch dc_Mismatch pm_Mismatch an_Mismatch cd_Mismatch ct_Mismatch), sl_Mismatch⟩)
    (c_Mismatch : PySem.W.codeIn K cd_Mismatch "Mismatch.__init__" = true)
    (k_Mismatch : PySem.W.keepIn K (.ref f_Mismatch) = true)
    (ga_Mismatch : PySem.W.findIn K (.ref C_Mismatch) "__getattribute__" = some (some (.builtin "BaseException.__getattribute__")))
    (gg_Mismatch : PySem.W.findIn K (.ref C_Mismatch) "__getattr__" = some none)
    (hC_Mismatch : PySem.W.hasDictIn K C_Mismatch = true)
    (ga_BadBook : PySem.W.findIn K (.ref C_BadBook) "__getattribute__" = some (some (.builtin "BaseException.__getattribute__")))
    (gg_BadBook : PySem.W.findIn K (.ref C_BadBook) "__getattr__" = some none)
    (hC_BadBook : PySem.W.hasDictIn K C_BadBook = true)
    (oC : PySem.W.specialIn K (.builtin "object.__class__") "__get__" = some (some (.builtin "getset_descriptor.__get__")))
    (oT_ : PySem.W.takesIn K (.builtin "object.__class__") = some true)
    (cc_BadBook : PySem.W.findIn K (.ref C_BadBook) "__class__" = some (some (.builtin "object.__class__")))
    (mo_BadBook : PySem.W.mroIn K C_BadBook (.type "object") = some true)
    (ic_BadBook : PySem.W.isClsIn K C_BadBook = true)
    (s_BadBook_BadBook : PySem.W.subIn K (.ref C_BadBook) (.ref C_BadBook) = some true)
    (cc_Mismatch : PySem.W.findIn K (.ref C_Mismatch) "__class__" = some (some (.builtin "object.__class__")))
    (mo_Mismatch : PySem.W.mroIn K C_Mismatch (.type "object") = some true)
    (ic_Mismatch : PySem.W.isClsIn K C_Mismatch = true)
    (s_Mismatch_Mismatch : PySem.W.subIn K (.ref C_Mismatch) (.ref C_Mismatch) = some true)
    (s_Mismatch_BadBook : PySem.W.subIn K (.ref C_Mismatch) (.ref C_BadBook) = some false)
    (eC_NeverAloneError : PySem.W.subIn K (.ref C_NeverAloneError) (.type "BaseException") = some true)
    (tC_NeverAloneError : PySem.W.typeIn K (.ref C_NeverAloneError) = some (.type "type"))
    (ic_NeverAloneError : PySem.W.isClsIn K C_NeverAloneError = true)
    (s_Mismatch_NeverAloneError : PySem.W.subIn K (.ref C_Mismatch) (.ref C_NeverAloneError) = some true)
    (s_BadBook_NeverAloneError : PySem.W.subIn K (.ref C_BadBook) (.ref C_NeverAloneError) = some true)
    (s_BadBook_Mismatch : PySem.W.subIn K (.ref C_BadBook) (.ref C_Mismatch) = some false)
    (eB_ValueError : PySem.W.subIn K (.type "ValueError") (.type "BaseException") = some true)
    (sb_Mismatch_ValueError : PySem.W.subIn K (.ref C_Mismatch) (.type "ValueError") = some true)
    (sb_BadBook_ValueError : PySem.W.subIn K (.ref C_BadBook) (.type "ValueError") = some true)
    (cc_Book : PySem.W.findIn K (.ref C_Book) "__class__" = some (some (.builtin "object.__class__")))
    (mo_Book : PySem.W.mroIn K C_Book (.type "object") = some true)
    (tC_Book : PySem.W.typeIn K (.ref C_Book) = some (.type "type"))
    (s_Book_Book : PySem.W.subIn K (.ref C_Book) (.ref C_Book) = some true)
    (ic_Book : PySem.W.isClsIn K C_Book = true)
    (sb_Book_bool : PySem.W.subIn K (.ref C_Book) (.type "bool") = some false)
    (sb_Book_int : PySem.W.subIn K (.ref C_Book) (.type "int") = some false)
    (sb_Book_tuple : PySem.W.subIn K (.ref C_Book) (.type "tuple") = some false)
    (z_len : PySem.W.nsIn K mainGlobals "len" = some none)
    (z_abs : PySem.W.nsIn K mainGlobals "abs" = some none)
    (z_int : PySem.W.nsIn K mainGlobals "int" = some none)
    (z_range : PySem.W.nsIn K mainGlobals "range" = some none)
    (z_any : PySem.W.nsIn K mainGlobals "any" = some none)
    (z_set : PySem.W.nsIn K mainGlobals "set" = some none)
    (z_sorted : PySem.W.nsIn K mainGlobals "sorted" = some none)
    (z_tuple : PySem.W.nsIn K mainGlobals "tuple" = some none)
    (z_enumerate : PySem.W.nsIn K mainGlobals "enumerate" = some none)
    (z_all : PySem.W.nsIn K mainGlobals "all" = some none)
    (z_isinstance : PySem.W.nsIn K mainGlobals "isinstance" = some none)
    (z_bool : PySem.W.nsIn K mainGlobals "bool" = some none)
    (z_list : PySem.W.nsIn K mainGlobals "list" = some none)
    (z_ValueError : PySem.W.nsIn K mainGlobals "ValueError" = some none)
    {t_MOST_PLACES : Tok} (z_MOST_PLACES : PySem.W.nsIn K mainGlobals "MOST_PLACES" = some (some (.int 12 t_MOST_PLACES)))
    : ∃ fd : FuncData, (∀ (s : Shared) (v : Value), BindsTo s fd ⟨[v], []⟩ [("_law_script", v)]) ∧ ∀ base : Heap, K.In base → base.Ns mainGlobals mg → FnOk l.prog w K mg base (L2.CX l.prog w) 9 fa fd ["_law_script"] (spLaw K) := by
  have e := hfa.symm.trans (PySem.W.mg_of X G a21)
  cases e
  have b_len := PySem.W.mg_none_of X G z_len
  have b_abs := PySem.W.mg_none_of X G z_abs
  have b_int := PySem.W.mg_none_of X G z_int
  have b_range := PySem.W.mg_none_of X G z_range
  have b_any := PySem.W.mg_none_of X G z_any
  have b_set := PySem.W.mg_none_of X G z_set
  have b_sorted := PySem.W.mg_none_of X G z_sorted
  have b_tuple := PySem.W.mg_none_of X G z_tuple
  have b_enumerate := PySem.W.mg_none_of X G z_enumerate
  have b_all := PySem.W.mg_none_of X G z_all
  have b_isinstance := PySem.W.mg_none_of X G z_isinstance
  have b_bool := PySem.W.mg_none_of X G z_bool
  have b_list := PySem.W.mg_none_of X G z_list
  have b_ValueError := PySem.W.mg_none_of X G z_ValueError
  have g_MOST_PLACES := PySem.W.mg_of X G z_MOST_PLACES
  have h_Book := PySem.W.mg_of X G aC_Book
  have h_Mismatch := PySem.W.mg_of X G aC_Mismatch
  have h_NeverAloneError := PySem.W.mg_of X G aC_NeverAloneError
  have h_BadBook := PySem.W.mg_of X G aC_BadBook
  have cls_Book : Cls K C_Book := ⟨pg_Book, hd_Book, po_Book, sa_Book⟩
  have f_places : ClF K (g0 mg) ["Book"] "places" := (ClF.cons h_Book cls_Book no_Book_places ClF.nil)
  have f_size : ClF K (g0 mg) ["Book"] "size" := (ClF.cons h_Book cls_Book no_Book_size ClF.nil)
  have f_rooms : ClF K (g0 mg) ["Book"] "rooms" := (ClF.cons h_Book cls_Book no_Book_rooms ClF.nil)
  have f__known : ClF K (g0 mg) ["Book"] "_known" := (ClF.cons h_Book cls_Book no_Book__known ClF.nil)
  have xc_BadBook : DL.ClX K C_BadBook ["fault", "at"] := ⟨⟨⟨_, _, _, _, _, _, _, _, _, _, _, _, _, _, _, xL_BadBook, xV_BadBook⟩, sa_BadBook, eC_BadBook, tC_BadBook, kc_BadBook⟩, (all_cons no_BadBook_fault (all_cons no_BadBook_at all_nil))⟩
  have xc_Mismatch : DL.ClX K C_Mismatch ["fault"] := ⟨⟨⟨_, _, _, _, _, _, _, _, _, _, _, _, _, _, _, xL_Mismatch, xV_Mismatch⟩, sa_Mismatch, eC_Mismatch, tC_Mismatch, kc_Mismatch⟩, (all_cons no_Mismatch_fault all_nil)⟩
  have xf_fault : XcF K mg ["BadBook", "Mismatch"] "fault" := (XcF.cons h_BadBook ⟨ga_BadBook, gg_BadBook, eC_BadBook, hC_BadBook⟩ no_BadBook_fault (XcF.cons h_Mismatch ⟨ga_Mismatch, gg_Mismatch, eC_Mismatch, hC_Mismatch⟩ no_Mismatch_fault XcF.nil))
  have xf_at : XcF K mg ["BadBook"] "at" := (XcF.cons h_BadBook ⟨ga_BadBook, gg_BadBook, eC_BadBook, hC_BadBook⟩ no_BadBook_at XcF.nil)
  have xo_BadBook : XcOk K C_BadBook := ⟨⟨ga_BadBook, gg_BadBook, eC_BadBook, hC_BadBook, cc_BadBook, oC, oT_, mo_BadBook⟩, tC_BadBook, ic_BadBook, s_BadBook_BadBook⟩
  have xo_Mismatch : XcOk K C_Mismatch := ⟨⟨ga_Mismatch, gg_Mismatch, eC_Mismatch, hC_Mismatch, cc_Mismatch, oC, oT_, mo_Mismatch⟩, tC_Mismatch, ic_Mismatch, s_Mismatch_Mismatch⟩
  have S_x : XSub K mg xT xB := XSub.rows (all_cons ⟨_, _, h_BadBook, h_Mismatch, xo_BadBook, eC_Mismatch, tC_Mismatch, ic_Mismatch, s_BadBook_Mismatch⟩ (all_cons ⟨_, _, h_BadBook, h_NeverAloneError, xo_BadBook, eC_NeverAloneError, tC_NeverAloneError, ic_NeverAloneError, s_BadBook_NeverAloneError⟩ (all_cons ⟨_, _, h_BadBook, h_BadBook, xo_BadBook, eC_BadBook, tC_BadBook, ic_BadBook, s_BadBook_BadBook⟩ (all_cons ⟨_, _, h_Mismatch, h_Mismatch, xo_Mismatch, eC_Mismatch, tC_Mismatch, ic_Mismatch, s_Mismatch_Mismatch⟩ (all_cons ⟨_, _, h_Mismatch, h_NeverAloneError, xo_Mismatch, eC_NeverAloneError, tC_NeverAloneError, ic_NeverAloneError, s_Mismatch_NeverAloneError⟩ (all_cons ⟨_, _, h_Mismatch, h_BadBook, xo_Mismatch, eC_BadBook, tC_BadBook, ic_BadBook, s_Mismatch_BadBook⟩ all_nil)))))) (all_cons ⟨_, h_BadBook, xo_BadBook, by decide +kernel, eB_ValueError, sb_BadBook_ValueError⟩ (all_cons ⟨_, h_Mismatch, xo_Mismatch, by decide +kernel, eB_ValueError, sb_Mismatch_ValueError⟩ all_nil))
  have oo_Book : OcOk K C_Book := ⟨cls_Book, cc_Book, oC, oT_, mo_Book⟩
  have S_o : OSub K mg oT oB (fun _ _ => none) := OSub.rows (all_cons ⟨_, _, h_Book, h_Book, oo_Book, s_Book_Book, tC_Book, ic_Book, s_Book_Book⟩ all_nil) (all_cons ⟨_, h_Book, oo_Book, by decide +kernel, sb_Book_tuple⟩ (all_cons ⟨_, h_Book, oo_Book, by decide +kernel, sb_Book_int⟩ (all_cons ⟨_, h_Book, oo_Book, by decide +kernel, sb_Book_bool⟩ all_nil)))
  have F__law_cell : FnAt K mg "_law_cell" s__law_cell ["_law_script", "_law_k"] := ⟨f0, _, fun_mk l0 c0 k0, PySem.W.mg_of X G a0, (fun_mk (st := s__law_cell) l0 c0 k0).binds (ps := ["_law_script", "_law_k"]) fun _ _ _ _ _ _ us hl => match us, hl with | [_, _], _ => rfl⟩
  have F_subsets : FnAt K mg "subsets" s_subsets ["items", "size"] := ⟨f1, _, fun_mk l1 c1 k1, PySem.W.mg_of X G a1, (fun_mk (st := s_subsets) l1 c1 k1).binds (ps := ["items", "size"]) fun _ _ _ _ _ _ us hl => match us, hl with | [_, _], _ => rfl⟩
  have F_room_fault : FnAt K mg "room_fault" s_room_fault ["places", "size", "room"] := ⟨f2, _, fun_mk l2 c2 k2, PySem.W.mg_of X G a2, (fun_mk (st := s_room_fault) l2 c2 k2).binds (ps := ["places", "size", "room"]) fun _ _ _ _ _ _ us hl => match us, hl with | [_, _, _], _ => rfl⟩
  have F_book_faults : FnAt K mg "book_faults" s_book_faults ["places", "size", "rooms"] := ⟨f3, _, fun_mk l3 c3 k3, PySem.W.mg_of X G a3, (fun_mk (st := s_book_faults) l3 c3 k3).binds (ps := ["places", "size", "rooms"]) fun _ _ _ _ _ _ us hl => match us, hl with | [_, _, _], _ => rfl⟩
  have F_Book_init := fun_mk (st := s_Book_init) l4 c4 k4
  have B_Book_init := (fun_mk (st := s_Book_init) l4 c4 k4).binds (ps := ["self", "places", "size", "rooms"]) fun _ _ _ _ _ _ us hl => match us, hl with | [_, _, _, _], _ => rfl
  have F_Book_empty := fun_mk (st := s_Book_empty) l5 c5 k5
  have B_Book_empty := (fun_mk (st := s_Book_empty) l5 c5 k5).binds (ps := ["cls", "places", "size"]) fun _ _ _ _ _ _ us hl => match us, hl with | [_, _, _], _ => rfl
  have F_rooms_of_size : FnAt K mg "rooms_of_size" s_rooms_of_size ["places", "size"] := ⟨f6, _, fun_mk l6 c6 k6, PySem.W.mg_of X G a6, (fun_mk (st := s_rooms_of_size) l6 c6 k6).binds (ps := ["places", "size"]) fun _ _ _ _ _ _ us hl => match us, hl with | [_, _], _ => rfl⟩
  have F_complement : FnAt K mg "complement" s_complement ["places", "room"] := ⟨f7, _, fun_mk l7 c7 k7, PySem.W.mg_of X G a7, (fun_mk (st := s_complement) l7 c7 k7).binds (ps := ["places", "room"]) fun _ _ _ _ _ _ us hl => match us, hl with | [_, _], _ => rfl⟩
  have F_has_even_runs : FnAt K mg "has_even_runs" s_has_even_runs ["places", "room"] := ⟨f8, _, fun_mk l8 c8 k8, PySem.W.mg_of X G a8, (fun_mk (st := s_has_even_runs) l8 c8 k8).binds (ps := ["places", "room"]) fun _ _ _ _ _ _ us hl => match us, hl with | [_, _], _ => rfl⟩
  have F_ring_book : FnAt K mg "ring_book" s_ring_book ["places", "size"] := ⟨f9, _, fun_mk l9 c9 k9, PySem.W.mg_of X G a9, (fun_mk (st := s_ring_book) l9 c9 k9).binds (ps := ["places", "size"]) fun _ _ _ _ _ _ us hl => match us, hl with | [_, _], _ => rfl⟩
  have F__law_ways : FnAt K mg "_law_ways" s__law_ways ["_law_n", "_law_pairs"] := ⟨f10, _, fun_mk l10 c10 k10, PySem.W.mg_of X G a10, (fun_mk (st := s__law_ways) l10 c10 k10).binds (ps := ["_law_n", "_law_pairs"]) fun _ _ _ _ _ _ us hl => match us, hl with | [_, _], _ => rfl⟩
  have F__law_room : FnAt K mg "_law_room" s__law_room ["_law_room_here", "_law_n", "_law_size"] := ⟨f11, _, fun_mk l11 c11 k11, PySem.W.mg_of X G a11, (fun_mk (st := s__law_room) l11 c11 k11).binds (ps := ["_law_room_here", "_law_n", "_law_size"]) fun _ _ _ _ _ _ us hl => match us, hl with | [_, _, _], _ => rfl⟩
  have F__law_even_runs : FnAt K mg "_law_even_runs" s__law_even_runs ["_law_n", "_law_room_here"] := ⟨f12, _, fun_mk l12 c12 k12, PySem.W.mg_of X G a12, (fun_mk (st := s__law_even_runs) l12 c12 k12).binds (ps := ["_law_n", "_law_room_here"]) fun _ _ _ _ _ _ us hl => match us, hl with | [_, _], _ => rfl⟩
  have F__law_two_each : FnAt K mg "_law_two_each" s__law_two_each ["_law_rooms"] := ⟨f13, _, fun_mk l13 c13 k13, PySem.W.mg_of X G a13, (fun_mk (st := s__law_two_each) l13 c13 k13).binds (ps := ["_law_rooms"]) fun _ _ _ _ _ _ us hl => match us, hl with | [_], _ => rfl⟩
  have F_faces : FnAt K mg "faces" s_faces ["room"] := ⟨f14, _, fun_mk l14 c14 k14, PySem.W.mg_of X G a14, (fun_mk (st := s_faces) l14 c14 k14).binds (ps := ["room"]) fun _ _ _ _ _ _ us hl => match us, hl with | [_], _ => rfl⟩
  have F_face_table : FnAt K mg "face_table" s_face_table ["book"] := ⟨f15, _, fun_mk l15 c15 k15, PySem.W.mg_of X G a15, (fun_mk (st := s_face_table) l15 c15 k15).binds (ps := ["book"]) fun _ _ _ _ _ _ us hl => match us, hl with | [_], _ => rfl⟩
  have F_Book_is_two_each := fun_mk (st := s_Book_is_two_each) l16 c16 k16
  have B_Book_is_two_each := (fun_mk (st := s_Book_is_two_each) l16 c16 k16).binds (ps := ["self"]) fun _ _ _ _ _ _ us hl => match us, hl with | [_], _ => rfl
  have F_Book_odd_faces := fun_mk (st := s_Book_odd_faces) l17 c17 k17
  have B_Book_odd_faces := (fun_mk (st := s_Book_odd_faces) l17 c17 k17).binds (ps := ["self"]) fun _ _ _ _ _ _ us hl => match us, hl with | [_], _ => rfl
  have F_Book_is_even := fun_mk (st := s_Book_is_even) l18 c18 k18
  have B_Book_is_even := (fun_mk (st := s_Book_is_even) l18 c18 k18).binds (ps := ["self"]) fun _ _ _ _ _ _ us hl => match us, hl with | [_], _ => rfl
  have F__law_ring : FnAt K mg "_law_ring" s__law_ring ["_law_n", "_law_size"] := ⟨f19, _, fun_mk l19 c19 k19, PySem.W.mg_of X G a19, (fun_mk (st := s__law_ring) l19 c19 k19).binds (ps := ["_law_n", "_law_size"]) fun _ _ _ _ _ _ us hl => match us, hl with | [_, _], _ => rfl⟩
  have F__law_refused : FnAt K mg "_law_refused" s__law_refused ["_law_n", "_law_size"] := ⟨f20, _, fun_mk l20 c20 k20, PySem.W.mg_of X G a20, (fun_mk (st := s__law_refused) l20 c20 k20).binds (ps := ["_law_n", "_law_size"]) fun _ _ _ _ _ _ us hl => match us, hl with | [_, _], _ => rfl⟩
  refine ⟨PySem.W.fnOf "law" "law" (defArgs s_law) (defBody s_law) (defScope s_law) .none kV21 dc21 pm21 an21 cd21 ct21, fun s v => .of_eq rfl, fun base _ _ => ?_⟩
  have x_BadBook : XcAt l.prog w K mg base "BadBook" C_BadBook ["fault", "at"] := XcAt.mk' (fun_mk (st := s_xi_BadBook) l_BadBook c_BadBook k_BadBook) h_BadBook xc_BadBook a_BadBook t_BadBook ((fun_mk (st := s_xi_BadBook) l_BadBook c_BadBook k_BadBook).binds (ps := ["self", "fault", "at"]) fun _ _ _ _ _ _ us hl => match us, hl with | [_, _, _], _ => rfl) sc_xi_BadBook rfl (by decide) (by decide) fun cdv A outer s H E => pss_cons (ps_ost (pv 0) (pv 1)) (pss_one (ps_ost (pv 0) (pv 2)))
  have x_Mismatch : XcAt l.prog w K mg base "Mismatch" C_Mismatch ["fault"] := XcAt.mk' (fun_mk (st := s_xi_Mismatch) l_Mismatch c_Mismatch k_Mismatch) h_Mismatch xc_Mismatch a_Mismatch t_Mismatch ((fun_mk (st := s_xi_Mismatch) l_Mismatch c_Mismatch k_Mismatch).binds (ps := ["self", "fault"]) fun _ _ _ _ _ _ us hl => match us, hl with | [_, _], _ => rfl) sc_xi_Mismatch rfl (by decide) (by decide) fun cdv A outer s H E => pss_one (ps_ost (pv 0) (pv 1))
  have k__law_cell : KnX l.prog w K mg base "_law_cell" 1 2 m__law_cell := k__law_cell F__law_cell b_len b_abs b_int
  have k_subsets : KnX l.prog w K mg base "subsets" 1 2 m_subsets := k_subsets F_subsets b_len b_range
  have k_room_fault : KnX l.prog w K mg base "room_fault" 1 3 m_room_fault := k_room_fault F_room_fault b_len b_any b_set
  have k_book_faults : KnX l.prog w K mg base "book_faults" 2 3 m_book_faults := k_book_faults F_book_faults k_room_fault b_sorted b_tuple b_enumerate g_MOST_PLACES
  have k_Book_init : CkAt l.prog w K mg base "Book" C_Book 3 3 m_Book_init := k_Book_init F_Book_init B_Book_init h_Book k_book_faults b_len b_sorted b_tuple x_BadBook f_places f_size f_rooms f__known ⟨mk_Book, a4, i4, kc_Book⟩
  have c_Book_empty : CmAt l.prog w K mg base "Book" C_Book "empty" 5 3 m_Book_empty := c_Book_empty F_Book_empty B_Book_empty h_Book k_Book_init ⟨rd_Book, rg_Book⟩ ⟨a5, ⟨_, r5⟩, i5⟩
  have k_rooms_of_size : KnX l.prog w K mg base "rooms_of_size" 6 2 m_rooms_of_size := k_rooms_of_size F_rooms_of_size k_subsets b_range b_tuple c_Book_empty h_Book
  have k_complement : KnX l.prog w K mg base "complement" 1 2 m_complement := k_complement F_complement b_range b_tuple
  have k_has_even_runs : KnX l.prog w K mg base "has_even_runs" 2 2 m_has_even_runs := k_has_even_runs F_has_even_runs k_complement b_range b_len b_all
  have k_ring_book : KnX l.prog w K mg base "ring_book" 7 2 m_ring_book := k_ring_book F_ring_book k_rooms_of_size k_has_even_runs x_Mismatch k_Book_init
  have k__law_ways : KnX l.prog w K mg base "_law_ways" 1 2 m__law_ways := k__law_ways F__law_ways b_range
  have k__law_room : KnX l.prog w K mg base "_law_room" 1 3 m__law_room := k__law_room F__law_room b_tuple b_isinstance b_len b_int b_bool b_range S_o
  have k__law_even_runs : KnX l.prog w K mg base "_law_even_runs" 1 2 m__law_even_runs := k__law_even_runs F__law_even_runs b_range b_int
  have k__law_two_each : KnX l.prog w K mg base "_law_two_each" 1 1 m__law_two_each := k__law_two_each F__law_two_each b_range b_len
  have k_faces : KnX l.prog w K mg base "faces" 1 1 m_faces := k_faces F_faces b_range b_len
  have k_face_table : KnX l.prog w K mg base "face_table" 2 1 m_face_table := k_face_table F_face_table k_faces f_rooms
  have p_Book_is_two_each : PrAt l.prog w K mg base "Book" C_Book "is_two_each" 3 m_Book_is_two_each := p_Book_is_two_each F_Book_is_two_each B_Book_is_two_each h_Book k_face_table b_len b_all cls_Book ⟨a16, i16, j16, _, r16⟩
  have t_Book_odd_faces : MtAt l.prog w K mg base "Book" C_Book "odd_faces" 3 1 m_Book_odd_faces := t_Book_odd_faces F_Book_odd_faces B_Book_odd_faces h_Book k_face_table b_len b_sorted cls_Book ⟨a17, i17, k17⟩
  have p_Book_is_even : PrAt l.prog w K mg base "Book" C_Book "is_even" 4 m_Book_is_even := p_Book_is_even F_Book_is_even B_Book_is_even h_Book b_len t_Book_odd_faces cls_Book ⟨a18, i18, j18, _, r18⟩
  have k__law_ring : KnX l.prog w K mg base "_law_ring" 8 2 m__law_ring := k__law_ring F__law_ring k_ring_book k__law_ways k__law_room k__law_even_runs k__law_two_each b_isinstance b_tuple b_list b_len b_int b_sorted b_range h_Book S_o f_places f_size f_rooms p_Book_is_two_each p_Book_is_even
  have k__law_refused : KnX l.prog w K mg base "_law_refused" 8 2 m__law_refused := k__law_refused F__law_refused k_ring_book b_isinstance b_ValueError S_x h_Mismatch h_NeverAloneError h_BadBook xf_fault xf_at
  exact law_of (ok_law (fun_mk (st := s_law) l21 c21 k21) k__law_cell k__law_ring k__law_refused b_int) hlaw
end Lk13
namespace Lk13
open PySem PySem.Spec L2 DL
set_option maxHeartbeats 4000000
theorem call2 (g : List D → DL.R D) (a b : D) : call_ 2 g (.ok [a, b]) = g [a, b] := rfl
theorem call1 (g : List D → DL.R D) (a : D) : call_ 1 g (.ok [a]) = g [a] := rfl
theorem call3 (g : List D → DL.R D) (a b c : D) : call_ 3 g (.ok [a, b, c]) = g [a, b, c] := rfl
/-! ### faces and their table -/
theorem sl_to (W : List Int) (k : Nat) : o3 sliceD (.ok (rowD W)) (.ok none) (toI (.ok (.int (k : Int)))) = .ok (rowD (W.take k)) := by
  show calm (sliceD (.tup (W.map D.int)) none (some (k : Int))) = _
  rw [sliceD_tup, cutD_to]
  rfl
theorem sl_from (W : List Int) (k : Nat) : o3 sliceD (.ok (rowD W)) (toI (.ok (.int (k : Int)))) (.ok none) = .ok (rowD (W.drop k)) := by
  show calm (sliceD (.tup (W.map D.int)) (some (k : Int)) none) = _
  rw [sliceD_tup, cutD_from]
  rfl
theorem cat_rows {xs ys : List Int} (h : xs.length + ys.length ≤ 100000) : o2 addD (.ok (rowD xs)) (.ok (rowD ys)) = .ok (rowD (xs ++ ys)) := by
  show calm (addD (.tup (xs.map D.int)) (.tup (ys.map D.int))) = _
  rw [addD_tup (by rw [List.length_map, List.length_map]; exact lim_le h), ← List.map_append]
  rfl
theorem face_at (r : List Int) (k : Nat) (h : r.length ≤ 1000) : o2 addD (o3 sliceD (.ok (rowD r)) (.ok none) (toI (.ok (.int (k : Int))))) (o3 sliceD (.ok (rowD r)) (toI (o2 addD (.ok (.int (k : Int))) (.ok (.int 1)))) (.ok none)) = .ok (rowD (r.take k ++ r.drop (k + 1))) := by
  have e2 : o2 addD (.ok (.int (k : Int))) (.ok (.int 1)) = .ok (.int ((k + 1 : Nat) : Int)) := rfl
  rw [e2, sl_to, sl_from, cat_rows (by simp; omega)]
theorem lenD_rowD (r : List Int) : lenD [rowD r] = .ok (.int r.length) := by
  simp -implicitDefEqProofs [rowD]
theorem faces_ok (r : List Int) (h : r.length ≤ 1000) : m_faces [rowD r] = .ok (.lst ((facesP r).map rowD)) := by
  apply runX_rt
  rw [show startE 2 [rowD r] = [some (rowD r), none] from rfl]
  unfold b_faces
  refine rt_of ?_
  unfold facesP
  rw [List.map_map]
  refine lcM_all (fun (k : Nat) => D.int (k : Int)) _ (List.range r.length) ?_ (by rw [List.length_range]; exact lim_le (by omega)) fun k hk => ⟨_, rfl, rfl, ?_⟩
  · simp -implicitDefEqProofs only [get_zero, acons_ok, cbf_ok, lenD_rowD, calm_ok, dsp_ok]
    exact rg1_nat (lim_le (by omega))
  · exact face_at r k h
theorem rooms_of {n s : Int} {Q : List (List Int)} : o1 (fldD ["Book"] "rooms") (.ok (bookI n s Q)) = .ok (.tup (Q.map rowD)) := rfl
theorem face_table_ok (n s : Int) (Q : List (List Int)) (hl : Q.length ≤ 1000) (hr : ∀ r ∈ Q, r.length ≤ 20) : m_face_table [bookI n s Q] = .ok (tabD (tabF (facePairs Q))) := by
  apply runX_rt
  rw [show startE 4 [bookI n s Q] = [some (bookI n s Q), none, none, none] from rfl]
  unfold b_face_table
  rw [then_nx]
  simp -implicitDefEqProofs only [List.set_cons_succ, List.set_cons_zero]
  have hlen : ∀ i, i ≤ Q.length → (facePairs (Q.take i)).length ≤ 20000 := fun i hi => by
    have := facePairs_len 20 (Q.take i) fun r h => hr r (List.mem_of_mem_take h)
    rw [List.length_take] at this
    omega
  refine th_fors rowD Q (fun i ρ => ∃ a b, ρ = [some (bookI n s Q), some (tabD (tabF (facePairs (Q.take i)))), a, b]) ?_ ⟨_, _, rfl⟩ ?_ ?_
  · rfl
  · rintro i r ρ hx ⟨a, b, rfl⟩
    obtain ⟨hi, rfl⟩ := List.getElem?_eq_some_iff.mp hx
    have hq := hr _ (List.getElem_mem hi)
    have hlr := hlen i (by omega)
    have hf := faces_ok Q[i] (by omega)
    have hinner := fors_inv (ag := agV 3) (mb := fun r => sdS [1, 1] 1 r (get (wipeE r [1, 1]) 3) (get (wipeE r [1, 1]) 2)) (ρ := [some (bookI n s Q), some (tabD (tabF (facePairs (Q.take i)))), some (rowD Q[i]), b]) (r := its (.ok (.lst ((facesP Q[i]).map rowD)))) rowD (facesP Q[i])
      (fun j ρ => ∃ b, ρ = [some (bookI n s Q), some (tabD (tabF (facePairs (Q.take i) ++ ((facesP Q[i]).take j).map fun f => (f, Q[i])))), some (rowD Q[i]), b]) rfl ⟨b, by simp⟩ ?_
    · obtain ⟨ρ', h1, b', rfl⟩ := hinner
      refine ⟨[(2, rowD Q[i])], [some (bookI n s Q), some (tabD (tabF (facePairs (Q.take (i + 1))))), some (rowD Q[i]), b'], rfl, .inl ?_, _, _, rfl⟩
      have e1 : call_ 1 m_faces (acons (get (wipeE [some (bookI n s Q), some (tabD (tabF (facePairs (Q.take i)))), some (rowD Q[i]), b] [1, 1]) 2) (.ok [])) = .ok (.lst ((facesP Q[i]).map rowD)) := by
        simp -implicitDefEqProofs only [List.set_cons_succ, List.set_cons_zero, wipeE_cons, wipeE_nil, get_succ, get_zero, acons_ok, call1, hf]
      simp -implicitDefEqProofs only [setE_cons, setE_nil, List.set_cons_succ, List.set_cons_zero]
      rw [e1, h1, List.take_length, List.take_succ_eq_append_getElem hi, facePairs_snoc]
    · rintro j f ρ hx ⟨b, rfl⟩
      obtain ⟨hj, rfl⟩ := List.getElem?_eq_some_iff.mp hx
      have hj2 : j < Q[i].length := by rw [facesP_len] at hj; exact hj
      have hb : (facePairs (Q.take i) ++ ((facesP Q[i]).take j).map fun f => (f, Q[i])).length ≤ 30000 := by
        rw [List.length_append, List.length_map, List.length_take]
        omega
      obtain ⟨t1, t2⟩ := tabF_len (facePairs (Q.take i) ++ ((facesP Q[i]).take j).map fun f => (f, Q[i]))
      refine ⟨[(3, rowD (facesP Q[i])[j])], [some (bookI n s Q), some (tabD (tabF (facePairs (Q.take i) ++ ((facesP Q[i]).take (j + 1)).map fun f => (f, Q[i])))), some (rowD Q[i]), some (rowD (facesP Q[i])[j])], rfl, .inl ?_, _, rfl⟩
      simp -implicitDefEqProofs only [setE_cons, setE_nil, List.set_cons_succ, List.set_cons_zero, wipeE_cons, wipeE_nil, get_succ, get_zero]
      rw [sdS_tab (f := (facesP Q[i])[j]) (r := Q[i]) rfl rfl rfl (lim_lt' (by omega)) (fun p hp => lim_lt' (Nat.le_trans (t2 p hp) (by omega)))]
      rw [List.take_succ_eq_append_getElem hj, List.map_append, ← List.append_assoc, List.map_cons, List.map_nil, tabF_snoc]
      rfl
  · rintro ρ ⟨a, b, rfl⟩
    rw [List.take_length]
    rfl
/-- all faces twice -/
def twiceT (Q : List (List Int)) : Bool := (tabF (facePairs Q)).all fun p => p.2.length == 2
theorem twice_at {Q : List (List Int)} (h : twiceT Q = true) : ∀ p ∈ tabF (facePairs Q), p.2.length = 2 := fun p hp => by
  have := List.all_eq_true.mp h p hp
  simpa using this
theorem tab_small {Q : List (List Int)} (hl : Q.length ≤ 1000) (hr : ∀ r ∈ Q, r.length ≤ 20) : (tabF (facePairs Q)).length ≤ 20000 := by
  have h1 := (tabF_len (facePairs Q)).1
  have h2 := facePairs_len 20 Q hr
  omega
theorem two_ok {n s : Int} {Q : List (List Int)} (hl : Q.length ≤ 1000) (hr : ∀ r ∈ Q, r.length ≤ 20) (h : twiceT Q = true) : m_Book_is_two_each [bookI n s Q] = .ok (.bl true) := by
  have ht := face_table_ok n s Q hl hr
  have hn := tabF_keys (facePairs Q)
  have hz := tab_small hl hr
  have h2 := twice_at h
  generalize tabF (facePairs Q) = T at ht hn hz h2
  apply runX_rt
  rw [show startE 3 [bookI n s Q] = [some (bookI n s Q), none, none] from rfl]
  unfold b_Book_is_two_each
  refine th_asg (d := tabD T) (by simp -implicitDefEqProofs only [get_zero, acons_ok, call1, ht]) ?_
  refine rt_of ?_
  have hc : lcK 1 [2] (agV 2) (fun _ => .ok true) (fun r => (o2 eqD (cbf lenD (acons (o2 ixA (get r 1) (get r 2)) (.ok []))) (.ok (.int 2)))) [some (bookI n s Q), some (tabD T), none] = .ok (.lst ((T.filter fun _ => true).map fun _ => .bl true)) := by
    refine lcK_map (fun p => rowD p.1) (fun _ => true) (fun _ => .bl true) T rfl (keysI_tab T) (lim_le (by omega)) fun p hp => ⟨_, rfl, rfl, fun _ => ?_⟩
    have e := at_tab hn hp
    simp -implicitDefEqProofs only [wipeE_cons, wipeE_nil, setE_cons, setE_nil, List.set_cons_succ, List.set_cons_zero, get_succ, get_zero, o2_ok, e, calm_ok, acons_ok, cbf_ok, lenD_lst, List.length_map, h2 p hp]
    rfl
  simp -implicitDefEqProofs only [List.set_cons_succ, List.set_cons_zero, hc, acons_ok, cbf_ok]
  have ha := anyD_ (T.map fun _ => true)
  have ha : allD [.lst ((T.filter fun _ => true).map fun _ => D.bl true)] = .ok (.bl true) := by
    have h := allD_ ((T.filter fun _ => true).map fun _ => true)
    rw [List.map_map] at h
    rw [show ((T.filter fun _ => true).map fun _ => D.bl true) = (T.filter fun _ => true).map (D.bl ∘ fun _ => true) from rfl, h]
    simp
  rw [ha]
  rfl
theorem odd_ok {n s : Int} {Q : List (List Int)} (hl : Q.length ≤ 1000) (hr : ∀ r ∈ Q, r.length ≤ 20) (h : twiceT Q = true) : m_Book_odd_faces [bookI n s Q] = .ok (.lst []) := by
  have ht := face_table_ok n s Q hl hr
  have hn := tabF_keys (facePairs Q)
  have hz := tab_small hl hr
  have h2 := twice_at h
  generalize tabF (facePairs Q) = T at ht hn hz h2
  apply runX_rt
  rw [show startE 3 [bookI n s Q] = [some (bookI n s Q), none, none] from rfl]
  unfold b_Book_odd_faces
  refine th_asg (d := tabD T) (by simp -implicitDefEqProofs only [get_zero, acons_ok, call1, ht]) ?_
  refine rt_of ?_
  have hc : lcK 1 [2] (agV 2) (fun r => (tru (o2 andD (cbf lenD (acons (o2 ixA (get r 1) (get r 2)) (.ok []))) (.ok (.int 1))))) (fun r => (get r 2)) [some (bookI n s Q), some (tabD T), none] = .ok (.lst ((T.filter fun _ => false).map fun p => rowD p.1)) := by
    refine lcK_map (ag := agV 2) (fun p : List Int × List (List Int) => rowD p.1) (fun _ => false) (fun p : List Int × List (List Int) => rowD p.1) T rfl (keysI_tab T) (lim_le (by omega)) fun p hp => ⟨[(2, rowD p.1)], rfl, ?_, fun e => (by cases e)⟩
    have e := at_tab hn hp
    simp -implicitDefEqProofs only [wipeE_cons, wipeE_nil, setE_cons, setE_nil, List.set_cons_succ, List.set_cons_zero, get_succ, get_zero, o2_ok, e, calm_ok, acons_ok, cbf_ok, lenD_lst, List.length_map, h2 p hp]
    rfl
  simp -implicitDefEqProofs only [List.set_cons_succ, List.set_cons_zero, hc, acons_ok, cbf_ok]
  rw [List.filter_eq_nil_iff.mpr (by simp)]
  rfl
theorem each_ok {Q : List (List Int)} (hl : Q.length ≤ 1000) (hr : ∀ r ∈ Q, r.length ≤ 20) (h : twiceT Q = true) : m__law_two_each [.lst (Q.map rowD)] = .ok (.bl true) := by
  apply runX_rt
  rw [show startE 5 [D.lst (Q.map rowD)] = [some (.lst (Q.map rowD)), none, none, none, none] from rfl]
  unfold b__law_two_each
  rw [then_nx]
  simp -implicitDefEqProofs only [List.set_cons_succ, List.set_cons_zero]
  have hlen : ∀ i, i ≤ Q.length → (facePairs (Q.take i)).length ≤ 20000 := fun i hi => by
    have := facePairs_len 20 (Q.take i) fun r h => hr r (List.mem_of_mem_take h)
    rw [List.length_take] at this
    omega
  refine th_fors rowD Q (fun i ρ => ∃ a b c, ρ = [some (.lst (Q.map rowD)), some (cntD (sizes (tabF (facePairs (Q.take i))))), a, b, c]) ?_ ⟨_, _, _, rfl⟩ ?_ ?_
  · rfl
  · rintro i r ρ hx ⟨a, b, c, rfl⟩
    obtain ⟨hi, rfl⟩ := List.getElem?_eq_some_iff.mp hx
    have hq := hr _ (List.getElem_mem hi)
    have hlr := hlen i (by omega)
    have hinner := for_inv (rg := rg1) (ag := agV 3) (mb := fun r => (then_ (asg 4 r (o2 addD (o3 sliceD (get (wipeE r [1]) 2) (.ok none) (toI (get (wipeE r [1]) 3))) (o3 sliceD (get (wipeE r [1]) 2) (toI (o2 addD (get (wipeE r [1]) 3) (.ok (.int 1)))) (.ok none)))) (fun r => (dputS [1] 1 r (o2 addD (og2 dgetE (get r 1) (get r 4) (.ok (.int 0))) (.ok (.int 1))) (get r 4)))))
      (ρ := [some (.lst (Q.map rowD)), some (cntD (sizes (tabF (facePairs (Q.take i))))), some (rowD Q[i]), b, c]) (r := .ok [.int Q[i].length]) (ds := [.int Q[i].length]) (fun (k : Nat) => D.int (k : Int)) (List.range Q[i].length)
      (fun j ρ => ∃ b c, ρ = [some (.lst (Q.map rowD)), some (cntD (sizes (tabF (facePairs (Q.take i) ++ ((facesP Q[i]).take j).map fun f => (f, Q[i]))))), some (rowD Q[i]), b, c]) rfl (rg1_nat (lim_le (by omega))) ⟨b, c, by simp⟩ ?_
    · obtain ⟨ρ', h1, b', c', rfl⟩ := hinner
      refine ⟨[(2, rowD Q[i])], [some (.lst (Q.map rowD)), some (cntD (sizes (tabF (facePairs (Q.take (i + 1)))))), some (rowD Q[i]), b', c'], rfl, .inl ?_, _, _, _, rfl⟩
      simp -implicitDefEqProofs only [setE_cons, setE_nil, List.set_cons_succ, List.set_cons_zero, get_succ, get_zero, acons_ok, cbf_ok, lenD_rowD, calm_ok]
      rw [h1, List.length_range, ← facesP_len, List.take_length, List.take_succ_eq_append_getElem hi, facePairs_snoc]
    · rintro j x ρ hx ⟨b, c, rfl⟩
      obtain ⟨hj, hx⟩ := List.getElem?_eq_some_iff.mp hx
      simp only [List.getElem_range] at hx
      subst hx
      have hj2 : j < Q[i].length := by simpa using hj
      have hj3 : j < (facesP Q[i]).length := by rw [facesP_len]; exact hj2
      have hb : (facePairs (Q.take i) ++ ((facesP Q[i]).take j).map fun f => (f, Q[i])).length ≤ 30000 := by
        rw [List.length_append, List.length_map, List.length_take]
        omega
      obtain ⟨t1, t2⟩ := tabF_len (facePairs (Q.take i) ++ ((facesP Q[i]).take j).map fun f => (f, Q[i]))
      have t3 := tabF_keys (facePairs (Q.take i) ++ ((facesP Q[i]).take j).map fun f => (f, Q[i]))
      have hf : (facesP Q[i])[j] = Q[i].take j ++ Q[i].drop (j + 1) := by simp [facesP]
      have hface := face_at Q[i] j (by omega)
      refine ⟨[(3, .int (j : Int))], [some (.lst (Q.map rowD)), some (cntD (sizes (tabF (facePairs (Q.take i) ++ ((facesP Q[i]).take (j + 1)).map fun f => (f, Q[i]))))), some (rowD Q[i]), some (.int (j : Int)), some (rowD (facesP Q[i])[j])], rfl, .inl ?_, _, _, rfl⟩
      simp -implicitDefEqProofs only [setE_cons, setE_nil, List.set_cons_succ, List.set_cons_zero]
      refine th_asg (d := rowD (facesP Q[i])[j]) ?_ ?_
      · rw [hf]
        simp -implicitDefEqProofs only [wipeE_cons, wipeE_nil, List.set_cons_succ, List.set_cons_zero, get_succ, get_zero]
        exact hface
      simp -implicitDefEqProofs only [List.set_cons_succ, List.set_cons_zero, get_succ, get_zero, get_cnt, o2_ok, addD_int, calm_ok]
      refine (dput_cnt (f := (facesP Q[i])[j]) (C := sizes (tabF (facePairs (Q.take i) ++ ((facesP Q[i]).take j).map fun f => (f, Q[i])))) rfl rfl rfl ?_ ?_ ?_).trans ?_
      · rfl
      · unfold sizes
        rw [List.length_map]
        exact lim_lt' (by omega)
      · rw [sizes_keys]
        exact t3
      · rw [addC_sizes (r := Q[i]), List.take_succ_eq_append_getElem hj3, List.map_append, ← List.append_assoc, List.map_cons, List.map_nil, tabF_snoc]
        rfl
  · rintro ρ ⟨a, b, c, rfl⟩
    rw [List.take_length]
    have hn := tabF_keys (facePairs Q)
    have hz := tab_small hl hr
    have h2 := twice_at h
    generalize tabF (facePairs Q) = T at hn hz h2
    refine rt_of ?_
    have hc : lcK 1 [4] (agV 4) (fun r => (tst (o2 neD (o2 ixA (get r 1) (get r 4)) (.ok (.int 2))))) (fun r => (get r 4)) [some (.lst (Q.map rowD)), some (cntD (sizes T)), a, b, c] = .ok (.lst (((sizes T).filter fun _ => false).map fun p => rowD p.1)) := by
      refine lcK_map (ag := agV 4) (fun p : List Int × Int => rowD p.1) (fun _ => false) (fun p : List Int × Int => rowD p.1) (sizes T) rfl (keysI_cnt _) (by unfold sizes; rw [List.length_map]; exact lim_le (by omega)) fun p hp => ⟨[(4, rowD p.1)], rfl, ?_, fun e => (by cases e)⟩
      have e := at_cnt (by rw [sizes_keys]; exact hn) hp
      have hp2 : p.2 = 2 := by
        unfold sizes at hp
        obtain ⟨q, hq, rfl⟩ := List.mem_map.mp hp
        have := h2 q hq
        show ((q.2.length : Nat) : Int) = 2
        omega
      simp -implicitDefEqProofs only [wipeE_cons, wipeE_nil, setE_cons, setE_nil, List.set_cons_succ, List.set_cons_zero, get_succ, get_zero, o2_ok, e, calm_ok, neD_int, tst_ok, hp2]
      rfl
    rw [hc, List.filter_eq_nil_iff.mpr (by simp)]
    rfl
end Lk13
namespace Lk13
open PySem PySem.Spec L2 DL
set_option maxHeartbeats 4000000
/-! ### rings -/
theorem ninG_row (x : Int) (r : List Int) : ninG (.int x) (rowD r) = .ok (.bl (!decide (x ∈ r))) := by
  have hf : flatIn (.int x) (rowD r) = true := by simp [flatIn, rowD, D.flat]
  unfold ninG
  rw [hf, if_pos rfl]
  exact notInD_tup x r
def outI (n : Nat) (r : List Int) : List Int := ((List.range n).filter fun (i : Nat) => !decide ((i : Int) ∈ r)).map fun (i : Nat) => (i : Int)
theorem complement_ok (n : Nat) (r : List Int) (hn : n ≤ 1000) : m_complement [.int (n : Int), rowD r] = .ok (rowD (outI n r)) := by
  apply runX_rt
  rw [show startE 3 [.int (n : Int), rowD r] = [some (.int (n : Int)), some (rowD r), none] from rfl]
  unfold b_complement
  refine rt_of ?_
  have hc : lcM [2] (fun r => (dsp rg1 (acons (get r 0) (.ok [])))) (agV 2) (fun r => (tst (o2 ninG (get r 2) (get r 1)))) (fun r => (get r 2)) [some (.int (n : Int)), some (rowD r), none] = .ok (.lst (((List.range n).filter fun (i : Nat) => !decide ((i : Int) ∈ r)).map fun (i : Nat) => .int (i : Int))) := by
    refine lcM_map (fun (i : Nat) => D.int (i : Int)) _ (fun (i : Nat) => .int (i : Int)) (List.range n) ?_ (by rw [List.length_range]; exact lim_le (by omega)) fun i hi => ⟨[(2, .int (i : Int))], rfl, ?_, fun _ => rfl⟩
    · simp -implicitDefEqProofs only [get_zero, acons_ok, dsp_ok]
      exact rg1_nat (lim_le (by omega))
    · simp -implicitDefEqProofs only [wipeE_cons, wipeE_nil, setE_cons, setE_nil, List.set_cons_succ, List.set_cons_zero, get_succ, get_zero, o2_ok, ninG_row, calm_ok, tst_ok]
  rw [hc]
  show R.ok (D.tup (((List.range n).filter fun (i : Nat) => !decide ((i : Int) ∈ r)).map fun (i : Nat) => D.int (i : Int))) = _
  unfold outI rowD
  rw [List.map_map]
  rfl
def stopsI (n : Nat) (r : List Int) : List Int := outI n r ++ [(outI n r).getD 0 0 + n]
def evenI (n : Nat) (r : List Int) : Bool := (List.range (outI n r).length).all fun k => Builtin.bitAnd ((stopsI n r).getD (k + 1) 0 - (stopsI n r).getD k 0) 1 != 0
theorem trsOf_ints : ∀ zs : List Int, trsOf (zs.map D.int) = some (zs.map fun z => z != 0)
  | [] => rfl
  | z :: zs => by
    show (trsOf (zs.map D.int)).map ((z != 0) :: ·) = _
    rw [trsOf_ints zs]
    rfl
theorem row_at {W : List Int} {k : Nat} (h : k < W.length) : ixA (rowD W) (.int (k : Int)) = .ok (.int (W.getD k 0)) := by
  refine ixD_tup D.int W k ?_
  rw [List.getD_eq_getElem?_getD, List.getElem?_eq_getElem h]
  rfl
theorem runs_ok (n : Nat) (r : List Int) (hn : n ≤ 1000) (h : 0 < (outI n r).length) : m_has_even_runs [.int (n : Int), rowD r] = .ok (.bl (evenI n r)) := by
  have hc := complement_ok n r hn
  have hl : (outI n r).length ≤ 1000 := by
    unfold outI
    rw [List.length_map]
    exact Nat.le_trans (List.length_filter_le _ _) (by rw [List.length_range]; exact hn)
  unfold evenI stopsI
  generalize outI n r = W at hc h hl
  apply runX_rt
  rw [show startE 5 [.int (n : Int), rowD r] = [some (.int (n : Int)), some (rowD r), none, none, none] from rfl]
  unfold b_has_even_runs
  refine th_asg (d := rowD W) (by simp -implicitDefEqProofs only [get_succ, get_zero, acons_ok, call2, hc]) ?_
  simp -implicitDefEqProofs only [List.set_cons_succ, List.set_cons_zero]
  have h0 : ixA (rowD W) (.int 0) = .ok (.int (W.getD 0 0)) := row_at (k := 0) h
  refine th_asg (d := rowD (W ++ [W.getD 0 0 + n])) ?_ ?_
  · simp -implicitDefEqProofs only [get_succ, get_zero, o2_ok, h0, calm_ok, addD_int, acons_ok, dsp_ok, tupD_1]
    show calm (addD (.tup (W.map D.int)) (.tup ([W.getD 0 0 + (n : Int)].map D.int))) = _
    rw [addD_tup (by rw [List.length_map]; exact lim_le (by simp; omega)), ← List.map_append]
    rfl
  simp -implicitDefEqProofs only [List.set_cons_succ, List.set_cons_zero]
  refine rt_of ?_
  have hs : ∀ k, k < W.length + 1 → ixA (rowD (W ++ [W.getD 0 0 + n])) (.int (k : Int)) = .ok (.int ((W ++ [W.getD 0 0 + n]).getD k 0)) := fun k hk => row_at (by simp; omega)
  have hc2 : lcM [4] (fun r => (dsp rg1 (acons (cbf lenD (acons (get r 2) (.ok []))) (.ok [])))) (agV 4) (fun _ => .ok true) (fun r => (o2 andD (o2 subD (o2 ixA (get r 3) (o2 addD (get r 4) (.ok (.int 1)))) (o2 ixA (get r 3) (get r 4))) (.ok (.int 1)))) [some (.int (n : Int)), some (rowD r), some (rowD W), some (rowD (W ++ [W.getD 0 0 + n])), none] = .ok (.lst (((List.range W.length).map fun k => Builtin.bitAnd ((W ++ [W.getD 0 0 + n]).getD (k + 1) 0 - (W ++ [W.getD 0 0 + n]).getD k 0) 1).map D.int)) := by
    rw [List.map_map]
    refine lcM_all (fun (i : Nat) => D.int (i : Int)) _ (List.range W.length) ?_ (by rw [List.length_range]; exact lim_le (by omega)) fun i hi => ⟨[(4, .int (i : Int))], rfl, rfl, ?_⟩
    · simp -implicitDefEqProofs only [get_succ, get_zero, acons_ok, cbf_ok, lenD_rowD, calm_ok, dsp_ok]
      exact rg1_nat (lim_le (by omega))
    · have hi := List.mem_range.mp hi
      have e1 := hs (i + 1) (by omega)
      have e2 := hs i (by omega)
      have e1 : ixA (rowD (W ++ [W.getD 0 0 + n])) (.int ((i : Int) + 1)) = .ok (.int ((W ++ [W.getD 0 0 + n]).getD (i + 1) 0)) := e1
      simp -implicitDefEqProofs only [wipeE_cons, wipeE_nil, setE_cons, setE_nil, List.set_cons_succ, List.set_cons_zero, get_succ, get_zero, o2_ok, addD_int, calm_ok, e1, e2, subD_int]
      rfl
  rw [hc2]
  show calm (match trsOf (((List.range W.length).map fun k => Builtin.bitAnd ((W ++ [W.getD 0 0 + n]).getD (k + 1) 0 - (W ++ [W.getD 0 0 + n]).getD k 0) 1).map D.int) with
    | some bs => DL.R.ok (D.bl (bs.all id))
    | none => .stuck) = _
  rw [trsOf_ints]
  show DL.R.ok (D.bl _) = _
  refine congrArg (fun b => DL.R.ok (D.bl b)) ?_
  rw [List.map_map, List.all_map]
  rfl
/-! ### what a def gives, held against what is written down -/
mutual
def beqD : D → D → Bool
  | .non, .non => true
  | .bl a, .bl b => decide (a = b)
  | .int a, .int b => decide (a = b)
  | .lst a, .lst b => beqDs a b
  | .tup a, .tup b => beqDs a b
  | .dt k a, .dt k' b => decide (k = k') && beqDs a b
  | .obj n k a, .obj n' k' b => decide (n = n') && decide (k = k') && beqDs a b
  | _, _ => false
def beqDs : List D → List D → Bool
  | [], [] => true
  | a :: as, b :: bs => beqD a b && beqDs as bs
  | _, _ => false
end
mutual
theorem beqD_of : ∀ {a b : D}, beqD a b = true → a = b := fun {a b} h => by
  cases a <;> cases b <;> simp only [beqD, Bool.and_eq_true, decide_eq_true_eq, Bool.false_eq_true] at h
  · rfl
  · rw [h]
  · rw [h]
  · rw [beqDs_of h]
  · rw [beqDs_of h]
  · obtain ⟨⟨h1, h2⟩, h3⟩ := h
    rw [h1, h2, beqDs_of h3]
  · obtain ⟨h1, h2⟩ := h
    rw [h1, beqDs_of h2]
theorem beqDs_of : ∀ {a b : List D}, beqDs a b = true → a = b := fun {a b} h => by
  cases a <;> cases b <;> simp only [beqDs, Bool.and_eq_true, Bool.false_eq_true] at h
  · rfl
  · obtain ⟨h1, h2⟩ := h
    rw [beqD_of h1, beqDs_of h2]
end
def okD : R D → D → Bool
  | .ok a, b => beqD a b
  | _, _ => false
theorem okD_of {r : R D} {d : D} (h : okD r d = true) : r = .ok d := by
  cases r with
  | ok a => exact congrArg R.ok (beqD_of h)
  | err => cases h
  | stuck => cases h
def isF : R Bool → Bool
  | .ok false => true
  | _ => false
theorem isF_of {r : R Bool} (h : isF r = true) : r = .ok false := by
  unfold isF at h
  split at h
  · rfl
  · cases h
def isN : R Fl → Bool
  | .ok (.nx _) => true
  | _ => false
theorem isN_of {r : R Fl} (h : isN r = true) : ∃ ρ, r = .ok (.nx ρ) := by
  unfold isN at h
  split at h
  · exact ⟨_, rfl⟩
  · cases h
def combI : Nat → List Int → List (List Int)
  | 0, _ => [[]]
  | _ + 1, [] => []
  | k + 1, x :: xs => (combI k xs).map (x :: ·) ++ combI (k + 1) xs
def placesI (n : Nat) : List Int := (List.range n).map fun (i : Nat) => (i : Int)
theorem ring_book_of {n : Nat} {s : Int} {C R : List (List Int)} (hn : n ≤ 1000)
    (h0 : isF (tor (tst (o2 eqD (o2 modD (.ok (.int s)) (.ok (.int 2))) (.ok (.int 1)))) (tnot (tst (ch2 leD ltD (.ok (.int 2)) (.ok (.int s)) (.ok (.int (n : Int))))))) = true)
    (h1 : m_rooms_of_size [.int (n : Int), .int s] = .ok (.lst (C.map rowD))) (hl : C.length ≤ LIM)
    (h2 : (C.all fun r => decide (0 < (outI n r).length)) = true) (h3 : C.filter (evenI n) = R)
    (h4 : m_Book_init [.int (n : Int), .int s, .lst (R.map rowD)] = .ok (bookI n s R)) : m_ring_book [.int (n : Int), .int s] = .ok (bookI n s R) := by
  apply runX_rt
  rw [show startE 4 [.int (n : Int), .int s] = [some (.int (n : Int)), some (.int s), none, none] from rfl]
  unfold b_ring_book
  refine th_skip (isF_of h0) ?_
  refine th_asg (d := .lst (C.map rowD)) h1 ?_
  refine rt_of ?_
  have hc : lcM [3] (fun r => (its (get r 2))) (agV 3) (fun r => (tst (call_ 2 m_has_even_runs (acons (get r 0) (acons (get r 3) (.ok [])))))) (fun r => (get r 3)) [some (.int (n : Int)), some (.int s), some (.lst (C.map rowD)), none] = .ok (.lst (R.map rowD)) := by
    subst h3
    refine lcM_map rowD (evenI n) rowD C rfl hl fun r hr => ⟨[(3, rowD r)], rfl, ?_, fun _ => rfl⟩
    have h5 := runs_ok n r hn (of_decide_eq_true (List.all_eq_true.mp h2 r hr))
    simp -implicitDefEqProofs only [wipeE_cons, wipeE_nil, setE_cons, setE_nil, List.set_cons_succ, List.set_cons_zero, get_succ, get_zero, acons_ok, call2, h5, tst_ok]
  simp -implicitDefEqProofs only [List.set_cons_succ, List.set_cons_zero, get_succ, get_zero]
  show call_ 3 m_Book_init (acons (.ok (.int (n : Int))) (acons (.ok (.int s)) (acons (lcM [3] (fun r => (its (get r 2))) (agV 3) (fun r => (tst (call_ 2 m_has_even_runs (acons (get r 0) (acons (get r 3) (.ok [])))))) (fun r => (get r 3)) [some (.int (n : Int)), some (.int s), some (.lst (C.map rowD)), none]) (.ok [])))) = _
  rw [hc]
  exact h4
def ring_loop : DL.Env → R Fl := fun r => (forR rg1 (agV 4) (fun r => (then_ (ifv (tor (tnot (tst (call_ 3 m__law_room (acons (o2 ixA (get r 3) (get r 4)) (acons (get r 0) (acons (get r 1) (.ok []))))))) (tnot (tst (call_ 2 m__law_even_runs (acons (get r 0) (acons (o2 ixA (get r 3) (get r 4)) (.ok []))))))) (ret (.ok (.bl false))) (.ok (.nx r))) (fun r => (then_ (ifv (tand (tst (o2 gtD (get r 4) (.ok (.int 0)))) (tst (o2 geX (o2 ixA (get r 3) (o2 subD (get r 4) (.ok (.int 1)))) (o2 ixA (get r 3) (get r 4))))) (ret (.ok (.bl false))) (.ok (.nx r))) (fun r => (ifv (tst (o2 ninG (cbf tupleD (acons (cbf sortedA (acons (lcM [5] (fun r => (its (o2 ixA (get r 3) (get r 4)))) (agV 5) (fun _ => .ok true) (fun r => (o2 modD (cbf intD (acons (o2 addD (get r 5) (.ok (.int 1))) (.ok []))) (get r 0))) r) (.ok []))) (.ok []))) (get r 3))) (ret (.ok (.bl false))) (.ok (.nx r)))))))) r (acons (cbf lenD (acons (get r 3) (.ok []))) (.ok [])))
def beqE : List (Option D) → List (Option D) → Bool
  | [], [] => true
  | none :: a, none :: b => beqE a b
  | some x :: a, some y :: b => beqD x y && beqE a b
  | _, _ => false
theorem beqE_of : ∀ {a b : List (Option D)}, beqE a b = true → a = b
  | [], [], _ => rfl
  | [], _ :: _, h => by simp [beqE] at h
  | _ :: _, [], h => by simp [beqE] at h
  | none :: a, none :: b, h => by rw [beqE_of (a := a) (b := b) h]
  | some x :: a, some y :: b, h => by
    have h : (beqD x y && beqE a b) = true := h
    rw [Bool.and_eq_true] at h
    rw [beqD_of h.1, beqE_of h.2]
  | none :: a, some y :: b, h => by simp [beqE] at h
  | some x :: a, none :: b, h => by simp [beqE] at h
def okN : R Fl → DL.Env → Bool
  | .ok (.nx a), b => beqE a b
  | _, _ => false
theorem okN_of {r : R Fl} {ρ : DL.Env} (h : okN r ρ = true) : r = .ok (.nx ρ) := by
  unfold okN at h
  split at h
  · rw [beqE_of h]
  · cases h
theorem law_ring_of {n s : Int} {R : List (List Int)} (o : D) (hb : m_ring_book [.int n, .int s] = .ok (bookI n s R))
    (h1 : isF (tor (tnot (tst (cbf (isoD oT oB (fun _ _ => none)) (acons (.ok (bookI n s R)) (acons (.ok (.cls "Book")) (.ok [])))))) (tor (tst (o2 neD (o1 (fldD ["Book"] "places") (.ok (bookI n s R))) (.ok (.int n)))) (tor (tst (o2 neD (o1 (fldD ["Book"] "size") (.ok (bookI n s R))) (.ok (.int s))))
      (tnot (tst (cbf (isoD oT oB (fun _ _ => none)) (acons (o1 (fldD ["Book"] "rooms") (.ok (bookI n s R))) (acons (.ok (.ty "tuple")) (.ok []))))))))) = true)
    (h2 : isF (tst (o2 neD (cbf lenD (acons (.ok (.lst (R.map rowD))) (.ok []))) (call_ 2 m__law_ways (acons (.ok (.int n)) (acons (o2 fdivD (.ok (.int s)) (.ok (.int 2))) (.ok [])))))) = true)
    (h3 : okN (ring_loop [some (.int n), some (.int s), some (bookI n s R), some (.lst (R.map rowD)), none, none]) [some (.int n), some (.int s), some (bookI n s R), some (.lst (R.map rowD)), some o, none] = true)
    (hs : (R.length ≤ 1000 && R.all fun r => r.length ≤ 20) = true) (ht : twiceT R = true) : m__law_ring [.int n, .int s] = .ok (.bl true) := by
  rw [Bool.and_eq_true] at hs
  have hs1 : R.length ≤ 1000 := of_decide_eq_true hs.1
  have hs2 : ∀ r ∈ R, r.length ≤ 20 := fun r hr => of_decide_eq_true (List.all_eq_true.mp hs.2 r hr)
  have h4 := each_ok hs1 hs2 ht
  have h5 := two_ok (n := n) (s := s) hs1 hs2 ht
  have h6 := odd_ok (n := n) (s := s) hs1 hs2 ht
  apply runX_rt
  rw [show startE 6 [.int n, .int s] = [some (.int n), some (.int s), none, none, none, none] from rfl]
  unfold b__law_ring
  refine th_asg (d := bookI n s R) hb ?_
  refine th_skip (isF_of h1) ?_
  refine th_asg (d := .lst (R.map rowD)) rfl ?_
  refine th_skip (isF_of h2) ?_
  refine th_nx (okN_of h3) ?_
  refine rt_of ?_
  have e4 : call_ 1 m__law_two_each (acons (.ok (.lst (R.map rowD))) (.ok [])) = .ok (.bl true) := h4
  have e5 : prp "Book" m_Book_is_two_each (.ok (bookI n s R)) = .ok (.bl true) := by
    show prpG "Book" m_Book_is_two_each (bookI n s R) = _
    show (if ("Book" : Str) = "Book" then calm (m_Book_is_two_each [bookI n s R]) else .stuck) = _
    rw [if_pos rfl, h5]
    rfl
  have e6 : prp "Book" m_Book_is_even (.ok (bookI n s R)) = .ok (.bl true) := by
    show (if ("Book" : Str) = "Book" then calm (m_Book_is_even [bookI n s R]) else .stuck) = _
    have e7 : m_Book_is_even [bookI n s R] = .ok (.bl true) := by
      apply runX_rt
      refine rt_of ?_
      have e8 : mth "Book" "odd_faces" 1 m_Book_odd_faces (.ok (bookI n s R)) (.ok []) = .ok (.lst []) := by
        rw [← h6]
        rfl
      show o2 eqD (cbf lenD (acons (mth "Book" "odd_faces" 1 m_Book_odd_faces (.ok (bookI n s R)) (.ok [])) (.ok []))) (.ok (.int 0)) = _
      rw [e8]
      rfl
    rw [if_pos rfl, e7]
    rfl
  show vand (call_ 1 m__law_two_each (acons (.ok (.lst (R.map rowD))) (.ok []))) (vand (prp "Book" m_Book_is_two_each (.ok (bookI n s R))) (prp "Book" m_Book_is_even (.ok (bookI n s R)))) = _
  rw [e4, e5, e6]
  rfl
end Lk13
namespace Lk13
open PySem PySem.Spec L2 DL
set_option maxHeartbeats 4000000
/-! ### faces as numbers -/
def codeI (r : List Int) : Nat := r.foldr (fun p a => 2 ^ p.toNat + a) 0
def decI (m : Nat) : List Int := ((List.range 14).filter fun i => m.testBit i).map Int.ofNat
def addN (m : Nat) : List (Nat × Nat) → List (Nat × Nat)
  | [] => [(m, 1)]
  | p :: T => match Nat.beq p.1 m with
    | true => (p.1, p.2 + 1) :: T
    | false => p :: addN m T
def tabN (ms : List Nat) : List (Nat × Nat) := ms.foldl (fun T m => addN m T) []
def cell (p : List Int × List (List Int)) : Nat × Nat := (codeI p.1, p.2.length)
theorem addT_code (f r : List Int) (hf : decI (codeI f) = f) : ∀ T : List (List Int × List (List Int)), (∀ p ∈ T, decI (codeI p.1) = p.1) → (addT f r T).map cell = addN (codeI f) (T.map cell)
  | [], _ => rfl
  | p :: T, h => by
    have hp := h p List.mem_cons_self
    have ih := addT_code f r hf T fun q hq => h q (List.mem_cons_of_mem _ hq)
    simp only [List.map_cons, addT, addN, cell]
    by_cases e : p.1 = f
    · have e2 : Nat.beq (codeI p.1) (codeI f) = true := by rw [e]; exact Nat.beq_refl _
      rw [if_pos e, e2]
      simp [cell]
    · have e2 : Nat.beq (codeI p.1) (codeI f) = false := by
        cases hb : Nat.beq (codeI p.1) (codeI f) with
        | false => rfl
        | true =>
          have := Nat.eq_of_beq_eq_true hb
          exact absurd (by rw [← hp, ← hf, this]) e
      rw [if_neg e, e2, List.map_cons, ih]
      rfl
theorem addT_mem (f r : List Int) (P : List Int → Prop) (hf : P f) : ∀ T : List (List Int × List (List Int)), (∀ p ∈ T, P p.1) → ∀ p ∈ addT f r T, P p.1
  | [], _, p, hp => by
    simp only [addT, List.mem_singleton] at hp
    subst hp
    exact hf
  | q :: T, h, p, hp => by
    simp only [addT] at hp
    split at hp
    · rcases List.mem_cons.mp hp with rfl | hp
      · exact h q List.mem_cons_self
      · exact h p (List.mem_cons_of_mem _ hp)
    · rcases List.mem_cons.mp hp with rfl | hp
      · exact h _ List.mem_cons_self
      · exact addT_mem f r P hf T (fun p hp => h p (List.mem_cons_of_mem _ hp)) p hp
theorem tab_code : ∀ (ps : List (List Int × List Int)) (T : List (List Int × List (List Int))), (∀ p ∈ ps, decI (codeI p.1) = p.1) → (∀ p ∈ T, decI (codeI p.1) = p.1) →
    (ps.foldl (fun T p => addT p.1 p.2 T) T).map cell = (ps.map fun p => codeI p.1).foldl (fun T m => addN m T) (T.map cell)
  | [], _, _, _ => rfl
  | p :: ps, T, h, hT => by
    have hp := h p List.mem_cons_self
    simp only [List.foldl_cons, List.map_cons]
    rw [tab_code ps (addT p.1 p.2 T) (fun q hq => h q (List.mem_cons_of_mem _ hq)) (addT_mem p.1 p.2 (fun f => decI (codeI f) = f) hp T hT), addT_code p.1 p.2 hp T hT]
theorem twice_of {Q : List (List Int)} (h1 : ((facePairs Q).all fun p => decide (decI (codeI p.1) = p.1)) = true) (h2 : ((tabN ((facePairs Q).map fun p => codeI p.1)).all fun p => Nat.beq p.2 2) = true) : twiceT Q = true := by
  have h3 : (tabF (facePairs Q)).map cell = tabN ((facePairs Q).map fun p => codeI p.1) := tab_code (facePairs Q) [] (fun p hp => of_decide_eq_true (List.all_eq_true.mp h1 p hp)) (fun p hp => by cases hp)
  rw [← h3, List.all_map] at h2
  unfold twiceT
  rw [List.all_eq_true] at h2 ⊢
  intro p hp
  have := Nat.eq_of_beq_eq_true (h2 p hp)
  show (p.2.length == 2) = true
  have e : p.2.length = 2 := this
  rw [e]
  rfl
end Lk13
namespace Lk13
open PySem PySem.Spec L2 DL
set_option maxHeartbeats 4000000
theorem p0 : powD (.int 10) (.int 18) = .ok (.int 1000000000000000000) := by
  unfold powD
  exact gd_ok (by decide)
theorem ixA_scr (ns : List Int) (d : D) : ixA (.scr ns) d = ixD (.scr ns) d := rfl
theorem cell_ok (ns : List Int) (k : Nat) (hk : k ≤ 1000) : ∃ c : Int, m__law_cell [.scr ns, .int k] = .ok (.int c) := by
  have m0 : mulD (.int 17) (.int k) = .ok (.int (17 * k)) := mulD_int (.inl (by omega))
  have m6 : mulD (.int 101) (.int k) = .ok (.int (101 * k)) := mulD_int (.inl (by omega))
  have m1 : ∀ c, mulD (.int c) (.int 48271) = .ok (.int (c * 48271)) := fun c => mulD_int (.inr (by omega))
  have m2 : mulD (.int 11) (.int k) = .ok (.int (11 * k)) := mulD_int (.inl (by omega))
  have m3 : ∀ y, mulD (.int (y % 2147483647)) (.int (y % 2147483647)) = .ok (.int ((y % 2147483647) * (y % 2147483647))) := fun y => mulD_int (.inl (by omega))
  have m4 : ∀ y, mulD (.int 69621) (.int y) = .ok (.int (69621 * y)) := fun y => mulD_int (.inl (by omega))
  have m5 : ∀ y, mulD (.int y) (.int 1000000000039) = .ok (.int (y * 1000000000039)) := fun y => mulD_int (.inr (by omega))
  have ha : ∀ y, absD [.int y] = .ok (.int (if y < 0 then -y else y)) := fun y => rfl
  have h : ∃ c : Int, (b__law_cell (startE 3 [.scr ns, .int k])) = .ok (.rt (.int c)) := by
    by_cases hlt : k < ns.length
    · have hx := ixD_scr ns k (List.getElem?_eq_getElem hlt)
      obtain ⟨a, ha⟩ : ∃ a, absD [.int ns[k]] = .ok (.int a) := ⟨_, rfl⟩
      by_cases hbig : (1000000000000000000 : Int) ≤ a
      · simp -implicitDefEqProofs [b__law_cell, startE, m0, m1, m2, m3, m4, m5, m6, modD_int, fdivD_int, ha, hx, hlt, p0, hbig, ixA_scr]
      · simp -implicitDefEqProofs [b__law_cell, startE, m0, m1, m2, m3, m4, m5, m6, modD_int, fdivD_int, ha, hx, hlt, p0, hbig, ixA_scr]
    · by_cases hp : 0 < ns.length
      · have hm : modD (.int k) (.int ns.length) = .ok (.int ((k % ns.length : Nat) : Int)) := modD_int (by omega)
        have hx := ixD_scr ns (k % ns.length) (List.getElem?_eq_getElem (Nat.mod_lt _ hp))
        rw [Int.natCast_emod] at hx
        simp -implicitDefEqProofs [b__law_cell, startE, m0, m1, m2, m3, m4, m5, m6, modD_int, fdivD_int, ha, hx, hlt, p0, hm, hp, ixA_scr]
      · simp -implicitDefEqProofs [b__law_cell, startE, m0, m1, m2, m3, m4, m5, m6, modD_int, fdivD_int, ha, hlt, p0, hp, ixA_scr]
  obtain ⟨c, h⟩ := h
  exact ⟨c, runX_rt h⟩
/-! ### refusals -/
def dM : D := .tup [.str "Mismatch", .str "size"]
def dP : D := .tup [.str "places", .int 0]
theorem ring_bad (n s : Int) (h : s % 2 = 1 ∨ ¬ (2 ≤ s ∧ s < n)) : m_ring_book [.int n, .int s] = .err "Mismatch" [.obj "Mismatch" ["fault"] [.str "size"]] := by
  apply runX_err
  have h2 : modD (.int s) (.int 2) = .ok (.int (s % 2)) := modD_int (by omega)
  have hr : raiseS "Mismatch" ["fault"] (.ok [.str "size"]) = .err "Mismatch" [.obj "Mismatch" ["fault"] [.str "size"]] := rfl
  have hc : (tor (tst (o2 eqD (o2 modD (.ok (.int s)) (.ok (.int 2))) (.ok (.int 1)))) (tnot (tst (ch2 leD ltD (.ok (.int 2)) (.ok (.int s)) (.ok (.int n)))))) = .ok true := by
    by_cases h0 : s % 2 = 1
    · simp -implicitDefEqProofs [h2, h0]
    · have h1 : ¬ (2 ≤ s ∧ s < n) := h.resolve_left h0
      by_cases h3 : 2 ≤ s
      · have h4 : ¬ s < n := fun z => h1 ⟨h3, z⟩
        simp -implicitDefEqProofs [h2, h0, h3, h4, ch2]
      · simp -implicitDefEqProofs [h2, h0, h3, ch2]
  show b_ring_book [some (.int n), some (.int s), none, none] = _
  unfold b_ring_book
  simp -implicitDefEqProofs only [get_succ, get_zero, acons_ok]
  rw [hc]
  exact hr

theorem tr_call {n s : Int} (h : m_ring_book [.int n, .int s] = .err "Mismatch" [.obj "Mismatch" ["fault"] [.str "size"]]) : m__law_refused [.int n, .int s] = .ok dM := by
  apply runX_rt
  show b__law_refused [some (.int n), some (.int s), none] = _
  unfold b__law_refused
  have hd : drp [some (.int n), some (.int s), none] (call_ 2 m_ring_book (acons (DL.get (wipeE [some (.int n), some (.int s), none] []) 0) (acons (DL.get (wipeE [some (.int n), some (.int s), none] []) 1) (.ok [])))) = .err "Mismatch" [.obj "Mismatch" ["fault"] [.str "size"]] := by
    show drp _ (call_ 2 m_ring_book (.ok [.int n, .int s])) = _
    show drp _ (m_ring_book [.int n, .int s]) = _
    rw [h]
    rfl
  have ht : ∀ hs : List Cl, ∀ f : DL.Env → R Fl, f [some (.int n), some (.int s), none] = .err "Mismatch" [.obj "Mismatch" ["fault"] [.str "size"]] → tryM xT xB [] f hs [some (.int n), some (.int s), none] = clM xT xB [] "Mismatch" ["fault"] [.str "size"] [some (.int n), some (.int s), none] hs := fun hs f e => by
    unfold tryM
    rw [e]
  rw [ht _ _ hd]
  rfl

/-! ### the finite part -/
set_option maxHeartbeats 0 in
theorem ring_3_2 : m__law_ring [.int 3, .int 2] = .ok (.bl true) := isT_of (by decide +kernel)
set_option maxHeartbeats 0 in
theorem ring_4_2 : m__law_ring [.int 4, .int 2] = .ok (.bl true) := isT_of (by decide +kernel)
set_option maxHeartbeats 0 in
theorem ring_5_2 : m__law_ring [.int 5, .int 2] = .ok (.bl true) := isT_of (by decide +kernel)
set_option maxHeartbeats 0 in
theorem ring_5_4 : m__law_ring [.int 5, .int 4] = .ok (.bl true) := isT_of (by decide +kernel)
set_option maxHeartbeats 0 in
theorem ring_6_2 : m__law_ring [.int 6, .int 2] = .ok (.bl true) := isT_of (by decide +kernel)
set_option maxHeartbeats 0 in
theorem ring_6_4 : m__law_ring [.int 6, .int 4] = .ok (.bl true) := isT_of (by decide +kernel)
set_option maxHeartbeats 0 in
theorem ring_7_2 : m__law_ring [.int 7, .int 2] = .ok (.bl true) := isT_of (by decide +kernel)
set_option maxHeartbeats 0 in
theorem ring_7_4 : m__law_ring [.int 7, .int 4] = .ok (.bl true) := isT_of (by decide +kernel)
set_option maxHeartbeats 0 in
theorem ring_7_6 : m__law_ring [.int 7, .int 6] = .ok (.bl true) := isT_of (by decide +kernel)
set_option maxHeartbeats 0 in
theorem ring_8_2 : m__law_ring [.int 8, .int 2] = .ok (.bl true) := isT_of (by decide +kernel)
def R_8_4 : List (List Int) := ([[0, 1, 2, 3], [0, 1, 2, 7], [0, 1, 3, 4], [0, 1, 4, 5], [0, 1, 5, 6], [0, 1, 6, 7], [0, 2, 3, 7], [0, 3, 4, 7], [0, 4, 5, 7], [0, 5, 6, 7], [1, 2, 3, 4], [1, 2, 4, 5], [1, 2, 5, 6], [1, 2, 6, 7], [2, 3, 4, 5], [2, 3, 5, 6], [2, 3, 6, 7], [3, 4, 5, 6], [3, 4, 6, 7], [4, 5, 6, 7]] : List (List Nat)).map fun r => r.map Int.ofNat
set_option maxHeartbeats 0 in
theorem rooms_8_4 : m_rooms_of_size [.int 8, .int 4] = .ok (.lst ((combI 4 (placesI 8)).map rowD)) := okD_of (by decide +kernel)
set_option maxHeartbeats 0 in
theorem outs_8_4 : ((combI 4 (placesI 8)).all fun r => decide (0 < (outI 8 r).length)) = true := by decide +kernel
set_option maxHeartbeats 0 in
theorem filt_8_4 : (combI 4 (placesI 8)).filter (evenI 8) = R_8_4 := by decide +kernel
set_option maxHeartbeats 0 in
theorem init_8_4 : m_Book_init [.int 8, .int 4, .lst (R_8_4.map rowD)] = .ok (bookI 8 4 R_8_4) := okD_of (by decide +kernel)
theorem book_8_4 : m_ring_book [.int 8, .int 4] = .ok (bookI 8 4 R_8_4) := ring_book_of (n := 8) (s := 4) (by decide) (by decide +kernel) rooms_8_4 (by decide +kernel) outs_8_4 filt_8_4 init_8_4
set_option maxHeartbeats 0 in
theorem codes_8_4 : ((facePairs R_8_4).all fun p => decide (decI (codeI p.1) = p.1)) = true := by decide +kernel
set_option maxHeartbeats 0 in
theorem counts_8_4 : ((tabN ((facePairs R_8_4).map fun p => codeI p.1)).all fun p => Nat.beq p.2 2) = true := by decide +kernel
theorem twice_8_4 : twiceT R_8_4 = true := twice_of codes_8_4 counts_8_4
set_option maxHeartbeats 0 in
theorem ring_8_4 : m__law_ring [.int 8, .int 4] = .ok (.bl true) := law_ring_of (.int 19) book_8_4 (by decide +kernel) (by decide +kernel) (by decide +kernel) (by decide +kernel) twice_8_4
def R_8_6 : List (List Int) := ([[0, 1, 2, 3, 4, 5], [0, 1, 2, 3, 4, 7], [0, 1, 2, 3, 5, 6], [0, 1, 2, 3, 6, 7], [0, 1, 2, 4, 5, 7], [0, 1, 2, 5, 6, 7], [0, 1, 3, 4, 5, 6], [0, 1, 3, 4, 6, 7], [0, 1, 4, 5, 6, 7], [0, 2, 3, 4, 5, 7], [0, 2, 3, 5, 6, 7], [0, 3, 4, 5, 6, 7], [1, 2, 3, 4, 5, 6], [1, 2, 3, 4, 6, 7], [1, 2, 4, 5, 6, 7], [2, 3, 4, 5, 6, 7]] : List (List Nat)).map fun r => r.map Int.ofNat
set_option maxHeartbeats 0 in
theorem rooms_8_6 : m_rooms_of_size [.int 8, .int 6] = .ok (.lst ((combI 6 (placesI 8)).map rowD)) := okD_of (by decide +kernel)
set_option maxHeartbeats 0 in
theorem outs_8_6 : ((combI 6 (placesI 8)).all fun r => decide (0 < (outI 8 r).length)) = true := by decide +kernel
set_option maxHeartbeats 0 in
theorem filt_8_6 : (combI 6 (placesI 8)).filter (evenI 8) = R_8_6 := by decide +kernel
set_option maxHeartbeats 0 in
theorem init_8_6 : m_Book_init [.int 8, .int 6, .lst (R_8_6.map rowD)] = .ok (bookI 8 6 R_8_6) := okD_of (by decide +kernel)
theorem book_8_6 : m_ring_book [.int 8, .int 6] = .ok (bookI 8 6 R_8_6) := ring_book_of (n := 8) (s := 6) (by decide) (by decide +kernel) rooms_8_6 (by decide +kernel) outs_8_6 filt_8_6 init_8_6
set_option maxHeartbeats 0 in
theorem codes_8_6 : ((facePairs R_8_6).all fun p => decide (decI (codeI p.1) = p.1)) = true := by decide +kernel
set_option maxHeartbeats 0 in
theorem counts_8_6 : ((tabN ((facePairs R_8_6).map fun p => codeI p.1)).all fun p => Nat.beq p.2 2) = true := by decide +kernel
theorem twice_8_6 : twiceT R_8_6 = true := twice_of codes_8_6 counts_8_6
set_option maxHeartbeats 0 in
theorem ring_8_6 : m__law_ring [.int 8, .int 6] = .ok (.bl true) := law_ring_of (.int 15) book_8_6 (by decide +kernel) (by decide +kernel) (by decide +kernel) (by decide +kernel) twice_8_6
set_option maxHeartbeats 0 in
theorem ring_9_2 : m__law_ring [.int 9, .int 2] = .ok (.bl true) := isT_of (by decide +kernel)
def R_9_4 : List (List Int) := ([[0, 1, 2, 3], [0, 1, 2, 8], [0, 1, 3, 4], [0, 1, 4, 5], [0, 1, 5, 6], [0, 1, 6, 7], [0, 1, 7, 8], [0, 2, 3, 8], [0, 3, 4, 8], [0, 4, 5, 8], [0, 5, 6, 8], [0, 6, 7, 8], [1, 2, 3, 4], [1, 2, 4, 5], [1, 2, 5, 6], [1, 2, 6, 7], [1, 2, 7, 8], [2, 3, 4, 5], [2, 3, 5, 6], [2, 3, 6, 7], [2, 3, 7, 8], [3, 4, 5, 6], [3, 4, 6, 7], [3, 4, 7, 8], [4, 5, 6, 7], [4, 5, 7, 8], [5, 6, 7, 8]] : List (List Nat)).map fun r => r.map Int.ofNat
set_option maxHeartbeats 0 in
theorem rooms_9_4 : m_rooms_of_size [.int 9, .int 4] = .ok (.lst ((combI 4 (placesI 9)).map rowD)) := okD_of (by decide +kernel)
set_option maxHeartbeats 0 in
theorem outs_9_4 : ((combI 4 (placesI 9)).all fun r => decide (0 < (outI 9 r).length)) = true := by decide +kernel
set_option maxHeartbeats 0 in
theorem filt_9_4 : (combI 4 (placesI 9)).filter (evenI 9) = R_9_4 := by decide +kernel
set_option maxHeartbeats 0 in
theorem init_9_4 : m_Book_init [.int 9, .int 4, .lst (R_9_4.map rowD)] = .ok (bookI 9 4 R_9_4) := okD_of (by decide +kernel)
theorem book_9_4 : m_ring_book [.int 9, .int 4] = .ok (bookI 9 4 R_9_4) := ring_book_of (n := 9) (s := 4) (by decide) (by decide +kernel) rooms_9_4 (by decide +kernel) outs_9_4 filt_9_4 init_9_4
set_option maxHeartbeats 0 in
theorem codes_9_4 : ((facePairs R_9_4).all fun p => decide (decI (codeI p.1) = p.1)) = true := by decide +kernel
set_option maxHeartbeats 0 in
theorem counts_9_4 : ((tabN ((facePairs R_9_4).map fun p => codeI p.1)).all fun p => Nat.beq p.2 2) = true := by decide +kernel
theorem twice_9_4 : twiceT R_9_4 = true := twice_of codes_9_4 counts_9_4
set_option maxHeartbeats 0 in
theorem ring_9_4 : m__law_ring [.int 9, .int 4] = .ok (.bl true) := law_ring_of (.int 26) book_9_4 (by decide +kernel) (by decide +kernel) (by decide +kernel) (by decide +kernel) twice_9_4
def R_9_6 : List (List Int) := ([[0, 1, 2, 3, 4, 5], [0, 1, 2, 3, 4, 8], [0, 1, 2, 3, 5, 6], [0, 1, 2, 3, 6, 7], [0, 1, 2, 3, 7, 8], [0, 1, 2, 4, 5, 8], [0, 1, 2, 5, 6, 8], [0, 1, 2, 6, 7, 8], [0, 1, 3, 4, 5, 6], [0, 1, 3, 4, 6, 7], [0, 1, 3, 4, 7, 8], [0, 1, 4, 5, 6, 7], [0, 1, 4, 5, 7, 8], [0, 1, 5, 6, 7, 8], [0, 2, 3, 4, 5, 8], [0, 2, 3, 5, 6, 8], [0, 2, 3, 6, 7, 8], [0, 3, 4, 5, 6, 8], [0, 3, 4, 6, 7, 8], [0, 4, 5, 6, 7, 8], [1, 2, 3, 4, 5, 6], [1, 2, 3, 4, 6, 7], [1, 2, 3, 4, 7, 8], [1, 2, 4, 5, 6, 7], [1, 2, 4, 5, 7, 8], [1, 2, 5, 6, 7, 8], [2, 3, 4, 5, 6, 7], [2, 3, 4, 5, 7, 8], [2, 3, 5, 6, 7, 8], [3, 4, 5, 6, 7, 8]] : List (List Nat)).map fun r => r.map Int.ofNat
set_option maxHeartbeats 0 in
theorem rooms_9_6 : m_rooms_of_size [.int 9, .int 6] = .ok (.lst ((combI 6 (placesI 9)).map rowD)) := okD_of (by decide +kernel)
set_option maxHeartbeats 0 in
theorem outs_9_6 : ((combI 6 (placesI 9)).all fun r => decide (0 < (outI 9 r).length)) = true := by decide +kernel
set_option maxHeartbeats 0 in
theorem filt_9_6 : (combI 6 (placesI 9)).filter (evenI 9) = R_9_6 := by decide +kernel
set_option maxHeartbeats 0 in
theorem init_9_6 : m_Book_init [.int 9, .int 6, .lst (R_9_6.map rowD)] = .ok (bookI 9 6 R_9_6) := okD_of (by decide +kernel)
theorem book_9_6 : m_ring_book [.int 9, .int 6] = .ok (bookI 9 6 R_9_6) := ring_book_of (n := 9) (s := 6) (by decide) (by decide +kernel) rooms_9_6 (by decide +kernel) outs_9_6 filt_9_6 init_9_6
set_option maxHeartbeats 0 in
theorem codes_9_6 : ((facePairs R_9_6).all fun p => decide (decI (codeI p.1) = p.1)) = true := by decide +kernel
set_option maxHeartbeats 0 in
theorem counts_9_6 : ((tabN ((facePairs R_9_6).map fun p => codeI p.1)).all fun p => Nat.beq p.2 2) = true := by decide +kernel
theorem twice_9_6 : twiceT R_9_6 = true := twice_of codes_9_6 counts_9_6
set_option maxHeartbeats 0 in
theorem ring_9_6 : m__law_ring [.int 9, .int 6] = .ok (.bl true) := law_ring_of (.int 29) book_9_6 (by decide +kernel) (by decide +kernel) (by decide +kernel) (by decide +kernel) twice_9_6
def R_9_8 : List (List Int) := ([[0, 1, 2, 3, 4, 5, 6, 7], [0, 1, 2, 3, 4, 5, 6, 8], [0, 1, 2, 3, 4, 5, 7, 8], [0, 1, 2, 3, 4, 6, 7, 8], [0, 1, 2, 3, 5, 6, 7, 8], [0, 1, 2, 4, 5, 6, 7, 8], [0, 1, 3, 4, 5, 6, 7, 8], [0, 2, 3, 4, 5, 6, 7, 8], [1, 2, 3, 4, 5, 6, 7, 8]] : List (List Nat)).map fun r => r.map Int.ofNat
set_option maxHeartbeats 0 in
theorem rooms_9_8 : m_rooms_of_size [.int 9, .int 8] = .ok (.lst ((combI 8 (placesI 9)).map rowD)) := okD_of (by decide +kernel)
set_option maxHeartbeats 0 in
theorem outs_9_8 : ((combI 8 (placesI 9)).all fun r => decide (0 < (outI 9 r).length)) = true := by decide +kernel
set_option maxHeartbeats 0 in
theorem filt_9_8 : (combI 8 (placesI 9)).filter (evenI 9) = R_9_8 := by decide +kernel
set_option maxHeartbeats 0 in
theorem init_9_8 : m_Book_init [.int 9, .int 8, .lst (R_9_8.map rowD)] = .ok (bookI 9 8 R_9_8) := okD_of (by decide +kernel)
theorem book_9_8 : m_ring_book [.int 9, .int 8] = .ok (bookI 9 8 R_9_8) := ring_book_of (n := 9) (s := 8) (by decide) (by decide +kernel) rooms_9_8 (by decide +kernel) outs_9_8 filt_9_8 init_9_8
set_option maxHeartbeats 0 in
theorem codes_9_8 : ((facePairs R_9_8).all fun p => decide (decI (codeI p.1) = p.1)) = true := by decide +kernel
set_option maxHeartbeats 0 in
theorem counts_9_8 : ((tabN ((facePairs R_9_8).map fun p => codeI p.1)).all fun p => Nat.beq p.2 2) = true := by decide +kernel
theorem twice_9_8 : twiceT R_9_8 = true := twice_of codes_9_8 counts_9_8
set_option maxHeartbeats 0 in
theorem ring_9_8 : m__law_ring [.int 9, .int 8] = .ok (.bl true) := law_ring_of (.int 8) book_9_8 (by decide +kernel) (by decide +kernel) (by decide +kernel) (by decide +kernel) twice_9_8
set_option maxHeartbeats 0 in
theorem ring_10_2 : m__law_ring [.int 10, .int 2] = .ok (.bl true) := isT_of (by decide +kernel)
def R_10_4 : List (List Int) := ([[0, 1, 2, 3], [0, 1, 2, 9], [0, 1, 3, 4], [0, 1, 4, 5], [0, 1, 5, 6], [0, 1, 6, 7], [0, 1, 7, 8], [0, 1, 8, 9], [0, 2, 3, 9], [0, 3, 4, 9], [0, 4, 5, 9], [0, 5, 6, 9], [0, 6, 7, 9], [0, 7, 8, 9], [1, 2, 3, 4], [1, 2, 4, 5], [1, 2, 5, 6], [1, 2, 6, 7], [1, 2, 7, 8], [1, 2, 8, 9], [2, 3, 4, 5], [2, 3, 5, 6], [2, 3, 6, 7], [2, 3, 7, 8], [2, 3, 8, 9], [3, 4, 5, 6], [3, 4, 6, 7], [3, 4, 7, 8], [3, 4, 8, 9], [4, 5, 6, 7], [4, 5, 7, 8], [4, 5, 8, 9], [5, 6, 7, 8], [5, 6, 8, 9], [6, 7, 8, 9]] : List (List Nat)).map fun r => r.map Int.ofNat
set_option maxHeartbeats 0 in
theorem rooms_10_4 : m_rooms_of_size [.int 10, .int 4] = .ok (.lst ((combI 4 (placesI 10)).map rowD)) := okD_of (by decide +kernel)
set_option maxHeartbeats 0 in
theorem outs_10_4 : ((combI 4 (placesI 10)).all fun r => decide (0 < (outI 10 r).length)) = true := by decide +kernel
set_option maxHeartbeats 0 in
theorem filt_10_4 : (combI 4 (placesI 10)).filter (evenI 10) = R_10_4 := by decide +kernel
set_option maxHeartbeats 0 in
theorem init_10_4 : m_Book_init [.int 10, .int 4, .lst (R_10_4.map rowD)] = .ok (bookI 10 4 R_10_4) := okD_of (by decide +kernel)
theorem book_10_4 : m_ring_book [.int 10, .int 4] = .ok (bookI 10 4 R_10_4) := ring_book_of (n := 10) (s := 4) (by decide) (by decide +kernel) rooms_10_4 (by decide +kernel) outs_10_4 filt_10_4 init_10_4
set_option maxHeartbeats 0 in
theorem codes_10_4 : ((facePairs R_10_4).all fun p => decide (decI (codeI p.1) = p.1)) = true := by decide +kernel
set_option maxHeartbeats 0 in
theorem counts_10_4 : ((tabN ((facePairs R_10_4).map fun p => codeI p.1)).all fun p => Nat.beq p.2 2) = true := by decide +kernel
theorem twice_10_4 : twiceT R_10_4 = true := twice_of codes_10_4 counts_10_4
set_option maxHeartbeats 0 in
theorem ring_10_4 : m__law_ring [.int 10, .int 4] = .ok (.bl true) := law_ring_of (.int 34) book_10_4 (by decide +kernel) (by decide +kernel) (by decide +kernel) (by decide +kernel) twice_10_4
def R_10_6 : List (List Int) := ([[0, 1, 2, 3, 4, 5], [0, 1, 2, 3, 4, 9], [0, 1, 2, 3, 5, 6], [0, 1, 2, 3, 6, 7], [0, 1, 2, 3, 7, 8], [0, 1, 2, 3, 8, 9], [0, 1, 2, 4, 5, 9], [0, 1, 2, 5, 6, 9], [0, 1, 2, 6, 7, 9], [0, 1, 2, 7, 8, 9], [0, 1, 3, 4, 5, 6], [0, 1, 3, 4, 6, 7], [0, 1, 3, 4, 7, 8], [0, 1, 3, 4, 8, 9], [0, 1, 4, 5, 6, 7], [0, 1, 4, 5, 7, 8], [0, 1, 4, 5, 8, 9], [0, 1, 5, 6, 7, 8], [0, 1, 5, 6, 8, 9], [0, 1, 6, 7, 8, 9], [0, 2, 3, 4, 5, 9], [0, 2, 3, 5, 6, 9], [0, 2, 3, 6, 7, 9], [0, 2, 3, 7, 8, 9], [0, 3, 4, 5, 6, 9], [0, 3, 4, 6, 7, 9], [0, 3, 4, 7, 8, 9], [0, 4, 5, 6, 7, 9], [0, 4, 5, 7, 8, 9], [0, 5, 6, 7, 8, 9], [1, 2, 3, 4, 5, 6], [1, 2, 3, 4, 6, 7], [1, 2, 3, 4, 7, 8], [1, 2, 3, 4, 8, 9], [1, 2, 4, 5, 6, 7], [1, 2, 4, 5, 7, 8], [1, 2, 4, 5, 8, 9], [1, 2, 5, 6, 7, 8], [1, 2, 5, 6, 8, 9], [1, 2, 6, 7, 8, 9], [2, 3, 4, 5, 6, 7], [2, 3, 4, 5, 7, 8], [2, 3, 4, 5, 8, 9], [2, 3, 5, 6, 7, 8], [2, 3, 5, 6, 8, 9], [2, 3, 6, 7, 8, 9], [3, 4, 5, 6, 7, 8], [3, 4, 5, 6, 8, 9], [3, 4, 6, 7, 8, 9], [4, 5, 6, 7, 8, 9]] : List (List Nat)).map fun r => r.map Int.ofNat
set_option maxHeartbeats 0 in
theorem rooms_10_6 : m_rooms_of_size [.int 10, .int 6] = .ok (.lst ((combI 6 (placesI 10)).map rowD)) := okD_of (by decide +kernel)
set_option maxHeartbeats 0 in
theorem outs_10_6 : ((combI 6 (placesI 10)).all fun r => decide (0 < (outI 10 r).length)) = true := by decide +kernel
set_option maxHeartbeats 0 in
theorem filt_10_6 : (combI 6 (placesI 10)).filter (evenI 10) = R_10_6 := by decide +kernel
set_option maxHeartbeats 0 in
theorem init_10_6 : m_Book_init [.int 10, .int 6, .lst (R_10_6.map rowD)] = .ok (bookI 10 6 R_10_6) := okD_of (by decide +kernel)
theorem book_10_6 : m_ring_book [.int 10, .int 6] = .ok (bookI 10 6 R_10_6) := ring_book_of (n := 10) (s := 6) (by decide) (by decide +kernel) rooms_10_6 (by decide +kernel) outs_10_6 filt_10_6 init_10_6
set_option maxHeartbeats 0 in
theorem codes_10_6 : ((facePairs R_10_6).all fun p => decide (decI (codeI p.1) = p.1)) = true := by decide +kernel
set_option maxHeartbeats 0 in
theorem counts_10_6 : ((tabN ((facePairs R_10_6).map fun p => codeI p.1)).all fun p => Nat.beq p.2 2) = true := by decide +kernel
theorem twice_10_6 : twiceT R_10_6 = true := twice_of codes_10_6 counts_10_6
set_option maxHeartbeats 0 in
theorem ring_10_6 : m__law_ring [.int 10, .int 6] = .ok (.bl true) := law_ring_of (.int 49) book_10_6 (by decide +kernel) (by decide +kernel) (by decide +kernel) (by decide +kernel) twice_10_6
def R_10_8 : List (List Int) := ([[0, 1, 2, 3, 4, 5, 6, 7], [0, 1, 2, 3, 4, 5, 6, 9], [0, 1, 2, 3, 4, 5, 7, 8], [0, 1, 2, 3, 4, 5, 8, 9], [0, 1, 2, 3, 4, 6, 7, 9], [0, 1, 2, 3, 4, 7, 8, 9], [0, 1, 2, 3, 5, 6, 7, 8], [0, 1, 2, 3, 5, 6, 8, 9], [0, 1, 2, 3, 6, 7, 8, 9], [0, 1, 2, 4, 5, 6, 7, 9], [0, 1, 2, 4, 5, 7, 8, 9], [0, 1, 2, 5, 6, 7, 8, 9], [0, 1, 3, 4, 5, 6, 7, 8], [0, 1, 3, 4, 5, 6, 8, 9], [0, 1, 3, 4, 6, 7, 8, 9], [0, 1, 4, 5, 6, 7, 8, 9], [0, 2, 3, 4, 5, 6, 7, 9], [0, 2, 3, 4, 5, 7, 8, 9], [0, 2, 3, 5, 6, 7, 8, 9], [0, 3, 4, 5, 6, 7, 8, 9], [1, 2, 3, 4, 5, 6, 7, 8], [1, 2, 3, 4, 5, 6, 8, 9], [1, 2, 3, 4, 6, 7, 8, 9], [1, 2, 4, 5, 6, 7, 8, 9], [2, 3, 4, 5, 6, 7, 8, 9]] : List (List Nat)).map fun r => r.map Int.ofNat
set_option maxHeartbeats 0 in
theorem rooms_10_8 : m_rooms_of_size [.int 10, .int 8] = .ok (.lst ((combI 8 (placesI 10)).map rowD)) := okD_of (by decide +kernel)
set_option maxHeartbeats 0 in
theorem outs_10_8 : ((combI 8 (placesI 10)).all fun r => decide (0 < (outI 10 r).length)) = true := by decide +kernel
set_option maxHeartbeats 0 in
theorem filt_10_8 : (combI 8 (placesI 10)).filter (evenI 10) = R_10_8 := by decide +kernel
set_option maxHeartbeats 0 in
theorem init_10_8 : m_Book_init [.int 10, .int 8, .lst (R_10_8.map rowD)] = .ok (bookI 10 8 R_10_8) := okD_of (by decide +kernel)
theorem book_10_8 : m_ring_book [.int 10, .int 8] = .ok (bookI 10 8 R_10_8) := ring_book_of (n := 10) (s := 8) (by decide) (by decide +kernel) rooms_10_8 (by decide +kernel) outs_10_8 filt_10_8 init_10_8
set_option maxHeartbeats 0 in
theorem codes_10_8 : ((facePairs R_10_8).all fun p => decide (decI (codeI p.1) = p.1)) = true := by decide +kernel
set_option maxHeartbeats 0 in
theorem counts_10_8 : ((tabN ((facePairs R_10_8).map fun p => codeI p.1)).all fun p => Nat.beq p.2 2) = true := by decide +kernel
theorem twice_10_8 : twiceT R_10_8 = true := twice_of codes_10_8 counts_10_8
set_option maxHeartbeats 0 in
theorem ring_10_8 : m__law_ring [.int 10, .int 8] = .ok (.bl true) := law_ring_of (.int 24) book_10_8 (by decide +kernel) (by decide +kernel) (by decide +kernel) (by decide +kernel) twice_10_8
set_option maxHeartbeats 0 in
theorem ring_11_2 : m__law_ring [.int 11, .int 2] = .ok (.bl true) := isT_of (by decide +kernel)
def R_11_4 : List (List Int) := ([[0, 1, 2, 3], [0, 1, 2, 10], [0, 1, 3, 4], [0, 1, 4, 5], [0, 1, 5, 6], [0, 1, 6, 7], [0, 1, 7, 8], [0, 1, 8, 9], [0, 1, 9, 10], [0, 2, 3, 10], [0, 3, 4, 10], [0, 4, 5, 10], [0, 5, 6, 10], [0, 6, 7, 10], [0, 7, 8, 10], [0, 8, 9, 10], [1, 2, 3, 4], [1, 2, 4, 5], [1, 2, 5, 6], [1, 2, 6, 7], [1, 2, 7, 8], [1, 2, 8, 9], [1, 2, 9, 10], [2, 3, 4, 5], [2, 3, 5, 6], [2, 3, 6, 7], [2, 3, 7, 8], [2, 3, 8, 9], [2, 3, 9, 10], [3, 4, 5, 6], [3, 4, 6, 7], [3, 4, 7, 8], [3, 4, 8, 9], [3, 4, 9, 10], [4, 5, 6, 7], [4, 5, 7, 8], [4, 5, 8, 9], [4, 5, 9, 10], [5, 6, 7, 8], [5, 6, 8, 9], [5, 6, 9, 10], [6, 7, 8, 9], [6, 7, 9, 10], [7, 8, 9, 10]] : List (List Nat)).map fun r => r.map Int.ofNat
set_option maxHeartbeats 0 in
theorem rooms_11_4 : m_rooms_of_size [.int 11, .int 4] = .ok (.lst ((combI 4 (placesI 11)).map rowD)) := okD_of (by decide +kernel)
set_option maxHeartbeats 0 in
theorem outs_11_4 : ((combI 4 (placesI 11)).all fun r => decide (0 < (outI 11 r).length)) = true := by decide +kernel
set_option maxHeartbeats 0 in
theorem filt_11_4 : (combI 4 (placesI 11)).filter (evenI 11) = R_11_4 := by decide +kernel
set_option maxHeartbeats 0 in
theorem init_11_4 : m_Book_init [.int 11, .int 4, .lst (R_11_4.map rowD)] = .ok (bookI 11 4 R_11_4) := okD_of (by decide +kernel)
theorem book_11_4 : m_ring_book [.int 11, .int 4] = .ok (bookI 11 4 R_11_4) := ring_book_of (n := 11) (s := 4) (by decide) (by decide +kernel) rooms_11_4 (by decide +kernel) outs_11_4 filt_11_4 init_11_4
set_option maxHeartbeats 0 in
theorem codes_11_4 : ((facePairs R_11_4).all fun p => decide (decI (codeI p.1) = p.1)) = true := by decide +kernel
set_option maxHeartbeats 0 in
theorem counts_11_4 : ((tabN ((facePairs R_11_4).map fun p => codeI p.1)).all fun p => Nat.beq p.2 2) = true := by decide +kernel
theorem twice_11_4 : twiceT R_11_4 = true := twice_of codes_11_4 counts_11_4
set_option maxHeartbeats 0 in
theorem ring_11_4 : m__law_ring [.int 11, .int 4] = .ok (.bl true) := law_ring_of (.int 43) book_11_4 (by decide +kernel) (by decide +kernel) (by decide +kernel) (by decide +kernel) twice_11_4
def R_11_6 : List (List Int) := ([[0, 1, 2, 3, 4, 5], [0, 1, 2, 3, 4, 10], [0, 1, 2, 3, 5, 6], [0, 1, 2, 3, 6, 7], [0, 1, 2, 3, 7, 8], [0, 1, 2, 3, 8, 9], [0, 1, 2, 3, 9, 10], [0, 1, 2, 4, 5, 10], [0, 1, 2, 5, 6, 10], [0, 1, 2, 6, 7, 10], [0, 1, 2, 7, 8, 10], [0, 1, 2, 8, 9, 10], [0, 1, 3, 4, 5, 6], [0, 1, 3, 4, 6, 7], [0, 1, 3, 4, 7, 8], [0, 1, 3, 4, 8, 9], [0, 1, 3, 4, 9, 10], [0, 1, 4, 5, 6, 7], [0, 1, 4, 5, 7, 8], [0, 1, 4, 5, 8, 9], [0, 1, 4, 5, 9, 10], [0, 1, 5, 6, 7, 8], [0, 1, 5, 6, 8, 9], [0, 1, 5, 6, 9, 10], [0, 1, 6, 7, 8, 9], [0, 1, 6, 7, 9, 10], [0, 1, 7, 8, 9, 10], [0, 2, 3, 4, 5, 10], [0, 2, 3, 5, 6, 10], [0, 2, 3, 6, 7, 10], [0, 2, 3, 7, 8, 10], [0, 2, 3, 8, 9, 10], [0, 3, 4, 5, 6, 10], [0, 3, 4, 6, 7, 10], [0, 3, 4, 7, 8, 10], [0, 3, 4, 8, 9, 10], [0, 4, 5, 6, 7, 10], [0, 4, 5, 7, 8, 10], [0, 4, 5, 8, 9, 10], [0, 5, 6, 7, 8, 10], [0, 5, 6, 8, 9, 10], [0, 6, 7, 8, 9, 10], [1, 2, 3, 4, 5, 6], [1, 2, 3, 4, 6, 7], [1, 2, 3, 4, 7, 8], [1, 2, 3, 4, 8, 9], [1, 2, 3, 4, 9, 10], [1, 2, 4, 5, 6, 7], [1, 2, 4, 5, 7, 8], [1, 2, 4, 5, 8, 9], [1, 2, 4, 5, 9, 10], [1, 2, 5, 6, 7, 8], [1, 2, 5, 6, 8, 9], [1, 2, 5, 6, 9, 10], [1, 2, 6, 7, 8, 9], [1, 2, 6, 7, 9, 10], [1, 2, 7, 8, 9, 10], [2, 3, 4, 5, 6, 7], [2, 3, 4, 5, 7, 8], [2, 3, 4, 5, 8, 9], [2, 3, 4, 5, 9, 10], [2, 3, 5, 6, 7, 8], [2, 3, 5, 6, 8, 9], [2, 3, 5, 6, 9, 10], [2, 3, 6, 7, 8, 9], [2, 3, 6, 7, 9, 10], [2, 3, 7, 8, 9, 10], [3, 4, 5, 6, 7, 8], [3, 4, 5, 6, 8, 9], [3, 4, 5, 6, 9, 10], [3, 4, 6, 7, 8, 9], [3, 4, 6, 7, 9, 10], [3, 4, 7, 8, 9, 10], [4, 5, 6, 7, 8, 9], [4, 5, 6, 7, 9, 10], [4, 5, 7, 8, 9, 10], [5, 6, 7, 8, 9, 10]] : List (List Nat)).map fun r => r.map Int.ofNat
set_option maxHeartbeats 0 in
theorem rooms_11_6 : m_rooms_of_size [.int 11, .int 6] = .ok (.lst ((combI 6 (placesI 11)).map rowD)) := okD_of (by decide +kernel)
set_option maxHeartbeats 0 in
theorem outs_11_6 : ((combI 6 (placesI 11)).all fun r => decide (0 < (outI 11 r).length)) = true := by decide +kernel
set_option maxHeartbeats 0 in
theorem filt_11_6 : (combI 6 (placesI 11)).filter (evenI 11) = R_11_6 := by decide +kernel
set_option maxHeartbeats 0 in
theorem init_11_6 : m_Book_init [.int 11, .int 6, .lst (R_11_6.map rowD)] = .ok (bookI 11 6 R_11_6) := okD_of (by decide +kernel)
theorem book_11_6 : m_ring_book [.int 11, .int 6] = .ok (bookI 11 6 R_11_6) := ring_book_of (n := 11) (s := 6) (by decide) (by decide +kernel) rooms_11_6 (by decide +kernel) outs_11_6 filt_11_6 init_11_6
set_option maxHeartbeats 0 in
theorem codes_11_6 : ((facePairs R_11_6).all fun p => decide (decI (codeI p.1) = p.1)) = true := by decide +kernel
set_option maxHeartbeats 0 in
theorem counts_11_6 : ((tabN ((facePairs R_11_6).map fun p => codeI p.1)).all fun p => Nat.beq p.2 2) = true := by decide +kernel
theorem twice_11_6 : twiceT R_11_6 = true := twice_of codes_11_6 counts_11_6
set_option maxHeartbeats 0 in
theorem ring_11_6 : m__law_ring [.int 11, .int 6] = .ok (.bl true) := law_ring_of (.int 76) book_11_6 (by decide +kernel) (by decide +kernel) (by decide +kernel) (by decide +kernel) twice_11_6
def R_11_8 : List (List Int) := ([[0, 1, 2, 3, 4, 5, 6, 7], [0, 1, 2, 3, 4, 5, 6, 10], [0, 1, 2, 3, 4, 5, 7, 8], [0, 1, 2, 3, 4, 5, 8, 9], [0, 1, 2, 3, 4, 5, 9, 10], [0, 1, 2, 3, 4, 6, 7, 10], [0, 1, 2, 3, 4, 7, 8, 10], [0, 1, 2, 3, 4, 8, 9, 10], [0, 1, 2, 3, 5, 6, 7, 8], [0, 1, 2, 3, 5, 6, 8, 9], [0, 1, 2, 3, 5, 6, 9, 10], [0, 1, 2, 3, 6, 7, 8, 9], [0, 1, 2, 3, 6, 7, 9, 10], [0, 1, 2, 3, 7, 8, 9, 10], [0, 1, 2, 4, 5, 6, 7, 10], [0, 1, 2, 4, 5, 7, 8, 10], [0, 1, 2, 4, 5, 8, 9, 10], [0, 1, 2, 5, 6, 7, 8, 10], [0, 1, 2, 5, 6, 8, 9, 10], [0, 1, 2, 6, 7, 8, 9, 10], [0, 1, 3, 4, 5, 6, 7, 8], [0, 1, 3, 4, 5, 6, 8, 9], [0, 1, 3, 4, 5, 6, 9, 10], [0, 1, 3, 4, 6, 7, 8, 9], [0, 1, 3, 4, 6, 7, 9, 10], [0, 1, 3, 4, 7, 8, 9, 10], [0, 1, 4, 5, 6, 7, 8, 9], [0, 1, 4, 5, 6, 7, 9, 10], [0, 1, 4, 5, 7, 8, 9, 10], [0, 1, 5, 6, 7, 8, 9, 10], [0, 2, 3, 4, 5, 6, 7, 10], [0, 2, 3, 4, 5, 7, 8, 10], [0, 2, 3, 4, 5, 8, 9, 10], [0, 2, 3, 5, 6, 7, 8, 10], [0, 2, 3, 5, 6, 8, 9, 10], [0, 2, 3, 6, 7, 8, 9, 10], [0, 3, 4, 5, 6, 7, 8, 10], [0, 3, 4, 5, 6, 8, 9, 10], [0, 3, 4, 6, 7, 8, 9, 10], [0, 4, 5, 6, 7, 8, 9, 10], [1, 2, 3, 4, 5, 6, 7, 8], [1, 2, 3, 4, 5, 6, 8, 9], [1, 2, 3, 4, 5, 6, 9, 10], [1, 2, 3, 4, 6, 7, 8, 9], [1, 2, 3, 4, 6, 7, 9, 10], [1, 2, 3, 4, 7, 8, 9, 10], [1, 2, 4, 5, 6, 7, 8, 9], [1, 2, 4, 5, 6, 7, 9, 10], [1, 2, 4, 5, 7, 8, 9, 10], [1, 2, 5, 6, 7, 8, 9, 10], [2, 3, 4, 5, 6, 7, 8, 9], [2, 3, 4, 5, 6, 7, 9, 10], [2, 3, 4, 5, 7, 8, 9, 10], [2, 3, 5, 6, 7, 8, 9, 10], [3, 4, 5, 6, 7, 8, 9, 10]] : List (List Nat)).map fun r => r.map Int.ofNat
set_option maxHeartbeats 0 in
theorem rooms_11_8 : m_rooms_of_size [.int 11, .int 8] = .ok (.lst ((combI 8 (placesI 11)).map rowD)) := okD_of (by decide +kernel)
set_option maxHeartbeats 0 in
theorem outs_11_8 : ((combI 8 (placesI 11)).all fun r => decide (0 < (outI 11 r).length)) = true := by decide +kernel
set_option maxHeartbeats 0 in
theorem filt_11_8 : (combI 8 (placesI 11)).filter (evenI 11) = R_11_8 := by decide +kernel
set_option maxHeartbeats 0 in
theorem init_11_8 : m_Book_init [.int 11, .int 8, .lst (R_11_8.map rowD)] = .ok (bookI 11 8 R_11_8) := okD_of (by decide +kernel)
theorem book_11_8 : m_ring_book [.int 11, .int 8] = .ok (bookI 11 8 R_11_8) := ring_book_of (n := 11) (s := 8) (by decide) (by decide +kernel) rooms_11_8 (by decide +kernel) outs_11_8 filt_11_8 init_11_8
set_option maxHeartbeats 0 in
theorem codes_11_8 : ((facePairs R_11_8).all fun p => decide (decI (codeI p.1) = p.1)) = true := by decide +kernel
set_option maxHeartbeats 0 in
theorem counts_11_8 : ((tabN ((facePairs R_11_8).map fun p => codeI p.1)).all fun p => Nat.beq p.2 2) = true := by decide +kernel
theorem twice_11_8 : twiceT R_11_8 = true := twice_of codes_11_8 counts_11_8
set_option maxHeartbeats 0 in
theorem ring_11_8 : m__law_ring [.int 11, .int 8] = .ok (.bl true) := law_ring_of (.int 54) book_11_8 (by decide +kernel) (by decide +kernel) (by decide +kernel) (by decide +kernel) twice_11_8
def R_11_10 : List (List Int) := ([[0, 1, 2, 3, 4, 5, 6, 7, 8, 9], [0, 1, 2, 3, 4, 5, 6, 7, 8, 10], [0, 1, 2, 3, 4, 5, 6, 7, 9, 10], [0, 1, 2, 3, 4, 5, 6, 8, 9, 10], [0, 1, 2, 3, 4, 5, 7, 8, 9, 10], [0, 1, 2, 3, 4, 6, 7, 8, 9, 10], [0, 1, 2, 3, 5, 6, 7, 8, 9, 10], [0, 1, 2, 4, 5, 6, 7, 8, 9, 10], [0, 1, 3, 4, 5, 6, 7, 8, 9, 10], [0, 2, 3, 4, 5, 6, 7, 8, 9, 10], [1, 2, 3, 4, 5, 6, 7, 8, 9, 10]] : List (List Nat)).map fun r => r.map Int.ofNat
set_option maxHeartbeats 0 in
theorem rooms_11_10 : m_rooms_of_size [.int 11, .int 10] = .ok (.lst ((combI 10 (placesI 11)).map rowD)) := okD_of (by decide +kernel)
set_option maxHeartbeats 0 in
theorem outs_11_10 : ((combI 10 (placesI 11)).all fun r => decide (0 < (outI 11 r).length)) = true := by decide +kernel
set_option maxHeartbeats 0 in
theorem filt_11_10 : (combI 10 (placesI 11)).filter (evenI 11) = R_11_10 := by decide +kernel
set_option maxHeartbeats 0 in
theorem init_11_10 : m_Book_init [.int 11, .int 10, .lst (R_11_10.map rowD)] = .ok (bookI 11 10 R_11_10) := okD_of (by decide +kernel)
theorem book_11_10 : m_ring_book [.int 11, .int 10] = .ok (bookI 11 10 R_11_10) := ring_book_of (n := 11) (s := 10) (by decide) (by decide +kernel) rooms_11_10 (by decide +kernel) outs_11_10 filt_11_10 init_11_10
set_option maxHeartbeats 0 in
theorem codes_11_10 : ((facePairs R_11_10).all fun p => decide (decI (codeI p.1) = p.1)) = true := by decide +kernel
set_option maxHeartbeats 0 in
theorem counts_11_10 : ((tabN ((facePairs R_11_10).map fun p => codeI p.1)).all fun p => Nat.beq p.2 2) = true := by decide +kernel
theorem twice_11_10 : twiceT R_11_10 = true := twice_of codes_11_10 counts_11_10
set_option maxHeartbeats 0 in
theorem ring_11_10 : m__law_ring [.int 11, .int 10] = .ok (.bl true) := law_ring_of (.int 10) book_11_10 (by decide +kernel) (by decide +kernel) (by decide +kernel) (by decide +kernel) twice_11_10
set_option maxHeartbeats 0 in
theorem ring_12_2 : m__law_ring [.int 12, .int 2] = .ok (.bl true) := isT_of (by decide +kernel)
def R_12_4 : List (List Int) := ([[0, 1, 2, 3], [0, 1, 2, 11], [0, 1, 3, 4], [0, 1, 4, 5], [0, 1, 5, 6], [0, 1, 6, 7], [0, 1, 7, 8], [0, 1, 8, 9], [0, 1, 9, 10], [0, 1, 10, 11], [0, 2, 3, 11], [0, 3, 4, 11], [0, 4, 5, 11], [0, 5, 6, 11], [0, 6, 7, 11], [0, 7, 8, 11], [0, 8, 9, 11], [0, 9, 10, 11], [1, 2, 3, 4], [1, 2, 4, 5], [1, 2, 5, 6], [1, 2, 6, 7], [1, 2, 7, 8], [1, 2, 8, 9], [1, 2, 9, 10], [1, 2, 10, 11], [2, 3, 4, 5], [2, 3, 5, 6], [2, 3, 6, 7], [2, 3, 7, 8], [2, 3, 8, 9], [2, 3, 9, 10], [2, 3, 10, 11], [3, 4, 5, 6], [3, 4, 6, 7], [3, 4, 7, 8], [3, 4, 8, 9], [3, 4, 9, 10], [3, 4, 10, 11], [4, 5, 6, 7], [4, 5, 7, 8], [4, 5, 8, 9], [4, 5, 9, 10], [4, 5, 10, 11], [5, 6, 7, 8], [5, 6, 8, 9], [5, 6, 9, 10], [5, 6, 10, 11], [6, 7, 8, 9], [6, 7, 9, 10], [6, 7, 10, 11], [7, 8, 9, 10], [7, 8, 10, 11], [8, 9, 10, 11]] : List (List Nat)).map fun r => r.map Int.ofNat
set_option maxHeartbeats 0 in
theorem rooms_12_4 : m_rooms_of_size [.int 12, .int 4] = .ok (.lst ((combI 4 (placesI 12)).map rowD)) := okD_of (by decide +kernel)
set_option maxHeartbeats 0 in
theorem outs_12_4 : ((combI 4 (placesI 12)).all fun r => decide (0 < (outI 12 r).length)) = true := by decide +kernel
set_option maxHeartbeats 0 in
theorem filt_12_4 : (combI 4 (placesI 12)).filter (evenI 12) = R_12_4 := by decide +kernel
set_option maxHeartbeats 0 in
theorem init_12_4 : m_Book_init [.int 12, .int 4, .lst (R_12_4.map rowD)] = .ok (bookI 12 4 R_12_4) := okD_of (by decide +kernel)
theorem book_12_4 : m_ring_book [.int 12, .int 4] = .ok (bookI 12 4 R_12_4) := ring_book_of (n := 12) (s := 4) (by decide) (by decide +kernel) rooms_12_4 (by decide +kernel) outs_12_4 filt_12_4 init_12_4
set_option maxHeartbeats 0 in
theorem codes_12_4 : ((facePairs R_12_4).all fun p => decide (decI (codeI p.1) = p.1)) = true := by decide +kernel
set_option maxHeartbeats 0 in
theorem counts_12_4 : ((tabN ((facePairs R_12_4).map fun p => codeI p.1)).all fun p => Nat.beq p.2 2) = true := by decide +kernel
theorem twice_12_4 : twiceT R_12_4 = true := twice_of codes_12_4 counts_12_4
set_option maxHeartbeats 0 in
theorem ring_12_4 : m__law_ring [.int 12, .int 4] = .ok (.bl true) := law_ring_of (.int 53) book_12_4 (by decide +kernel) (by decide +kernel) (by decide +kernel) (by decide +kernel) twice_12_4
def R_12_6 : List (List Int) := ([[0, 1, 2, 3, 4, 5], [0, 1, 2, 3, 4, 11], [0, 1, 2, 3, 5, 6], [0, 1, 2, 3, 6, 7], [0, 1, 2, 3, 7, 8], [0, 1, 2, 3, 8, 9], [0, 1, 2, 3, 9, 10], [0, 1, 2, 3, 10, 11], [0, 1, 2, 4, 5, 11], [0, 1, 2, 5, 6, 11], [0, 1, 2, 6, 7, 11], [0, 1, 2, 7, 8, 11], [0, 1, 2, 8, 9, 11], [0, 1, 2, 9, 10, 11], [0, 1, 3, 4, 5, 6], [0, 1, 3, 4, 6, 7], [0, 1, 3, 4, 7, 8], [0, 1, 3, 4, 8, 9], [0, 1, 3, 4, 9, 10], [0, 1, 3, 4, 10, 11], [0, 1, 4, 5, 6, 7], [0, 1, 4, 5, 7, 8], [0, 1, 4, 5, 8, 9], [0, 1, 4, 5, 9, 10], [0, 1, 4, 5, 10, 11], [0, 1, 5, 6, 7, 8], [0, 1, 5, 6, 8, 9], [0, 1, 5, 6, 9, 10], [0, 1, 5, 6, 10, 11], [0, 1, 6, 7, 8, 9], [0, 1, 6, 7, 9, 10], [0, 1, 6, 7, 10, 11], [0, 1, 7, 8, 9, 10], [0, 1, 7, 8, 10, 11], [0, 1, 8, 9, 10, 11], [0, 2, 3, 4, 5, 11], [0, 2, 3, 5, 6, 11], [0, 2, 3, 6, 7, 11], [0, 2, 3, 7, 8, 11], [0, 2, 3, 8, 9, 11], [0, 2, 3, 9, 10, 11], [0, 3, 4, 5, 6, 11], [0, 3, 4, 6, 7, 11], [0, 3, 4, 7, 8, 11], [0, 3, 4, 8, 9, 11], [0, 3, 4, 9, 10, 11], [0, 4, 5, 6, 7, 11], [0, 4, 5, 7, 8, 11], [0, 4, 5, 8, 9, 11], [0, 4, 5, 9, 10, 11], [0, 5, 6, 7, 8, 11], [0, 5, 6, 8, 9, 11], [0, 5, 6, 9, 10, 11], [0, 6, 7, 8, 9, 11], [0, 6, 7, 9, 10, 11], [0, 7, 8, 9, 10, 11], [1, 2, 3, 4, 5, 6], [1, 2, 3, 4, 6, 7], [1, 2, 3, 4, 7, 8], [1, 2, 3, 4, 8, 9], [1, 2, 3, 4, 9, 10], [1, 2, 3, 4, 10, 11], [1, 2, 4, 5, 6, 7], [1, 2, 4, 5, 7, 8], [1, 2, 4, 5, 8, 9], [1, 2, 4, 5, 9, 10], [1, 2, 4, 5, 10, 11], [1, 2, 5, 6, 7, 8], [1, 2, 5, 6, 8, 9], [1, 2, 5, 6, 9, 10], [1, 2, 5, 6, 10, 11], [1, 2, 6, 7, 8, 9], [1, 2, 6, 7, 9, 10], [1, 2, 6, 7, 10, 11], [1, 2, 7, 8, 9, 10], [1, 2, 7, 8, 10, 11], [1, 2, 8, 9, 10, 11], [2, 3, 4, 5, 6, 7], [2, 3, 4, 5, 7, 8], [2, 3, 4, 5, 8, 9], [2, 3, 4, 5, 9, 10], [2, 3, 4, 5, 10, 11], [2, 3, 5, 6, 7, 8], [2, 3, 5, 6, 8, 9], [2, 3, 5, 6, 9, 10], [2, 3, 5, 6, 10, 11], [2, 3, 6, 7, 8, 9], [2, 3, 6, 7, 9, 10], [2, 3, 6, 7, 10, 11], [2, 3, 7, 8, 9, 10], [2, 3, 7, 8, 10, 11], [2, 3, 8, 9, 10, 11], [3, 4, 5, 6, 7, 8], [3, 4, 5, 6, 8, 9], [3, 4, 5, 6, 9, 10], [3, 4, 5, 6, 10, 11], [3, 4, 6, 7, 8, 9], [3, 4, 6, 7, 9, 10], [3, 4, 6, 7, 10, 11], [3, 4, 7, 8, 9, 10], [3, 4, 7, 8, 10, 11], [3, 4, 8, 9, 10, 11], [4, 5, 6, 7, 8, 9], [4, 5, 6, 7, 9, 10], [4, 5, 6, 7, 10, 11], [4, 5, 7, 8, 9, 10], [4, 5, 7, 8, 10, 11], [4, 5, 8, 9, 10, 11], [5, 6, 7, 8, 9, 10], [5, 6, 7, 8, 10, 11], [5, 6, 8, 9, 10, 11], [6, 7, 8, 9, 10, 11]] : List (List Nat)).map fun r => r.map Int.ofNat
set_option maxHeartbeats 0 in
theorem rooms_12_6 : m_rooms_of_size [.int 12, .int 6] = .ok (.lst ((combI 6 (placesI 12)).map rowD)) := okD_of (by decide +kernel)
set_option maxHeartbeats 0 in
theorem outs_12_6 : ((combI 6 (placesI 12)).all fun r => decide (0 < (outI 12 r).length)) = true := by decide +kernel
set_option maxHeartbeats 0 in
theorem filt_12_6 : (combI 6 (placesI 12)).filter (evenI 12) = R_12_6 := by decide +kernel
set_option maxHeartbeats 0 in
theorem init_12_6 : m_Book_init [.int 12, .int 6, .lst (R_12_6.map rowD)] = .ok (bookI 12 6 R_12_6) := okD_of (by decide +kernel)
theorem book_12_6 : m_ring_book [.int 12, .int 6] = .ok (bookI 12 6 R_12_6) := ring_book_of (n := 12) (s := 6) (by decide) (by decide +kernel) rooms_12_6 (by decide +kernel) outs_12_6 filt_12_6 init_12_6
set_option maxHeartbeats 0 in
theorem codes_12_6 : ((facePairs R_12_6).all fun p => decide (decI (codeI p.1) = p.1)) = true := by decide +kernel
set_option maxHeartbeats 0 in
theorem counts_12_6 : ((tabN ((facePairs R_12_6).map fun p => codeI p.1)).all fun p => Nat.beq p.2 2) = true := by decide +kernel
theorem twice_12_6 : twiceT R_12_6 = true := twice_of codes_12_6 counts_12_6
set_option maxHeartbeats 0 in
theorem ring_12_6 : m__law_ring [.int 12, .int 6] = .ok (.bl true) := law_ring_of (.int 111) book_12_6 (by decide +kernel) (by decide +kernel) (by decide +kernel) (by decide +kernel) twice_12_6
def R_12_8 : List (List Int) := ([[0, 1, 2, 3, 4, 5, 6, 7], [0, 1, 2, 3, 4, 5, 6, 11], [0, 1, 2, 3, 4, 5, 7, 8], [0, 1, 2, 3, 4, 5, 8, 9], [0, 1, 2, 3, 4, 5, 9, 10], [0, 1, 2, 3, 4, 5, 10, 11], [0, 1, 2, 3, 4, 6, 7, 11], [0, 1, 2, 3, 4, 7, 8, 11], [0, 1, 2, 3, 4, 8, 9, 11], [0, 1, 2, 3, 4, 9, 10, 11], [0, 1, 2, 3, 5, 6, 7, 8], [0, 1, 2, 3, 5, 6, 8, 9], [0, 1, 2, 3, 5, 6, 9, 10], [0, 1, 2, 3, 5, 6, 10, 11], [0, 1, 2, 3, 6, 7, 8, 9], [0, 1, 2, 3, 6, 7, 9, 10], [0, 1, 2, 3, 6, 7, 10, 11], [0, 1, 2, 3, 7, 8, 9, 10], [0, 1, 2, 3, 7, 8, 10, 11], [0, 1, 2, 3, 8, 9, 10, 11], [0, 1, 2, 4, 5, 6, 7, 11], [0, 1, 2, 4, 5, 7, 8, 11], [0, 1, 2, 4, 5, 8, 9, 11], [0, 1, 2, 4, 5, 9, 10, 11], [0, 1, 2, 5, 6, 7, 8, 11], [0, 1, 2, 5, 6, 8, 9, 11], [0, 1, 2, 5, 6, 9, 10, 11], [0, 1, 2, 6, 7, 8, 9, 11], [0, 1, 2, 6, 7, 9, 10, 11], [0, 1, 2, 7, 8, 9, 10, 11], [0, 1, 3, 4, 5, 6, 7, 8], [0, 1, 3, 4, 5, 6, 8, 9], [0, 1, 3, 4, 5, 6, 9, 10], [0, 1, 3, 4, 5, 6, 10, 11], [0, 1, 3, 4, 6, 7, 8, 9], [0, 1, 3, 4, 6, 7, 9, 10], [0, 1, 3, 4, 6, 7, 10, 11], [0, 1, 3, 4, 7, 8, 9, 10], [0, 1, 3, 4, 7, 8, 10, 11], [0, 1, 3, 4, 8, 9, 10, 11], [0, 1, 4, 5, 6, 7, 8, 9], [0, 1, 4, 5, 6, 7, 9, 10], [0, 1, 4, 5, 6, 7, 10, 11], [0, 1, 4, 5, 7, 8, 9, 10], [0, 1, 4, 5, 7, 8, 10, 11], [0, 1, 4, 5, 8, 9, 10, 11], [0, 1, 5, 6, 7, 8, 9, 10], [0, 1, 5, 6, 7, 8, 10, 11], [0, 1, 5, 6, 8, 9, 10, 11], [0, 1, 6, 7, 8, 9, 10, 11], [0, 2, 3, 4, 5, 6, 7, 11], [0, 2, 3, 4, 5, 7, 8, 11], [0, 2, 3, 4, 5, 8, 9, 11], [0, 2, 3, 4, 5, 9, 10, 11], [0, 2, 3, 5, 6, 7, 8, 11], [0, 2, 3, 5, 6, 8, 9, 11], [0, 2, 3, 5, 6, 9, 10, 11], [0, 2, 3, 6, 7, 8, 9, 11], [0, 2, 3, 6, 7, 9, 10, 11], [0, 2, 3, 7, 8, 9, 10, 11], [0, 3, 4, 5, 6, 7, 8, 11], [0, 3, 4, 5, 6, 8, 9, 11], [0, 3, 4, 5, 6, 9, 10, 11], [0, 3, 4, 6, 7, 8, 9, 11], [0, 3, 4, 6, 7, 9, 10, 11], [0, 3, 4, 7, 8, 9, 10, 11], [0, 4, 5, 6, 7, 8, 9, 11], [0, 4, 5, 6, 7, 9, 10, 11], [0, 4, 5, 7, 8, 9, 10, 11], [0, 5, 6, 7, 8, 9, 10, 11], [1, 2, 3, 4, 5, 6, 7, 8], [1, 2, 3, 4, 5, 6, 8, 9], [1, 2, 3, 4, 5, 6, 9, 10], [1, 2, 3, 4, 5, 6, 10, 11], [1, 2, 3, 4, 6, 7, 8, 9], [1, 2, 3, 4, 6, 7, 9, 10], [1, 2, 3, 4, 6, 7, 10, 11], [1, 2, 3, 4, 7, 8, 9, 10], [1, 2, 3, 4, 7, 8, 10, 11], [1, 2, 3, 4, 8, 9, 10, 11], [1, 2, 4, 5, 6, 7, 8, 9], [1, 2, 4, 5, 6, 7, 9, 10], [1, 2, 4, 5, 6, 7, 10, 11], [1, 2, 4, 5, 7, 8, 9, 10], [1, 2, 4, 5, 7, 8, 10, 11], [1, 2, 4, 5, 8, 9, 10, 11], [1, 2, 5, 6, 7, 8, 9, 10], [1, 2, 5, 6, 7, 8, 10, 11], [1, 2, 5, 6, 8, 9, 10, 11], [1, 2, 6, 7, 8, 9, 10, 11], [2, 3, 4, 5, 6, 7, 8, 9], [2, 3, 4, 5, 6, 7, 9, 10], [2, 3, 4, 5, 6, 7, 10, 11], [2, 3, 4, 5, 7, 8, 9, 10], [2, 3, 4, 5, 7, 8, 10, 11], [2, 3, 4, 5, 8, 9, 10, 11], [2, 3, 5, 6, 7, 8, 9, 10], [2, 3, 5, 6, 7, 8, 10, 11], [2, 3, 5, 6, 8, 9, 10, 11], [2, 3, 6, 7, 8, 9, 10, 11], [3, 4, 5, 6, 7, 8, 9, 10], [3, 4, 5, 6, 7, 8, 10, 11], [3, 4, 5, 6, 8, 9, 10, 11], [3, 4, 6, 7, 8, 9, 10, 11], [4, 5, 6, 7, 8, 9, 10, 11]] : List (List Nat)).map fun r => r.map Int.ofNat
set_option maxHeartbeats 0 in
theorem rooms_12_8 : m_rooms_of_size [.int 12, .int 8] = .ok (.lst ((combI 8 (placesI 12)).map rowD)) := okD_of (by decide +kernel)
set_option maxHeartbeats 0 in
theorem outs_12_8 : ((combI 8 (placesI 12)).all fun r => decide (0 < (outI 12 r).length)) = true := by decide +kernel
set_option maxHeartbeats 0 in
theorem filt_12_8 : (combI 8 (placesI 12)).filter (evenI 12) = R_12_8 := by decide +kernel
set_option maxHeartbeats 0 in
theorem init_12_8 : m_Book_init [.int 12, .int 8, .lst (R_12_8.map rowD)] = .ok (bookI 12 8 R_12_8) := okD_of (by decide +kernel)
theorem book_12_8 : m_ring_book [.int 12, .int 8] = .ok (bookI 12 8 R_12_8) := ring_book_of (n := 12) (s := 8) (by decide) (by decide +kernel) rooms_12_8 (by decide +kernel) outs_12_8 filt_12_8 init_12_8
set_option maxHeartbeats 0 in
theorem codes_12_8 : ((facePairs R_12_8).all fun p => decide (decI (codeI p.1) = p.1)) = true := by decide +kernel
set_option maxHeartbeats 0 in
theorem counts_12_8 : ((tabN ((facePairs R_12_8).map fun p => codeI p.1)).all fun p => Nat.beq p.2 2) = true := by decide +kernel
theorem twice_12_8 : twiceT R_12_8 = true := twice_of codes_12_8 counts_12_8
set_option maxHeartbeats 0 in
theorem ring_12_8 : m__law_ring [.int 12, .int 8] = .ok (.bl true) := law_ring_of (.int 104) book_12_8 (by decide +kernel) (by decide +kernel) (by decide +kernel) (by decide +kernel) twice_12_8
def R_12_10 : List (List Int) := ([[0, 1, 2, 3, 4, 5, 6, 7, 8, 9], [0, 1, 2, 3, 4, 5, 6, 7, 8, 11], [0, 1, 2, 3, 4, 5, 6, 7, 9, 10], [0, 1, 2, 3, 4, 5, 6, 7, 10, 11], [0, 1, 2, 3, 4, 5, 6, 8, 9, 11], [0, 1, 2, 3, 4, 5, 6, 9, 10, 11], [0, 1, 2, 3, 4, 5, 7, 8, 9, 10], [0, 1, 2, 3, 4, 5, 7, 8, 10, 11], [0, 1, 2, 3, 4, 5, 8, 9, 10, 11], [0, 1, 2, 3, 4, 6, 7, 8, 9, 11], [0, 1, 2, 3, 4, 6, 7, 9, 10, 11], [0, 1, 2, 3, 4, 7, 8, 9, 10, 11], [0, 1, 2, 3, 5, 6, 7, 8, 9, 10], [0, 1, 2, 3, 5, 6, 7, 8, 10, 11], [0, 1, 2, 3, 5, 6, 8, 9, 10, 11], [0, 1, 2, 3, 6, 7, 8, 9, 10, 11], [0, 1, 2, 4, 5, 6, 7, 8, 9, 11], [0, 1, 2, 4, 5, 6, 7, 9, 10, 11], [0, 1, 2, 4, 5, 7, 8, 9, 10, 11], [0, 1, 2, 5, 6, 7, 8, 9, 10, 11], [0, 1, 3, 4, 5, 6, 7, 8, 9, 10], [0, 1, 3, 4, 5, 6, 7, 8, 10, 11], [0, 1, 3, 4, 5, 6, 8, 9, 10, 11], [0, 1, 3, 4, 6, 7, 8, 9, 10, 11], [0, 1, 4, 5, 6, 7, 8, 9, 10, 11], [0, 2, 3, 4, 5, 6, 7, 8, 9, 11], [0, 2, 3, 4, 5, 6, 7, 9, 10, 11], [0, 2, 3, 4, 5, 7, 8, 9, 10, 11], [0, 2, 3, 5, 6, 7, 8, 9, 10, 11], [0, 3, 4, 5, 6, 7, 8, 9, 10, 11], [1, 2, 3, 4, 5, 6, 7, 8, 9, 10], [1, 2, 3, 4, 5, 6, 7, 8, 10, 11], [1, 2, 3, 4, 5, 6, 8, 9, 10, 11], [1, 2, 3, 4, 6, 7, 8, 9, 10, 11], [1, 2, 4, 5, 6, 7, 8, 9, 10, 11], [2, 3, 4, 5, 6, 7, 8, 9, 10, 11]] : List (List Nat)).map fun r => r.map Int.ofNat
set_option maxHeartbeats 0 in
theorem rooms_12_10 : m_rooms_of_size [.int 12, .int 10] = .ok (.lst ((combI 10 (placesI 12)).map rowD)) := okD_of (by decide +kernel)
set_option maxHeartbeats 0 in
theorem outs_12_10 : ((combI 10 (placesI 12)).all fun r => decide (0 < (outI 12 r).length)) = true := by decide +kernel
set_option maxHeartbeats 0 in
theorem filt_12_10 : (combI 10 (placesI 12)).filter (evenI 12) = R_12_10 := by decide +kernel
set_option maxHeartbeats 0 in
theorem init_12_10 : m_Book_init [.int 12, .int 10, .lst (R_12_10.map rowD)] = .ok (bookI 12 10 R_12_10) := okD_of (by decide +kernel)
theorem book_12_10 : m_ring_book [.int 12, .int 10] = .ok (bookI 12 10 R_12_10) := ring_book_of (n := 12) (s := 10) (by decide) (by decide +kernel) rooms_12_10 (by decide +kernel) outs_12_10 filt_12_10 init_12_10
set_option maxHeartbeats 0 in
theorem codes_12_10 : ((facePairs R_12_10).all fun p => decide (decI (codeI p.1) = p.1)) = true := by decide +kernel
set_option maxHeartbeats 0 in
theorem counts_12_10 : ((tabN ((facePairs R_12_10).map fun p => codeI p.1)).all fun p => Nat.beq p.2 2) = true := by decide +kernel
theorem twice_12_10 : twiceT R_12_10 = true := twice_of codes_12_10 counts_12_10
set_option maxHeartbeats 0 in
theorem ring_12_10 : m__law_ring [.int 12, .int 10] = .ok (.bl true) := law_ring_of (.int 35) book_12_10 (by decide +kernel) (by decide +kernel) (by decide +kernel) (by decide +kernel) twice_12_10
theorem ring_all (N k : Nat) (h1 : 3 ≤ N) (h2 : N ≤ 12) (hk : 2 * k + 2 < N) : m__law_ring [.int (N : Int), .int ((2 * k + 2 : Nat) : Int)] = .ok (.bl true) := by
  have hN : N = 3 ∨ N = 4 ∨ N = 5 ∨ N = 6 ∨ N = 7 ∨ N = 8 ∨ N = 9 ∨ N = 10 ∨ N = 11 ∨ N = 12 := by omega
  rcases hN with rfl | rfl | rfl | rfl | rfl | rfl | rfl | rfl | rfl | rfl
  · have hk : k = 0 := by omega
    rcases hk with rfl
    · exact ring_3_2
  · have hk : k = 0 := by omega
    rcases hk with rfl
    · exact ring_4_2
  · have hk : k = 0 ∨ k = 1 := by omega
    rcases hk with rfl | rfl
    · exact ring_5_2
    · exact ring_5_4
  · have hk : k = 0 ∨ k = 1 := by omega
    rcases hk with rfl | rfl
    · exact ring_6_2
    · exact ring_6_4
  · have hk : k = 0 ∨ k = 1 ∨ k = 2 := by omega
    rcases hk with rfl | rfl | rfl
    · exact ring_7_2
    · exact ring_7_4
    · exact ring_7_6
  · have hk : k = 0 ∨ k = 1 ∨ k = 2 := by omega
    rcases hk with rfl | rfl | rfl
    · exact ring_8_2
    · exact ring_8_4
    · exact ring_8_6
  · have hk : k = 0 ∨ k = 1 ∨ k = 2 ∨ k = 3 := by omega
    rcases hk with rfl | rfl | rfl | rfl
    · exact ring_9_2
    · exact ring_9_4
    · exact ring_9_6
    · exact ring_9_8
  · have hk : k = 0 ∨ k = 1 ∨ k = 2 ∨ k = 3 := by omega
    rcases hk with rfl | rfl | rfl | rfl
    · exact ring_10_2
    · exact ring_10_4
    · exact ring_10_6
    · exact ring_10_8
  · have hk : k = 0 ∨ k = 1 ∨ k = 2 ∨ k = 3 ∨ k = 4 := by omega
    rcases hk with rfl | rfl | rfl | rfl | rfl
    · exact ring_11_2
    · exact ring_11_4
    · exact ring_11_6
    · exact ring_11_8
    · exact ring_11_10
  · have hk : k = 0 ∨ k = 1 ∨ k = 2 ∨ k = 3 ∨ k = 4 := by omega
    rcases hk with rfl | rfl | rfl | rfl | rfl
    · exact ring_12_2
    · exact ring_12_4
    · exact ring_12_6
    · exact ring_12_8
    · exact ring_12_10
def isP : R D → Bool
  | .ok (.tup [.str a, .int 0]) => decide (a = "places")
  | _ => false
theorem isP_of {r : R D} (h : isP r = true) : r = .ok dP := by
  unfold isP at h
  split at h
  · have h := of_decide_eq_true h
    subst h
    rfl
  · cases h
theorem ref_13_2 : m__law_refused [.int 13, .int 2] = .ok dP := isP_of (by decide +kernel)
theorem ref_13_4 : m__law_refused [.int 13, .int 4] = .ok dP := isP_of (by decide +kernel)
theorem ref_13_6 : m__law_refused [.int 13, .int 6] = .ok dP := isP_of (by decide +kernel)
theorem ref_13_8 : m__law_refused [.int 13, .int 8] = .ok dP := isP_of (by decide +kernel)
theorem ref_13_10 : m__law_refused [.int 13, .int 10] = .ok dP := isP_of (by decide +kernel)
theorem ref_13_12 : m__law_refused [.int 13, .int 12] = .ok dP := isP_of (by decide +kernel)
theorem ref_14_2 : m__law_refused [.int 14, .int 2] = .ok dP := isP_of (by decide +kernel)
theorem ref_14_4 : m__law_refused [.int 14, .int 4] = .ok dP := isP_of (by decide +kernel)
theorem ref_14_6 : m__law_refused [.int 14, .int 6] = .ok dP := isP_of (by decide +kernel)
theorem ref_14_8 : m__law_refused [.int 14, .int 8] = .ok dP := isP_of (by decide +kernel)
theorem ref_14_10 : m__law_refused [.int 14, .int 10] = .ok dP := isP_of (by decide +kernel)
theorem ref_15_2 : m__law_refused [.int 15, .int 2] = .ok dP := isP_of (by decide +kernel)
theorem ref_15_4 : m__law_refused [.int 15, .int 4] = .ok dP := isP_of (by decide +kernel)
theorem ref_15_6 : m__law_refused [.int 15, .int 6] = .ok dP := isP_of (by decide +kernel)
theorem ref_15_8 : m__law_refused [.int 15, .int 8] = .ok dP := isP_of (by decide +kernel)
theorem ref_15_10 : m__law_refused [.int 15, .int 10] = .ok dP := isP_of (by decide +kernel)
theorem ref_16_2 : m__law_refused [.int 16, .int 2] = .ok dP := isP_of (by decide +kernel)
theorem ref_16_4 : m__law_refused [.int 16, .int 4] = .ok dP := isP_of (by decide +kernel)
theorem ref_16_6 : m__law_refused [.int 16, .int 6] = .ok dP := isP_of (by decide +kernel)
theorem ref_16_8 : m__law_refused [.int 16, .int 8] = .ok dP := isP_of (by decide +kernel)
theorem ref_16_10 : m__law_refused [.int 16, .int 10] = .ok dP := isP_of (by decide +kernel)
theorem ref_all (a k : Nat) (h1 : 13 ≤ a) (h2 : a ≤ 16) (hk : k ≤ 4) : m__law_refused [.int (a : Int), .int ((2 * k + 2 : Nat) : Int)] = .ok dP := by
  have ha : a = 13 ∨ a = 14 ∨ a = 15 ∨ a = 16 := by omega
  have hk : k = 0 ∨ k = 1 ∨ k = 2 ∨ k = 3 ∨ k = 4 := by omega
  rcases ha with rfl | rfl | rfl | rfl
  · rcases hk with rfl | rfl | rfl | rfl | rfl
    · exact ref_13_2
    · exact ref_13_4
    · exact ref_13_6
    · exact ref_13_8
    · exact ref_13_10
  · rcases hk with rfl | rfl | rfl | rfl | rfl
    · exact ref_14_2
    · exact ref_14_4
    · exact ref_14_6
    · exact ref_14_8
    · exact ref_14_10
  · rcases hk with rfl | rfl | rfl | rfl | rfl
    · exact ref_15_2
    · exact ref_15_4
    · exact ref_15_6
    · exact ref_15_8
    · exact ref_15_10
  · rcases hk with rfl | rfl | rfl | rfl | rfl
    · exact ref_16_2
    · exact ref_16_4
    · exact ref_16_6
    · exact ref_16_8
    · exact ref_16_10

theorem eqM : eqD dM dM = .ok (.bl true) := isT_of (by decide +kernel)
theorem eqP : eqD dP dP = .ok (.bl true) := isT_of (by decide +kernel)
theorem neM : neD dM dM = .ok (.bl false) := by
  unfold neD
  rw [eqM]
  rfl
theorem mod_nat (c : Int) {n : Nat} (h : 0 < n) : ∃ m : Nat, m < n ∧ c % (n : Int) = (m : Int) := by
  have h0 := Int.emod_nonneg c (show (n : Int) ≠ 0 by omega)
  have h1 := Int.emod_lt_of_pos c (show (0 : Int) < n by omega)
  exact ⟨(c % (n : Int)).toNat, by omega, by omega⟩
theorem bad (n s : Int) (h : s % 2 = 1 ∨ ¬ (2 ≤ s ∧ s < n)) : m__law_refused [.int n, .int s] = .ok dM := tr_call (ring_bad n s h)
theorem dspM : dsp tupD (.ok [.str "Mismatch", .str "size"]) = .ok dM := rfl
theorem dspP : dsp tupD (.ok [.str "places", .int 0]) = .ok dP := rfl
theorem m_law_holds (ns : List Int) (hl : ns.length ≤ 63) : m_law [.scr ns] = .ok (.bl true) := by
  apply runX_rt
  obtain ⟨c0, h0⟩ := cell_ok ns 0 (by omega)
  obtain ⟨c1, h1⟩ := cell_ok ns 1 (by omega)
  obtain ⟨c2, h2⟩ := cell_ok ns 2 (by omega)
  obtain ⟨c3, h3⟩ := cell_ok ns 3 (by omega)
  obtain ⟨c4, h4⟩ := cell_ok ns 4 (by omega)
  obtain ⟨c5, h5⟩ := cell_ok ns 5 (by omega)
  rw [show startE 7 [.scr ns] = [some (.scr ns), none, none, none, none, none, none] from rfl]
  have h0 : m__law_cell [.scr ns, .int 0] = .ok (.int c0) := h0
  have h1 : m__law_cell [.scr ns, .int 1] = .ok (.int c1) := h1
  have h2 : m__law_cell [.scr ns, .int 2] = .ok (.int c2) := h2
  have h3 : m__law_cell [.scr ns, .int 3] = .ok (.int c3) := h3
  have h4 : m__law_cell [.scr ns, .int 4] = .ok (.int c4) := h4
  have h5 : m__law_cell [.scr ns, .int 5] = .ok (.int c5) := h5
  simp -implicitDefEqProofs only [b_law]
  -- n
  obtain ⟨n0, hn0, e0⟩ := mod_nat c0 (n := 7) (by omega)
  have e0 : c0 % 7 = (n0 : Int) := e0
  refine th_asg (d := .int ((n0 + 3 : Nat) : Int)) ?_ ?_
  · simp -implicitDefEqProofs [h0, modD_int, e0, Int.add_comm]
  obtain ⟨n1, hn1, e1⟩ := mod_nat c0 (n := 3) (by omega)
  have e1 : c0 % 3 = (n1 : Int) := e1
  have hn : ∃ N : Nat, 3 ≤ N ∧ N ≤ 12 ∧ ifv (tst (o2 eqD (o2 modD (cbf intD (acons (call_ 2 m__law_cell (acons (DL.get [some (.scr ns), some (.int ((n0 + 3 : Nat) : Int)), none, none, none, none, none] 0) (acons (.ok (.int 1)) (.ok [])))) (.ok []))) (.ok (.int 8))) (.ok (.int 1)))) (asg 1 [some (.scr ns), some (.int ((n0 + 3 : Nat) : Int)), none, none, none, none, none] (o2 addD (.ok (.int 10)) (o2 modD (cbf intD (acons (call_ 2 m__law_cell (acons (DL.get [some (.scr ns), some (.int ((n0 + 3 : Nat) : Int)), none, none, none, none, none] 0) (acons (.ok (.int 0)) (.ok [])))) (.ok []))) (.ok (.int 3))))) (.ok (.nx [some (.scr ns), some (.int ((n0 + 3 : Nat) : Int)), none, none, none, none, none])) = .ok (.nx [some (.scr ns), some (.int (N : Int)), none, none, none, none, none]) := by
    by_cases ho : c1 % 8 = 1
    · refine ⟨n1 + 10, by omega, by omega, ?_⟩
      simp -implicitDefEqProofs [h0, h1, modD_int, e1, ho, Int.add_comm]
    · refine ⟨n0 + 3, by omega, by omega, ?_⟩
      simp -implicitDefEqProofs [h0, h1, modD_int, e1, ho]
  obtain ⟨N, hN1, hN2, hn⟩ := hn
  refine th_nx hn ?_
  -- size
  obtain ⟨k, hk, e2⟩ := mod_nat c2 (n := (N - 1) / 2) (by omega)
  have hd : ∀ M : Nat, 1 ≤ M → fdivD (.int ((M : Int) - 1)) (.int 2) = .ok (.int (((M - 1) / 2 : Nat) : Int)) := fun M hM => by
    rw [fdivD_int (by omega)]
    congr 2
    omega
  have hm : ∀ (c : Int) (M : Nat), 0 < M → modD (.int c) (.int (M : Int)) = .ok (.int (c % (M : Int))) := fun c M hM => modD_int (by omega)
  have m2 : ∀ c : Int, mulD (.int 2) (.int c) = .ok (.int (2 * c)) := fun c => mulD_int (.inl (by omega))
  have hN3 : 0 < (N - 1) / 2 := by omega
  refine th_asg (d := .int ((2 * k + 2 : Nat) : Int)) ?_ ?_
  · simp -implicitDefEqProofs only [get_succ, get_zero, List.set_cons_succ, List.set_cons_zero, acons_ok, call2, h2, cbf_ok, intD_int, calm_ok, o2_ok, subD_int, hd N (by omega), hm c2 _ hN3, e2, m2, addD_int]
    congr 2
    omega
  -- many
  obtain ⟨j, hj, e3⟩ := mod_nat c3 (n := 6) (by omega)
  have e3 : c3 % 6 = (j : Int) := e3
  refine th_asg (d := .int ((j + 3 : Nat) : Int)) ?_ ?_
  · simp -implicitDefEqProofs [h3, modD_int, e3, Int.add_comm]
  generalize hM : j + 3 = M
  -- other
  obtain ⟨i, hi, e4⟩ := mod_nat c4 (n := (M - 1) / 2) (by omega)
  have hM3 : 0 < (M - 1) / 2 := by omega
  refine th_asg (d := .int ((2 * i + 2 : Nat) : Int)) ?_ ?_
  · simp -implicitDefEqProofs only [get_succ, get_zero, List.set_cons_succ, List.set_cons_zero, acons_ok, call2, h4, cbf_ok, intD_int, calm_ok, o2_ok, subD_int, hd M (by omega), hm c4 _ hM3, e4, m2, addD_int]
    congr 2
    omega
  -- rings
  have r1 := ring_all N k hN1 hN2 (by omega)
  have r2 := ring_all M i (by omega) (by omega) (by omega)
  refine th_skip ?_ ?_
  · simp -implicitDefEqProofs only [get_succ, get_zero, List.set_cons_succ, List.set_cons_zero, acons_ok, call2, r1, r2, tst_ok, tnot_ok, tor_ok, Bool.not_true, Bool.false_eq_true, if_false]
  -- great
  obtain ⟨g, hg, e5⟩ := mod_nat c5 (n := 1000) (by omega)
  have e5 : c5 % 1000 = (g : Int) := e5
  refine th_asg (d := .int (g : Int)) ?_ ?_
  · simp -implicitDefEqProofs [h5, modD_int, e5]
  -- wrong sizes
  have hpar : ∃ q : Nat, q < 2 ∧ (N : Int) % 2 = (q : Int) := ⟨N % 2, by omega, by omega⟩
  obtain ⟨q, hq, e6⟩ := hpar
  refine th_fors (emb := D.int) (xs := [((2 * k + 2 : Nat) : Int) + 1, ((2 * k + 2 : Nat) : Int) - 1, 0, -((2 * k + 2 : Nat) : Int), (N : Int) + (q : Int), (N : Int) + (q : Int) + 2 * (g : Int)]) (P := fun _ ρ => ∃ o, ρ = [some (.scr ns), some (.int (N : Int)), some (.int ((2 * k + 2 : Nat) : Int)), some (.int (M : Int)), some (.int ((2 * i + 2 : Nat) : Int)), some (.int (g : Int)), o]) ?_ ⟨_, rfl⟩ ?_ ?_
  · have hls : ∀ a b c d e f : D, lstD [a, b, c, d, e, f] = .ok (.lst [a, b, c, d, e, f]) := fun _ _ _ _ _ _ => rfl
    simp -implicitDefEqProofs [modD_int, e6, m2, hls, its]
  · rintro t x ρ hx ⟨o, rfl⟩
    refine ⟨[(6, .int x)], [some (.scr ns), some (.int (N : Int)), some (.int ((2 * k + 2 : Nat) : Int)), some (.int (M : Int)), some (.int ((2 * i + 2 : Nat) : Int)), some (.int (g : Int)), some (.int x)], rfl, .inl ?_, ⟨some (.int x), rfl⟩⟩
    have hb : x % 2 = 1 ∨ ¬ (2 ≤ x ∧ x < (N : Int)) := by
      have hm := List.mem_of_getElem? hx
      simp only [List.mem_cons, List.not_mem_nil, or_false] at hm
      rcases hm with rfl | rfl | rfl | rfl | rfl | rfl <;> omega
    have hr := bad (N : Int) x hb
    simp -implicitDefEqProofs only [setE_cons, setE_nil, get_succ, get_zero, List.set_cons_succ, List.set_cons_zero, acons_ok, call2, hr, dspM, o2_ok, neM, calm_ok, tst_ok, ifv_ok, Bool.false_eq_true, if_false]
  rintro ρ ⟨o, rfl⟩
  -- two more
  have b1 := bad ((2 * k + 2 : Nat) : Int) ((2 * k + 2 : Nat) : Int) (.inr (by omega))
  have b2 := bad (-(g : Int)) 2 (.inr (by omega))
  refine th_skip ?_ ?_
  · simp -implicitDefEqProofs only [get_succ, get_zero, acons_ok, call2, b1, b2, dspM, o1_ok, negD_int, o2_ok, neM, calm_ok, tst_ok, tor_ok, Bool.false_eq_true, if_false]
  -- places
  obtain ⟨a, ha, e7⟩ := mod_nat (g : Int) (n := 4) (by omega)
  have e7 : (g : Int) % 4 = (a : Int) := e7
  have p1 := ref_all (13 + a) k (by omega) (by omega) (by omega)
  have p1 : m__law_refused [.int (13 + (a : Int)), .int ((2 * k + 2 : Nat) : Int)] = .ok dP := by
    rw [show (13 : Int) + (a : Int) = ((13 + a : Nat) : Int) from by omega]
    exact p1
  refine rt_of ?_
  simp -implicitDefEqProofs only [get_succ, get_zero, acons_ok, call2, cbf_ok, intD_int, calm_ok, o2_ok, modD_int (show (0 : Int) < 4 by omega), e7, addD_int, p1, ref_13_12, dspP, eqP, vand_ok, if_true]
end Lk13

set_option maxHeartbeats 0 in
theorem PySem.Challenge.cw_neveralone_k13_ring_books_holds : PySem.Challenge.rw_neveralone_k13_ring_books.Holds := by
  w_on; o_law; k_head; (case hw => w_witness2)
  k_fill
  refine L2.walk_of (l := PySem.Challenge.rw_neveralone_k13_ring_books) (n := 63) (k := 9) (x := "_law_script") (CX := fun w => L2.CX (PySem.Challenge.rw_neveralone_k13_ring_books).prog w) (sp := fun w => DL.spLaw _) rfl (by decide) rfl ⟨rfl, by decide, by decide⟩ (fun w h Y => PySem.W.kIn_of Y) ?F (fun _ _ a ns hl _ hS => ⟨a, ns, rfl, hS, hl, fun _ => rfl⟩) (fun _ _ _ _ _ h => DL.cx_no h)
  case F =>
    intro w mg fa h KX G hmg
    refine' Lk13.all_mk KX G hmg Lk13.m_law_holds ?aC_Book ?aC_Mismatch ?aC_NeverAloneError ?aC_BadBook ?a0 ?l0 ?c0 ?k0 ?a1 ?l1 ?c1 ?k1 ?a2 ?l2 ?c2 ?k2 ?a3 ?l3 ?c3 ?k3 ?a4 ?i4 ?l4 ?c4 ?k4 ?a5 ?r5 ?i5 ?rd_Book ?rg_Book ?l5 ?c5 ?k5 ?a6 ?l6 ?c6 ?k6 ?a7 ?l7 ?c7 ?k7 ?a8 ?l8 ?c8 ?k8 ?a9 ?l9 ?c9 ?k9 ?a10 ?l10 ?c10 ?k10 ?a11 ?l11 ?c11 ?k11 ?a12 ?l12 ?c12 ?k12 ?a13 ?l13 ?c13 ?k13 ?a14 ?l14 ?c14 ?k14 ?a15 ?l15 ?c15 ?k15 ?a16 ?i16 ?j16 ?r16 ?l16 ?c16 ?k16 ?a17 ?i17 ?l17 ?c17 ?k17 ?a18 ?i18 ?j18 ?r18 ?l18 ?c18 ?k18 ?a19 ?l19 ?c19 ?k19 ?a20 ?l20 ?c20 ?k20 ?a21 ?l21 ?c21 ?k21 ?pg_Book ?hd_Book ?po_Book ?sa_Book ?mk_Book ?kc_Book ?no_Book_places ?no_Book_size ?no_Book_rooms ?no_Book__known ?xL_BadBook ?xV_BadBook ?eC_BadBook ?tC_BadBook ?sa_BadBook ?kc_BadBook ?no_BadBook_fault ?no_BadBook_at ?a_BadBook ?t_BadBook ?l_BadBook ?c_BadBook ?k_BadBook ?xL_Mismatch ?xV_Mismatch ?eC_Mismatch ?tC_Mismatch ?sa_Mismatch ?kc_Mismatch ?no_Mismatch_fault ?a_Mismatch ?t_Mismatch ?l_Mismatch ?c_Mismatch ?k_Mismatch ?ga_Mismatch ?gg_Mismatch ?hC_Mismatch ?ga_BadBook ?gg_BadBook ?hC_BadBook ?oC ?oT_ ?cc_BadBook ?mo_BadBook ?ic_BadBook ?s_BadBook_BadBook ?cc_Mismatch ?mo_Mismatch ?ic_Mismatch ?s_Mismatch_Mismatch ?s_Mismatch_BadBook ?eC_NeverAloneError ?tC_NeverAloneError ?ic_NeverAloneError ?s_Mismatch_NeverAloneError ?s_BadBook_NeverAloneError ?s_BadBook_Mismatch ?eB_ValueError ?sb_Mismatch_ValueError ?sb_BadBook_ValueError ?cc_Book ?mo_Book ?tC_Book ?s_Book_Book ?ic_Book ?sb_Book_bool ?sb_Book_int ?sb_Book_tuple ?z_len ?z_abs ?z_int ?z_range ?z_any ?z_set ?z_sorted ?z_tuple ?z_enumerate ?z_all ?z_isinstance ?z_bool ?z_list ?z_ValueError ?z_MOST_PLACES
    (case aC_Book => k_is); (case aC_Mismatch => k_is); (case aC_NeverAloneError => k_is); (case aC_BadBook => k_is); (case a0 => k_is); (case l0 => k_is); (case c0 => k_is); (case k0 => k_is); (case a1 => k_is); (case l1 => k_is); (case c1 => k_is); (case k1 => k_is); (case a2 => k_is); (case l2 => k_is); (case c2 => k_is); (case k2 => k_is); (case a3 => k_is); (case l3 => k_is); (case c3 => k_is); (case k3 => k_is); (case a4 => k_is); (case i4 => k_is); (case l4 => k_is); (case c4 => k_is); (case k4 => k_is); (case a5 => k_is); (case r5 => k_is); (case i5 => k_is); (case rd_Book => k_is); (case rg_Book => k_is); (case l5 => k_is); (case c5 => k_is); (case k5 => k_is); (case a6 => k_is); (case l6 => k_is); (case c6 => k_is); (case k6 => k_is); (case a7 => k_is); (case l7 => k_is); (case c7 => k_is); (case k7 => k_is); (case a8 => k_is); (case l8 => k_is); (case c8 => k_is); (case k8 => k_is); (case a9 => k_is); (case l9 => k_is); (case c9 => k_is); (case k9 => k_is); (case a10 => k_is); (case l10 => k_is); (case c10 => k_is); (case k10 => k_is); (case a11 => k_is); (case l11 => k_is); (case c11 => k_is); (case k11 => k_is); (case a12 => k_is); (case l12 => k_is); (case c12 => k_is); (case k12 => k_is); (case a13 => k_is); (case l13 => k_is); (case c13 => k_is); (case k13 => k_is); (case a14 => k_is); (case l14 => k_is); (case c14 => k_is); (case k14 => k_is); (case a15 => k_is); (case l15 => k_is); (case c15 => k_is); (case k15 => k_is); (case a16 => k_is); (case i16 => k_is); (case j16 => k_is); (case r16 => k_is); (case l16 => k_is); (case c16 => k_is); (case k16 => k_is); (case a17 => k_is); (case i17 => k_is); (case l17 => k_is); (case c17 => k_is); (case k17 => k_is); (case a18 => k_is); (case i18 => k_is); (case j18 => k_is); (case r18 => k_is); (case l18 => k_is); (case c18 => k_is); (case k18 => k_is); (case a19 => k_is); (case l19 => k_is); (case c19 => k_is); (case k19 => k_is); (case a20 => k_is); (case l20 => k_is); (case c20 => k_is); (case k20 => k_is); (case a21 => k_is); (case l21 => k_is); (case c21 => k_is); (case k21 => k_is); (case pg_Book => k_is); (case hd_Book => k_is); (case po_Book => k_is); (case sa_Book => k_is); (case mk_Book => k_is); (case kc_Book => k_is); (case no_Book_places => k_is); (case no_Book_size => k_is); (case no_Book_rooms => k_is); (case no_Book__known => k_is); (case xL_BadBook => k_is); (case xV_BadBook => first | k_is | rfl); (case eC_BadBook => k_is); (case tC_BadBook => k_is); (case sa_BadBook => k_is); (case kc_BadBook => k_is); (case no_BadBook_fault => k_is); (case no_BadBook_at => k_is); (case a_BadBook => k_is); (case t_BadBook => k_is); (case l_BadBook => k_is); (case c_BadBook => k_is); (case k_BadBook => k_is); (case xL_Mismatch => k_is); (case xV_Mismatch => first | k_is | rfl); (case eC_Mismatch => k_is); (case tC_Mismatch => k_is); (case sa_Mismatch => k_is); (case kc_Mismatch => k_is); (case no_Mismatch_fault => k_is); (case a_Mismatch => k_is); (case t_Mismatch => k_is); (case l_Mismatch => k_is); (case c_Mismatch => k_is); (case k_Mismatch => k_is); (case ga_Mismatch => k_is); (case gg_Mismatch => k_is); (case hC_Mismatch => k_is); (case ga_BadBook => k_is); (case gg_BadBook => k_is); (case hC_BadBook => k_is); (case oC => k_is); (case oT_ => k_is); (case cc_BadBook => k_is); (case mo_BadBook => k_is); (case ic_BadBook => k_is); (case s_BadBook_BadBook => first | k_is | rfl); (case cc_Mismatch => k_is); (case mo_Mismatch => k_is); (case ic_Mismatch => k_is); (case s_Mismatch_Mismatch => first | k_is | rfl); (case s_Mismatch_BadBook => first | k_is | rfl); (case eC_NeverAloneError => k_is); (case tC_NeverAloneError => k_is); (case ic_NeverAloneError => k_is); (case s_Mismatch_NeverAloneError => first | k_is | rfl); (case s_BadBook_NeverAloneError => first | k_is | rfl); (case s_BadBook_Mismatch => first | k_is | rfl); (case eB_ValueError => k_is); (case sb_Mismatch_ValueError => k_is); (case sb_BadBook_ValueError => k_is); (case cc_Book => k_is); (case mo_Book => k_is); (case tC_Book => k_is); (case s_Book_Book => first | k_is | rfl); (case ic_Book => k_is); (case sb_Book_bool => k_is); (case sb_Book_int => k_is); (case sb_Book_tuple => k_is); (case z_len => k_is); (case z_abs => k_is); (case z_int => k_is); (case z_range => k_is); (case z_any => k_is); (case z_set => k_is); (case z_sorted => k_is); (case z_tuple => k_is); (case z_enumerate => k_is); (case z_all => k_is); (case z_isinstance => k_is); (case z_bool => k_is); (case z_list => k_is); (case z_ValueError => k_is); (case z_MOST_PLACES => k_is)
