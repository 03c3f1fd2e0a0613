import PyProof.Rows.All
import Wide.All
import OpenK.AllK
import Wide.FinOn
import HandS.Base
import HandS.Call
import HandS.List
import HandS.Comp
import HandS.Words
import HandS.TupAny
import HandS.IsInst
import HandS.Conv
import HandS.Iter
import HandS.SortInts
import HandS.ExcOwn
import HandS.Sort
import HandS.Text
import PyProof.TupleOfSeq
import HandS.TupLe
import HandS.WideBits
import HandS.Dict
import HandS.TupSets
import HandS.Exc
import HandS.ExcInit
import HandS.WordsExc
import HandS.TryMany
import HandS.ExcIs
import HandS.ExcField
import KE.KExcIs
import HandS.ClsMeth
import HandS.Property
import HandS.DictComp
import HandS.DictTup
import HandS.SetKeys
import KE.GoesMore
import PyProof.Draws
import HandS.SortOrd
import HandS.IterNext
import HandS.IterVal
import HandS.OwnIter
import HandS.Style
import PySem.Challenge.RW_neveralone_k32_full_rooms_by_definition
set_option Elab.async false
set_option linter.all false
set_option maxRecDepth 100000
/-! The data layer: what a def makes of its arguments as plain data, apart from where the data lie. -/
namespace DL
open PySem PySem.Spec PyProof.Rows L2

/-! ### data -/
/-- what stands under a global name; class and dict of the error that a suite holds -/
structure Gm where
  mg : Str → Option Value
  xc : Addr → Option (Addr × Addr)
instance : CoeFun Gm (fun _ => Str → Option Value) := ⟨Gm.mg⟩
abbrev g0 (mg : Str → Option Value) : Gm := ⟨mg, fun _ => none⟩
inductive D where
  | non | bl (b : Bool) | int (i : Int) | str (x : Str)
  | lst (ds : List D) | tup (ds : List D) | scr (ns : List Int) | rng (lo hi : Int) | ty (n : String)
  /-- a class of one's own; an object of it, its attributes; a dict by ints and texts, by tuples of them -/
  | cls (n : Str) | obj (n : Str) (ks : List Str) (ds : List D) | dk (ks : List Key) (ds : List D) | dt (ks : List (List Key)) (ds : List D)
  /-- an error that a suite holds -/
  | exc (n : Str) (ks : List Str) (ds : List D)
  deriving Inhabited
mutual
inductive Rep (K : PySem.W.Frag) (mg : Gm) (I : Hp) : V → D → Prop
  | non : Rep K mg I .non .non
  | bl (b : Bool) : Rep K mg I (.bl b) (.bl b)
  | int (i : Int) : Rep K mg I (.int i) (.int i)
  | str (x : Str) : Rep K mg I (.str x) (.str x)
  | lst {a : Addr} {vs : List V} {ds : List D} : I a = some (.lst vs) → Reps K mg I vs ds → Rep K mg I (.ref a) (.lst ds)
  | tup {a : Addr} {vs : List V} {ds : List D} : I a = some (.tup vs) → Reps K mg I vs ds → Rep K mg I (.ref a) (.tup ds)
  | scr {a : Addr} {ns : List Int} : SqL K I a (ns.map V.int) → Rep K mg I (.ref a) (.scr ns)
  | rng {a : Addr} {lo hi : Int} : I a = some (.rng lo hi) → Rep K mg I (.ref a) (.rng lo hi)
  | ty (n : String) : Rep K mg I (.ty n) (.ty n)
  | cls {n : Str} {C : Addr} : mg n = some (.ref C) → Rep K mg I (.ref C) (.cls n)
  | obj {a C dx : Addr} {n : Str} {fs : List (Str × V)} {ds : List D} : I a = some (.ins C dx fs) → mg n = some (.ref C) → Reps K mg I (fs.map (·.2)) ds → Rep K mg I (.ref a) (.obj n (fs.map (·.1)) ds)
  | dk {a : Addr} {kvs : List (Key × V)} {ds : List D} : Rd I a (.dK kvs) → Reps K mg I (kvs.map (·.2)) ds → Rep K mg I (.ref a) (.dk (kvs.map (·.1)) ds)
  | dt {a : Addr} {kvs : List (List Key × V)} {ds : List D} : Rd I a (.dT kvs) → Reps K mg I (kvs.map (·.2)) ds → Rep K mg I (.ref a) (.dt (kvs.map (·.1)) ds)
  | exc {a C d : Addr} {n : Str} {fs : List (Str × V)} {ds : List D} : mg.xc a = some (C, d) → mg n = some (.ref C) → I d = some (.xd fs) → Reps K mg I (fs.map (·.2)) ds → Rep K mg I (.ref a) (.exc n (fs.map (·.1)) ds)
inductive Reps (K : PySem.W.Frag) (mg : Gm) (I : Hp) : List V → List D → Prop
  | nil : Reps K mg I [] []
  | cons {v : V} {vs : List V} {d : D} {ds : List D} : Rep K mg I v d → Reps K mg I vs ds → Reps K mg I (v :: vs) (d :: ds)
end
theorem same_rd {H H' : Hp} {a : Addr} {o : HO} (e : Same H H') (h : Rd H a o) : Rd H' a o := by
  rcases h with h | ⟨u, h⟩
  · exact .inl (e _ _ h)
  · exact .inr ⟨u, e _ _ h⟩
theorem same_t {K : PySem.W.Frag} {H H' : Hp} {a : Addr} {xs : List V} (e : Same H H') (h : SqT K H a xs) : SqT K H' a xs := by
  rcases h with (h | ⟨o, h⟩) | h
  · exact .inl (.inl (e _ _ h))
  · exact .inl (.inr ⟨o, e _ _ h⟩)
  · exact .inr h
section
variable {K : PySem.W.Frag} {mg : Gm} {I I' H H' I2 H2 : Hp}
mutual
theorem Rep.mono (e : Same I I') : ∀ {v : V} {d : D}, Rep K mg I v d → Rep K mg I' v d
  | _, _, .non => .non
  | _, _, .bl b => .bl b
  | _, _, .int i => .int i
  | _, _, .str x => .str x
  | _, _, .lst h r => .lst (e _ _ h) (Reps.mono e r)
  | _, _, .tup h r => .tup (e _ _ h) (Reps.mono e r)
  | _, _, .scr h => .scr (e.seq h)
  | _, _, .rng h => .rng (e _ _ h)
  | _, _, .ty n => .ty n
  | _, _, .cls h => .cls h
  | _, _, .obj h c r => .obj (e _ _ h) c (Reps.mono e r)
  | _, _, .dk h r => .dk (same_rd e h) (Reps.mono e r)
  | _, _, .dt h r => .dt (same_rd e h) (Reps.mono e r)
  | _, _, .exc x n h r => .exc x n (e _ _ h) (Reps.mono e r)
theorem Reps.mono (e : Same I I') : ∀ {vs : List V} {ds : List D}, Reps K mg I vs ds → Reps K mg I' vs ds
  | _, _, .nil => .nil
  | _, _, .cons h r => .cons (Rep.mono e h) (Reps.mono e r)
end
theorem Reps.len : ∀ {vs : List V} {ds : List D}, Reps K mg I vs ds → vs.length = ds.length
  | _, _, .nil => rfl
  | _, _, .cons _ r => congrArg (· + 1) (Reps.len r)
theorem Reps.get : ∀ {vs : List V} {ds : List D} {i : Nat} {d : D}, Reps K mg I vs ds → ds[i]? = some d → ∃ v, vs[i]? = some v ∧ Rep K mg I v d
  | _, _, _, _, .nil, h => by simp at h
  | _, _, 0, _, .cons h r, e => by
    have e : _ = _ := Option.some.inj e
    subst e
    exact ⟨_, rfl, h⟩
  | _, _, i + 1, _, .cons h r, e => Reps.get (i := i) r e
theorem Reps.get' : ∀ {vs : List V} {ds : List D} {i : Nat} {v : V}, Reps K mg I vs ds → vs[i]? = some v → ∃ d, ds[i]? = some d ∧ Rep K mg I v d
  | _, _, _, _, .nil, h => by simp at h
  | _, _, 0, _, .cons h r, e => by
    have e : _ = _ := Option.some.inj e
    subst e
    exact ⟨_, rfl, h⟩
  | _, _, i + 1, _, .cons h r, e => Reps.get' (i := i) r e
theorem Reps.app : ∀ {vs ws : List V} {ds es : List D}, Reps K mg I vs ds → Reps K mg I ws es → Reps K mg I (vs ++ ws) (ds ++ es)
  | _, _, _, _, .nil, s => s
  | _, _, _, _, .cons h r, s => .cons h (Reps.app r s)
theorem Reps.take : ∀ {vs : List V} {ds : List D} (n : Nat), Reps K mg I vs ds → Reps K mg I (vs.take n) (ds.take n)
  | _, _, 0, _ => .nil
  | _, _, _ + 1, .nil => .nil
  | _, _, n + 1, .cons h r => .cons h (Reps.take n r)
theorem Reps.drop : ∀ {vs : List V} {ds : List D} (n : Nat), Reps K mg I vs ds → Reps K mg I (vs.drop n) (ds.drop n)
  | _, _, 0, r => r
  | _, _, _ + 1, .nil => .nil
  | _, _, n + 1, .cons _ r => Reps.drop n r
theorem Reps.set {v : V} {d : D} (h : Rep K mg I v d) : ∀ {vs : List V} {ds : List D} (i : Nat), Reps K mg I vs ds → Reps K mg I (vs.set i v) (ds.set i d)
  | _, _, _, .nil => .nil
  | _, _, 0, .cons _ r => .cons h r
  | _, _, i + 1, .cons q r => .cons q (Reps.set h i r)
theorem Reps.erase : ∀ {vs : List V} {ds : List D} (i : Nat), Reps K mg I vs ds → Reps K mg I (vs.eraseIdx i) (ds.eraseIdx i)
  | _, _, _, .nil => .nil
  | _, _, 0, .cons _ r => r
  | _, _, i + 1, .cons q r => .cons q (Reps.erase i r)
theorem Reps.rev {vs : List V} {ds : List D} (h : Reps K mg I vs ds) : Reps K mg I vs.reverse ds.reverse := by
  induction vs generalizing ds with
  | nil =>
    cases h
    exact .nil
  | cons v vs ih =>
    cases h with
    | cons a r =>
      rw [List.reverse_cons, List.reverse_cons]
      exact (ih r).app (.cons a .nil)
theorem Reps.ints {ns : List Int} : Reps K mg I (ns.map V.int) (ns.map D.int) := by
  induction ns with
  | nil => exact .nil
  | cons n ns ih => exact .cons (.int n) ih

/-! ### a step: nothing that stood is changed; what the data lie in grows by new objects alone -/
def TupO : HO → Prop
  | .tup _ => True
  | _ => False
/-- new; or a tuple -/
def Fr (H : Hp) (a : Addr) (o : HO) : Prop := H a = none ∨ TupO o
structure Stp (I H I' H' : Hp) : Prop where
  i : Same I I'
  h : Same H H'
  e : Same I' H'
  f : ∀ a o, I' a = some o → I a = some o ∨ Fr H a o
theorem Stp.refl (e : Same I H) : Stp I H I H := ⟨.refl _, .refl _, e, fun _ _ h => .inl h⟩
theorem Stp.trans (s : Stp I H I' H') (t : Stp I' H' I2 H2) : Stp I H I2 H2 := ⟨s.i.trans t.i, s.h.trans t.h, t.e, fun a o h => by
  rcases t.f a o h with h | h | h
  · exact s.f a o h
  · exact .inr (.inl (s.h.free h))
  · exact .inr (.inr h)⟩
/-- a new object -/
theorem Stp.new {p : Addr} {o : HO} (e : Same I H) (h : H p = none) : Stp I H (upd I p o) (upd H p o) := by
  have hi : I p = none := e.free h
  refine ⟨fun b u q => ?_, fun b u q => ?_, fun b u q => ?_, fun b u q => ?_⟩
  · rw [upd_ne (ne_of_none q hi)]
    exact q
  · rw [upd_ne (ne_of_none q h)]
    exact q
  · by_cases hb : b = p
    · subst hb
      rw [upd_same] at q ⊢
      exact q
    · rw [upd_ne hb] at q ⊢
      exact e _ _ q
  · by_cases hb : b = p
    · subst hb
      exact .inr (.inl h)
    · rw [upd_ne hb] at q
      exact .inl q
/-- an object of H alone, new -/
theorem Stp.side {p : Addr} {o : HO} (e : Same I H) (h : H p = none) : Stp I H I (upd H p o) := by
  have q : Same H (upd H p o) := fun b u q => by
    rw [upd_ne (ne_of_none q h)]
    exact q
  exact ⟨.refl _, q, e.trans q, fun b u q => .inl q⟩
end

/-! ### results -/
inductive R (α : Type) where
  | ok (a : α) | err (nm : Str) (ds : List D) | stuck
def R.bind {α β : Type} : R α → (α → R β) → R β
  | .ok a, f => f a
  | .err n ds, _ => .err n ds
  | .stuck, _ => .stuck
instance : Monad R where
  pure := R.ok
  bind := R.bind
@[simp] theorem ok_bind {α β : Type} (a : α) (f : α → R β) : (R.ok a >>= f) = f a := rfl
@[simp] theorem err_bind {α β : Type} (n : Str) (ds : List D) (f : α → R β) : ((R.err n ds : R α) >>= f) = .err n ds := rfl
@[simp] theorem stuck_bind {α β : Type} (f : α → R β) : ((R.stuck : R α) >>= f) = .stuck := rfl
@[simp] theorem pure_ok {α : Type} (a : α) : (pure a : R α) = .ok a := rfl
abbrev Env := List (Option D)
def get (ρ : Env) (i : Nat) : R D := match ρ[i]? with
  | some (some d) => .ok d
  | _ => .stuck

/-! ### the wishes: of a value, of an exception -/
/-- an exception of the class nm whose fields are ds -/
structure XRep (K : PySem.W.Frag) (mg : Gm) (I H : Hp) (nm : Str) (ds : List D) (C : Value) (od : Option Addr) : Prop where
  c : mg nm = some C ∧ ∃ C0, C = .ref C0
  d : ∃ d fs es, od = some d ∧ I d = some (.xd fs) ∧ ds = [.obj nm (fs.map (·.1)) es] ∧ Reps K mg I (fs.map (·.2)) es
def Out (K : PySem.W.Frag) (mg : Gm) (E : XK) {α β : Type} (rp : Hp → β → α → Prop) (I H : Hp) (r : R α) (Q : β → Hp → Prop) : Prop := match r with
  | .ok d => ∀ v I' H', Stp I H I' H' → rp I' v d → Q v H'
  | .err nm ds => ∀ C od I' H', Stp I H I' H' → XRep K mg I' H' nm ds C od → E C od H'
  | .stuck => False
/-- the slots' values -/
structure RE (K : PySem.W.Frag) (mg : Gm) (I : Hp) (σ : L2.St) (ρ : Env) : Prop where
  len : σ.length = ρ.length
  at_ : ∀ (i : Nat) (d : D), ρ[i]? = some (some d) → ∃ v, σ[i]? = some (some v) ∧ Rep K mg I v d
abbrev rB : Hp → Bool → Bool → Prop := fun _ v d => v = d
abbrev rO : Hp → Option Int → Option Int → Prop := fun _ v d => v = d
/-- an iterator whose items are ds -/
def ItOk (K : PySem.W.Frag) (mg : Gm) (I : Hp) (J : It) (ds : List D) : Prop :=
  ∀ I1 H, Same I I1 → Same I1 H → (∀ (i : Nat) d, ds[i]? = some d → J.go i H ∧ ∀ x H', J.yld i H x H' → ∃ I2, Stp I1 H I2 H' ∧ Rep K mg I2 x d) ∧ J.stop ds.length H
section
variable {K : PySem.W.Frag} {mg : Gm} {E : XK} {I I' H H' : Hp} {σ : L2.St} {ρ : Env} {α β α' β' : Type} {rp : Hp → β → α → Prop} {rp' : Hp → β' → α' → Prop} {Q : β → Hp → Prop} {r : R α}
theorem RE.mono (h : RE K mg I σ ρ) (e : Same I I') : RE K mg I' σ ρ := ⟨h.len, fun i d q => by
  obtain ⟨v, a, b⟩ := h.at_ i d q
  exact ⟨v, a, b.mono e⟩⟩
theorem ItOk.mono {J : It} {ds : List D} (h : ItOk K mg I J ds) (e : Same I I') : ItOk K mg I' J ds := fun I1 H a b => h I1 H (e.trans a) b
theorem Out.mono (s : Stp I H I' H') (h : Out K mg E rp I H r Q) : Out K mg E rp I' H' r Q := by
  cases r with
  | ok d => exact fun v I2 H2 t q => h v I2 H2 (s.trans t) q
  | err nm ds => exact fun C od I2 H2 t q => h C od I2 H2 (s.trans t) q
  | stuck => exact h
/-- a wish by the slots' values -/
abbrev XS := L2.St → XK
def Sn (K : PySem.W.Frag) (mg : Gm) (E : XS) {α β : Type} (rp : Hp → β → α → Prop) (te : L2.St → Hp → (β → Hp → Prop) → Prop) (m : Env → R α) : Prop :=
  ∀ (σ : L2.St) (I H : Hp) (ρ : Env) (Q : β → Hp → Prop), RE K mg I σ ρ → Same I H → Out K mg (E σ) rp I H (m ρ) Q → te σ H Q
theorem Sn.run {E : XS} {te : L2.St → Hp → (β → Hp → Prop) → Prop} {m : Env → R α} {k : α → R α'} {P : β → Hp → Prop} {Q : β' → Hp → Prop} (h : Sn K mg E rp te m) (re : RE K mg I σ ρ) (ex : Same I H) (hq : Out K mg (E σ) rp' I H (m ρ >>= k) Q)
    (hk : ∀ d v I' H', m ρ = .ok d → Stp I H I' H' → rp I' v d → Out K mg (E σ) rp' I' H' (k d) Q → P v H') : te σ H P := by
  refine h σ I H ρ P re ex ?_
  cases e : m ρ with
  | ok d =>
    rw [e] at hq
    exact fun v I' H' s q => hk d v I' H' e s q (Out.mono s hq)
  | err nm ds =>
    rw [e] at hq
    exact hq
  | stuck =>
    rw [e] at hq
    exact hq
theorem Out.here {d : α} {v : β} (h : Out K mg E rp I H (.ok d) Q) (e : Same I H) (r : rp I v d) : Q v H := h v I H (.refl e) r
theorem Out.there {d : α} {v : β} (h : Out K mg E rp I H (.ok d) Q) (e : Stp I H I' H') (r : rp I' v d) : Q v H' := h v I' H' e r
end
end DL
namespace DL
open PySem PySem.Spec L2

/-! ### judgements: a piece of syntax and what it makes of the slots' data -/
/-- the wish of an error, by the slots; the errors that are held -/
structure Wh where
  e : XS
  x : Addr → Option (Addr × Addr)
abbrev kE (E : XK) : Wh := ⟨fun _ => E, fun _ => none⟩
abbrev Wh.calm (E : Wh) : Wh := ⟨fun _ => E0, E.x⟩
abbrev gm (X : Cx) (E : Wh) : Gm := ⟨X.mg, E.x⟩
structure ME (X : Cx) (E : Wh) (e : Expr) (t : TE) (m : Env → R D) : Prop where
  pe : PE X e t
  sn : Sn X.K (gm X E) E.e (Rep X.K (gm X E)) t m
structure MT (X : Cx) (E : Wh) (e : Expr) (t : TT) (m : Env → R Bool) : Prop where
  pe : PT X e t
  sn : Sn X.K (gm X E) E.e rB t m
structure MW (X : Cx) (E : Wh) (e : Expr) (t : TT) (m : Env → R Bool) : Prop where
  pe : PW X e t
  sn : Sn X.K (gm X E) E.e rB t m
structure MTs (X : Cx) (E : Wh) (es : List Expr) (t : TT) (m : Env → R Bool) : Prop where
  pe : PTs X es t
  sn : Sn X.K (gm X E) E.e rB t m
structure MA (X : Cx) (E : Wh) (es : List Expr) (t : TA) (m : Env → R (List D)) : Prop where
  pe : PA X es t
  sn : Sn X.K (gm X E) E.e (Reps X.K (gm X E)) t m
structure MO (X : Cx) (E : Wh) (e : Option Expr) (t : TO) (m : Env → R (Option Int)) : Prop where
  pe : PO X e t
  sn : Sn X.K (gm X E) E.e rO t m
structure MI (X : Cx) (E : Wh) (tg e : Expr) (t : TI) (m : Env → R (List D)) : Prop where
  pe : PI X tg e t
  sn : Sn X.K (gm X E) E.e (ItOk X.K (gm X E)) t m
theorem MW.mt {X : Cx} {E : Wh} {e : Expr} {t : TT} {m : Env → R Bool} (h : MW X E e t m) : MT X E e t m := by
  obtain ⟨a, b⟩ := h
  exact ⟨a.pt, b⟩

/-! ### rules by values -/
def RSn (K : PySem.W.Frag) (mg : Gm) (r : R2) (f : D → D → R D) : Prop :=
  ∀ (x y : V) (I H : Hp) (dx dy d : D) (Q : VK), Same I H → Rep K mg I x dx → Rep K mg I y dy → f dx dy = .ok d → (∀ v I' H', Stp I H I' H' → Rep K mg I' v d → Q v H') → r x y H Q
def USn (K : PySem.W.Frag) (mg : Gm) (r : V → Hp → VK → Prop) (f : D → R D) : Prop :=
  ∀ (x : V) (I H : Hp) (dx d : D) (Q : VK), Same I H → Rep K mg I x dx → f dx = .ok d → (∀ v I' H', Stp I H I' H' → Rep K mg I' v d → Q v H') → r x H Q
def CSn (K : PySem.W.Frag) (mg : Gm) (r : List V → Hp → VK → Prop) (f : List D → R D) : Prop :=
  ∀ (xs : List V) (I H : Hp) (ds : List D) (d : D) (Q : VK), Same I H → Reps K mg I xs ds → f ds = .ok d → (∀ v I' H', Stp I H I' H' → Rep K mg I' v d → Q v H') → r xs H Q
/-- an error of a built-in is none that we speak of -/
def calm {α : Type} : R α → R α
  | .ok a => .ok a
  | _ => .stuck
@[simp] theorem calm_ok {α : Type} (a : α) : calm (R.ok a) = .ok a := rfl
@[simp] theorem calm_stuck {α : Type} : calm (R.stuck : R α) = .stuck := rfl
theorem calm_of {α : Type} {r : R α} {a : α} (h : calm r = .ok a) : r = .ok a := by
  cases r with
  | ok b => exact h
  | err _ _ => cases h
  | stuck => cases h

/-! ### the parts of what a text makes -/
def o2 (f : D → D → R D) (a b : R D) : R D := a >>= fun x => b >>= fun y => calm (f x y)
def o1 (f : D → R D) (a : R D) : R D := a >>= fun x => calm (f x)
def asB : D → R Bool
  | .bl b => .ok b
  | _ => .stuck
@[simp] theorem asB_bl (b : Bool) : asB (.bl b) = .ok b := rfl
def tst (a : R D) : R Bool := a >>= asB
def tnot (a : R Bool) : R Bool := a >>= fun k => .ok (!k)
def ifv {α : Type} (c : R Bool) (a b : R α) : R α := c >>= fun k => if k = true then a else b
def tand (a b : R Bool) : R Bool := a >>= fun k => if k = true then b else .ok false
def tor (a b : R Bool) : R Bool := a >>= fun k => if k = true then .ok true else b
def vand (a b : R D) : R D := a >>= fun k => asB k >>= fun k => if k = true then b else .ok (.bl false)
def vor (a b : R D) : R D := a >>= fun k => asB k >>= fun k => if k = true then .ok (.bl true) else b
def vnot (a : R D) : R D := a >>= fun k => asB k >>= fun k => .ok (.bl !k)
def acons (a : R D) (r : R (List D)) : R (List D) := a >>= fun d => r >>= fun ds => .ok (d :: ds)
def cbf (f : List D → R D) (r : R (List D)) : R D := r >>= fun ds => calm (f ds)
def call_ (n : Nat) (g : List D → R D) (r : R (List D)) : R D := r >>= fun ds => if ds.length = n then g ds else .stuck
def asI : D → R (Option Int)
  | .int i => .ok (some i)
  | _ => .stuck
def toI (a : R D) : R (Option Int) := a >>= asI
def o3 (f : D → Option Int → Option Int → R D) (a : R D) (l u : R (Option Int)) : R D := a >>= fun d => l >>= fun l => u >>= fun u => calm (f d l u)
@[simp] theorem o2_ok (f : D → D → R D) (x y : D) : o2 f (.ok x) (.ok y) = calm (f x y) := rfl
@[simp] theorem o1_ok (f : D → R D) (x : D) : o1 f (.ok x) = calm (f x) := rfl
@[simp] theorem tst_ok (b : Bool) : tst (.ok (.bl b)) = .ok b := rfl
@[simp] theorem tnot_ok (b : Bool) : tnot (.ok b) = .ok (!b) := rfl
@[simp] theorem ifv_ok {α : Type} (k : Bool) (a b : R α) : ifv (.ok k) a b = if k = true then a else b := rfl
@[simp] theorem tand_ok (k : Bool) (b : R Bool) : tand (.ok k) b = if k = true then b else .ok false := rfl
@[simp] theorem tor_ok (k : Bool) (b : R Bool) : tor (.ok k) b = if k = true then .ok true else b := rfl
@[simp] theorem vand_ok (k : Bool) (b : R D) : vand (.ok (.bl k)) b = if k = true then b else .ok (.bl false) := rfl
@[simp] theorem vor_ok (k : Bool) (b : R D) : vor (.ok (.bl k)) b = if k = true then .ok (.bl true) else b := rfl
@[simp] theorem vnot_ok (k : Bool) : vnot (.ok (.bl k)) = .ok (.bl !k) := rfl
@[simp] theorem acons_ok (d : D) (ds : List D) : acons (.ok d) (.ok ds) = .ok (d :: ds) := rfl
@[simp] theorem cbf_ok (f : List D → R D) (ds : List D) : cbf f (.ok ds) = calm (f ds) := rfl
@[simp] theorem call_ok (n : Nat) (g : List D → R D) (ds : List D) : call_ n g (.ok ds) = if ds.length = n then g ds else .stuck := rfl
@[simp] theorem toI_ok (i : Int) : toI (.ok (.int i)) = .ok (some i) := rfl
@[simp] theorem o3_ok (f : D → Option Int → Option Int → R D) (d : D) (l u : Option Int) : o3 f (.ok d) (.ok l) (.ok u) = calm (f d l u) := rfl

section
variable {X : Cx} {E : Wh} {K : PySem.W.Frag} {mg : Gm} {I I' H H' : Hp} {σ : L2.St} {ρ : Env} {a b c e : Expr} {es : List Expr} {pos p : Pos} {ma mb mc m : Env → R D} {mt mu : Env → R Bool} {ms : Env → R (List D)} {x : Str} {ta tb t : TE} {tt tu : TT} {tas tr : TA} {tl th : TO}

theorem out_calm {E : XK} {α β : Type} {rp : Hp → β → α → Prop} {r : R α} {Q : β → Hp → Prop} (h : Out K mg E rp I H (calm r) Q) : ∃ d, r = .ok d ∧ ∀ v I' H', Stp I H I' H' → rp I' v d → Q v H' := by
  cases r with
  | ok d => exact ⟨d, rfl, h⟩
  | err _ _ => exact h.elim
  | stuck => exact h.elim

theorem me_var (i : Nat) (hN : X.N[i]? = some x := by rfl) (hv : Vis X.env.scope x := by first | exact Or.inl rfl | exact Or.inr (Or.inl rfl) | exact Or.inr (Or.inr rfl)) (hd : (x == ("__debug__" : Str)) = false := by decide)
    (hcd : (x == ("__classdict__" : Str)) = false := by decide) : ME X E (.Name x pos) (tVar i) (fun ρ => get ρ i) := ⟨pe_var (i := i) hN hv hd hcd, fun σ I H ρ Q re ex h => by
  have h : Out X.K (gm X E) (E.e σ) (Rep X.K (gm X E)) I H (match ρ[i]? with | some (some d) => R.ok d | _ => .stuck) Q := h
  cases q : ρ[i]? with
  | none =>
    rw [q] at h
    exact h.elim
  | some o =>
    rw [q] at h
    cases o with
    | none => exact h.elim
    | some d =>
      obtain ⟨v, h1, h2⟩ := re.at_ i d q
      exact ⟨v, h1, h.here ex h2⟩⟩
theorem me_int {i : Int} {j} : ME X E (.Constant (.int i) j pos) (tC (.int i)) (fun _ => .ok (.int i)) := ⟨pe_int, fun _ _ _ _ _ _ ex h => h.here ex (.int i)⟩
theorem me_bl {i : Bool} {j} : ME X E (.Constant (.bool i) j pos) (tC (.bl i)) (fun _ => .ok (.bl i)) := ⟨pe_bl, fun _ _ _ _ _ _ ex h => h.here ex (.bl i)⟩
theorem me_non {j} : ME X E (.Constant .none j pos) (tC .non) (fun _ => .ok .non) := ⟨pe_non, fun _ _ _ _ _ _ ex h => h.here ex .non⟩
theorem me_str {i : Str} {j} : ME X E (.Constant (.str i) j pos) (tC (.str i)) (fun _ => .ok (.str i)) := ⟨pe_str, fun _ _ _ _ _ _ ex h => h.here ex (.str i)⟩

theorem me_op {op : Operator} {r : R2} {f : D → D → R D} (ho : OpR X (binaryOp op) r) (hs : RSn X.K (gm X E) r f) (ha : ME X E a ta ma) (hb : ME X E b tb mb) : ME X E (.BinOp a op b pos) (tOp r ta tb) (fun ρ => o2 f (ma ρ) (mb ρ)) := by
  obtain ⟨pa, sa⟩ := ha
  obtain ⟨pb, sb⟩ := hb
  refine ⟨pe_op ho pa pb, fun σ I H ρ Q re ex h => ?_⟩
  refine sa.run re ex h fun d v I1 H1 _ st rx h => ?_
  refine sb.run (re.mono st.i) st.e h fun d2 v2 I2 H2 _ st2 ry h => ?_
  obtain ⟨z, hz, h⟩ := out_calm h
  exact hs v v2 I2 H2 d d2 z Q st2.e (rx.mono st2.i) ry hz h
theorem me_un {op : UnaryOp} {r : V → Hp → VK → Prop} {f : D → R D} (ho : UnR X (unaryOp op) r) (hs : USn X.K (gm X E) r f) (ha : ME X E a ta ma) : ME X E (.UnaryOp op a pos) (tUn r ta) (fun ρ => o1 f (ma ρ)) := by
  obtain ⟨pa, sa⟩ := ha
  refine ⟨pe_un ho pa, fun σ I H ρ Q re ex h => ?_⟩
  refine sa.run re ex h fun d v I1 H1 _ st rx h => ?_
  obtain ⟨z, hz, h⟩ := out_calm h
  exact hs v I1 H1 d z Q st.e rx hz h
theorem me_cmp {op : CmpOp} {r : R2} {f : D → D → R D} (ho : OpR X (compareOp op) r) (hs : RSn X.K (gm X E) r f) (ha : ME X E a ta ma) (hb : ME X E b tb mb) (hm : behindInMarks op b = false := by first | exact nomark _ | rfl) :
    ME X E (.Compare a [op] [b] pos) (tOp r ta tb) (fun ρ => o2 f (ma ρ) (mb ρ)) := by
  obtain ⟨pa, sa⟩ := ha
  obtain ⟨pb, sb⟩ := hb
  refine ⟨pe_cmpR ho pa pb hm, fun σ I H ρ Q re ex h => ?_⟩
  refine sa.run re ex h fun d v I1 H1 _ st rx h => ?_
  refine sb.run (re.mono st.i) st.e h fun d2 v2 I2 H2 _ st2 ry h => ?_
  obtain ⟨z, hz, h⟩ := out_calm h
  exact hs v v2 I2 H2 d d2 z Q st2.e (rx.mono st2.i) ry hz h
/-- o[i] -/
theorem me_ix {r : R2} {f : D → D → R D} (ho : IxR X r) (hs : RSn X.K (gm X E) r f) (ha : ME X E a ta ma) (hb : ME X E b tb mb) (hp : PlainIx b := by exact fun _ _ => rfl) : ME X E (.Subscript a b pos) (tOp r ta tb) (fun ρ => o2 f (ma ρ) (mb ρ)) := by
  obtain ⟨pa, sa⟩ := ha
  obtain ⟨pb, sb⟩ := hb
  refine ⟨pe_ix ho pa pb hp, fun σ I H ρ Q re ex h => ?_⟩
  refine sa.run re ex h fun d v I1 H1 _ st rx h => ?_
  refine sb.run (re.mono st.i) st.e h fun d2 v2 I2 H2 _ st2 ry h => ?_
  obtain ⟨z, hz, h⟩ := out_calm h
  exact hs v v2 I2 H2 d d2 z Q st2.e (rx.mono st2.i) ry hz h

/-! ### tests -/
theorem mt_val (h : ME X E e t m) (he : ∀ whole, isTrue e X.env whole = (do let v ← whole; standAt e.pos; holding [v] (truthy v)) := by intro _; rfl) : MT X E e (tB t) (fun ρ => tst (m ρ)) := by
  obtain ⟨pt, st⟩ := h
  refine ⟨pt_val pt he, fun σ I H ρ Q re ex h => ?_⟩
  refine st.run re ex h fun d v I1 H1 _ st rx h => ?_
  cases rx with
  | bl k => exact ⟨k, rfl, h.here st.e rfl⟩
  | _ => exact h.elim
theorem mt_cmp {op : CmpOp} {r : R2} {f : D → D → R D} (ho : OpR X (compareOp op) r) (hs : RSn X.K (gm X E) r f) (ha : ME X E a ta ma) (hb : ME X E b tb mb) (hm : behindInMarks op b = false := by first | exact nomark _ | rfl) :
    MT X E (.Compare a [op] [b] pos) (tTest (tOp r ta tb)) (fun ρ => tst (o2 f (ma ρ) (mb ρ))) := by
  obtain ⟨pa, sa⟩ := ha
  obtain ⟨pb, sb⟩ := hb
  refine ⟨pt_cmpR ho pa pb hm, fun σ I H ρ Q re ex h => ?_⟩
  have h : Out X.K (gm X E) (E.e σ) rB I H (ma ρ >>= fun x => (mb ρ >>= fun y => calm (f x y)) >>= asB) Q := by
    have h : Out X.K (gm X E) (E.e σ) rB I H (tst (o2 f (ma ρ) (mb ρ))) Q := h
    cases e : ma ρ with
    | ok x =>
      rw [e] at h
      exact h
    | err _ _ =>
      rw [e] at h
      exact h
    | stuck =>
      rw [e] at h
      exact h
  refine sa.run re ex h fun d v I1 H1 _ st rx h => ?_
  have h : Out X.K (gm X E) (E.e σ) rB I1 H1 (mb ρ >>= fun y => calm (f d y) >>= asB) Q := by
    cases e : mb ρ with
    | ok x =>
      rw [e] at h
      exact h
    | err _ _ =>
      rw [e] at h
      exact h
    | stuck =>
      rw [e] at h
      exact h
  refine sb.run (re.mono st.i) st.e h fun d2 v2 I2 H2 _ st2 ry h => ?_
  cases hz : f d d2 with
  | err _ _ =>
    rw [hz] at h
    exact h.elim
  | stuck =>
    rw [hz] at h
    exact h.elim
  | ok z =>
    rw [hz] at h
    refine hs v v2 I2 H2 d d2 z _ st2.e (rx.mono st2.i) ry hz fun v3 I3 H3 st3 r3 => ?_
    cases r3 with
    | bl k => exact ⟨k, rfl, h.there st3 rfl⟩
    | _ => exact h.elim
theorem mt_not (h : MT X E a tt mt) : MT X E (.UnaryOp .Not a pos) (tNot tt) (fun ρ => tnot (mt ρ)) := by
  obtain ⟨pt, st⟩ := h
  refine ⟨pt_not pt, fun σ I H ρ Q re ex h => ?_⟩
  refine st.run re ex h fun d v I1 H1 _ st rx h => ?_
  cases rx
  exact h.here st.e rfl
theorem mw_and1 (h : MT X E a tt mt) : MW X E (.BoolOp .And [a] pos) tt mt := by
  obtain ⟨pt, st⟩ := h
  exact ⟨pw_and1 pt, st⟩
theorem mw_or1 (h : MT X E a tt mt) : MW X E (.BoolOp .Or [a] pos) tt mt := by
  obtain ⟨pt, st⟩ := h
  exact ⟨pw_or1 pt, st⟩
theorem mw_and {rest : List Expr} (h : MT X E a tt mt) (h2 : MW X E (.BoolOp .And (b :: rest) pos) tu mu) : MW X E (.BoolOp .And (a :: b :: rest) pos) (tAnd tt tu) (fun ρ => tand (mt ρ) (mu ρ)) := by
  obtain ⟨pt, st⟩ := h
  obtain ⟨pt2, st2⟩ := h2
  refine ⟨pw_and pt pt2, fun σ I H ρ Q re ex h => ?_⟩
  refine st.run re ex h fun d v I1 H1 _ st rx h => ?_
  cases rx
  cases d with
  | true => exact st2 σ I1 H1 ρ Q (re.mono st.i) st.e h
  | false => exact h.here st.e rfl
theorem mw_or {rest : List Expr} (h : MT X E a tt mt) (h2 : MW X E (.BoolOp .Or (b :: rest) pos) tu mu) : MW X E (.BoolOp .Or (a :: b :: rest) pos) (tOr tt tu) (fun ρ => tor (mt ρ) (mu ρ)) := by
  obtain ⟨pt, st⟩ := h
  obtain ⟨pt2, st2⟩ := h2
  refine ⟨pw_or pt pt2, fun σ I H ρ Q re ex h => ?_⟩
  refine st.run re ex h fun d v I1 H1 _ st rx h => ?_
  cases rx
  cases d with
  | true => exact h.here st.e rfl
  | false => exact st2 σ I1 H1 ρ Q (re.mono st.i) st.e h
/-- and, or, not as values -/
theorem me_one {op} (h : ME X E a ta ma) : ME X E (.BoolOp op [a] pos) ta ma := by
  obtain ⟨pt, st⟩ := h
  exact ⟨pe_one pt, st⟩
theorem me_and {rest : List Expr} (h : ME X E a ta ma) (h2 : ME X E (.BoolOp .And (b :: rest) pos) tb mb) : ME X E (.BoolOp .And (a :: b :: rest) pos) (tAndV ta tb) (fun ρ => vand (ma ρ) (mb ρ)) := by
  obtain ⟨pt, st⟩ := h
  obtain ⟨pt2, st2⟩ := h2
  refine ⟨pe_and pt pt2, fun σ I H ρ Q re ex h => ?_⟩
  refine st.run re ex h fun d v I1 H1 _ st rx h => ?_
  cases rx with
  | bl k =>
    refine ⟨k, rfl, ?_⟩
    cases k with
    | true => exact st2 σ I1 H1 ρ Q (re.mono st.i) st.e h
    | false => exact h.here st.e (.bl false)
  | _ => exact h.elim
theorem me_or {rest : List Expr} (h : ME X E a ta ma) (h2 : ME X E (.BoolOp .Or (b :: rest) pos) tb mb) : ME X E (.BoolOp .Or (a :: b :: rest) pos) (tOrV ta tb) (fun ρ => vor (ma ρ) (mb ρ)) := by
  obtain ⟨pt, st⟩ := h
  obtain ⟨pt2, st2⟩ := h2
  refine ⟨pe_or pt pt2, fun σ I H ρ Q re ex h => ?_⟩
  refine st.run re ex h fun d v I1 H1 _ st rx h => ?_
  cases rx with
  | bl k =>
    refine ⟨k, rfl, ?_⟩
    cases k with
    | true => exact h.here st.e (.bl true)
    | false => exact st2 σ I1 H1 ρ Q (re.mono st.i) st.e h
  | _ => exact h.elim
theorem me_not (h : ME X E a ta ma) : ME X E (.UnaryOp .Not a pos) (tNotV ta) (fun ρ => vnot (ma ρ)) := by
  obtain ⟨pt, st⟩ := h
  refine ⟨pe_not pt, fun σ I H ρ Q re ex h => ?_⟩
  refine st.run re ex h fun d v I1 H1 _ st rx h => ?_
  cases rx with
  | bl k => exact ⟨k, rfl, h.here st.e (.bl _)⟩
  | _ => exact h.elim
theorem me_if (hc : MT X E c tt mt) (ha : ME X E a ta ma) (hb : ME X E b tb mb) : ME X E (.IfExp c a b pos) (tIf tt ta tb) (fun ρ => ifv (mt ρ) (ma ρ) (mb ρ)) := by
  obtain ⟨pt, st⟩ := hc
  obtain ⟨pa, sa⟩ := ha
  obtain ⟨pb, sb⟩ := hb
  refine ⟨pe_ifExp pt pa pb, fun σ I H ρ Q re ex h => ?_⟩
  refine st.run re ex h fun d v I1 H1 _ st rx h => ?_
  have rx : v = d := rx
  subst rx
  cases v with
  | true => exact sa σ I1 H1 ρ Q (re.mono st.i) st.e h
  | false => exact sb σ I1 H1 ρ Q (re.mono st.i) st.e h
theorem mts_nil : MTs X E [] tYes (fun _ => .ok true) := ⟨pts_nil, fun σ I H ρ Q re ex h => h.here ex rfl⟩
theorem mts_one (h : MT X E c tt mt) : MTs X E [c] tt mt := by
  obtain ⟨pt, st⟩ := h
  exact ⟨pts_one pt, st⟩

/-! ### arguments, displays -/
theorem ma_nil : MA X E [] tNil (fun _ => .ok []) := ⟨pa_nil, fun σ I H ρ Q re ex h => h.here ex .nil⟩
theorem ma_cons (ha : ME X E e ta ma) (hr : MA X E es tr ms) (hs : starEach (e :: es) X.env = (false, eval e X.env) :: starEach es X.env := by rfl) : MA X E (e :: es) (tCons ta tr) (fun ρ => acons (ma ρ) (ms ρ)) := by
  obtain ⟨pt, st⟩ := ha
  obtain ⟨pt2, st2⟩ := hr
  refine ⟨pa_cons pt pt2 hs, fun σ I H ρ Q re ex h => ?_⟩
  refine st.run re ex h fun d v I1 H1 _ st rx h => ?_
  refine st2.run (re.mono st.i) st.e h fun ds vs I2 H2 _ st2 rs h => ?_
  exact h.here st2.e (.cons (rx.mono st2.i) rs)
def LIM : Nat := 1000000
theorem lim_ok {n : Nat} (h : n ≤ LIM) : n ≤ sizeLine := Nat.le_trans h (by decide)
theorem lim_lt {n : Nat} (h : n ≤ LIM) : n < sizeLine := Nat.lt_of_le_of_lt h (by decide)
theorem upd_rep {p : Addr} {o : HO} {vs : List V} {ds : List D} (e : Same I H) (h : H p = none) (r : Reps K mg I vs ds) : Reps K mg (upd I p o) vs ds := r.mono (Stp.new e h).i
theorem new_lst {p : Addr} {vs : List V} {ds : List D} (e : Same I H) (h : H p = none) (r : Reps K mg I vs ds) : Rep K mg (upd I p (.lst vs)) (.ref p) (.lst ds) := .lst upd_same (upd_rep e h r)
theorem new_tup {p : Addr} {vs : List V} {ds : List D} (e : Same I H) (h : H p = none) (r : Reps K mg I vs ds) : Rep K mg (upd I p (.tup vs)) (.ref p) (.tup ds) := .tup upd_same (upd_rep e h r)
def lstD (ds : List D) : R D := if ds.length ≤ LIM then .ok (.lst ds) else .stuck
def tupD (ds : List D) : R D := if ds.length ≤ LIM then .ok (.tup ds) else .stuck
def dsp {α : Type} (f : List D → R α) (r : R (List D)) : R α := r >>= f
@[simp] theorem dsp_ok {α : Type} (f : List D → R α) (ds : List D) : dsp f (.ok ds) = f ds := rfl
theorem out_if {E : XK} {α β : Type} {rp : Hp → β → α → Prop} {c : Prop} [Decidable c] {r : R α} {Q : β → Hp → Prop} (h : Out K mg E rp I H (if c then r else .stuck) Q) : c ∧ Out K mg E rp I H r Q := by
  by_cases hc : c
  · rw [if_pos hc] at h
    exact ⟨hc, h⟩
  · rw [if_neg hc] at h
    exact h.elim
theorem me_tup {x1} (h : MA X E es tas ms) : ME X E (.Tuple es x1 pos) (tTup tas) (fun ρ => dsp tupD (ms ρ)) := by
  obtain ⟨pt, st⟩ := h
  refine ⟨pe_tup pt, fun σ I H ρ Q re ex h => ?_⟩
  refine st.run re ex h fun ds vs I1 H1 _ st rx h => ?_
  obtain ⟨hl, h⟩ := out_if h
  exact ⟨lim_ok (by rw [rx.len]; exact hl), fun p hp => h.there (.new st.e hp) (new_tup st.e hp rx)⟩
theorem me_lst (h : MA X E es tas ms) : ME X E (.List es pos) (tLst tas) (fun ρ => dsp lstD (ms ρ)) := by
  obtain ⟨pt, st⟩ := h
  refine ⟨pe_lst pt, fun σ I H ρ Q re ex h => ?_⟩
  refine st.run re ex h fun ds vs I1 H1 _ st rx h => ?_
  obtain ⟨hl, h⟩ := out_if h
  exact ⟨lim_ok (by rw [rx.len]; exact hl), fun p hp => h.there (.new st.e hp) (new_lst st.e hp rx)⟩

/-! ### calls of built-ins -/
theorem me_callB {id : String} {r : List V → Hp → VK → Prop} {f : List D → R D} (hc : CallR X (.builtin id) r) (hs : CSn X.K (gm X E) r f) (hg : Gl X x) (hm : X.mg x = none) (hv : bootBuiltins x = some (.builtin id)) (ha : MA X E (e :: es) tas ms) (hn : x ≠ "__name__" := by decide) (hdb : (x == ("__debug__" : Str)) = false := by decide)
    (he : starEach (e :: es) X.env = (false, eval e X.env) :: starEach es X.env := by rfl) (hpl : (backTo pos (starEach es X.env)).any (·.1) = false := by rfl) : ME X E (.Call (.Name x p) (e :: es) [] pos) (tCB r tas) (fun ρ => cbf f (ms ρ)) := by
  obtain ⟨pt, st⟩ := ha
  refine ⟨pe_callB hc hg hm hv pt hn hdb he hpl, fun σ I H ρ Q re ex h => ?_⟩
  refine st.run re ex h fun ds vs I1 H1 _ st rx h => ?_
  obtain ⟨z, hz, h⟩ := out_calm h
  exact hs vs I1 H1 ds z Q st.e rx hz h
theorem me_callTy {T : String} {r : List V → Hp → VK → Prop} {f : List D → R D} (hc : CallR X (.type T) r) (hs : CSn X.K (gm X E) r f) (hg : Gl X x) (hm : X.mg x = none) (hv : bootBuiltins x = some (.type T)) (ha : MA X E (e :: es) tas ms) (hn : x ≠ "__name__" := by decide) (hdb : (x == ("__debug__" : Str)) = false := by decide)
    (he : starEach (e :: es) X.env = (false, eval e X.env) :: starEach es X.env := by rfl) (hpl : (backTo pos (starEach es X.env)).any (·.1) = false := by rfl) : ME X E (.Call (.Name x p) (e :: es) [] pos) (tCB r tas) (fun ρ => cbf f (ms ρ)) := by
  obtain ⟨pt, st⟩ := ha
  refine ⟨pe_callTy hc hg hm hv pt hn hdb he hpl, fun σ I H ρ Q re ex h => ?_⟩
  refine st.run re ex h fun ds vs I1 H1 _ st rx h => ?_
  obtain ⟨z, hz, h⟩ := out_calm h
  exact hs vs I1 H1 ds z Q st.e rx hz h

/-! ### calls of one's own -/
/-- what a def promises: f of the arguments' data -/
def spOf (K : PySem.W.Frag) (mg : Gm) (n : Nat) (f : List D → R D) : Sp := fun vs H Q E => ∃ I ds, ds.length = n ∧ Same I H ∧ Reps K mg I vs ds ∧ Out K mg E (Rep K mg) I H (f ds) Q
theorem spOf.len {E : XK} {n : Nat} {f : List D → R D} {vs : List V} {Q : VK} (h : spOf K mg n f vs H Q E) : vs.length = n := by
  obtain ⟨I, ds, hl, _, r, _⟩ := h
  exact r.len.trans hl
theorem me_call {CX : CXT} {k n : Nat} {f : Addr} {fd : FuncData} {ps : List Str} {g : List D → R D} (F : FnOk X.prog X.w X.K X.mg X.base CX k f fd ps (spOf X.K (g0 X.mg) n g)) (hr : Room k X.A) (hg : Gl X x) (hm : X.mg x = some (.ref f)) (hk : PySem.W.keepIn X.K (.ref f) = true) (hb : Binds X.K fd ps []) (hx : ∀ σ, PassesAt CX X σ (E.e σ)) (h0 : E.x = fun _ => none)
    (ha : MA X E (e :: es) tas ms) (hdb : (x == ("__debug__" : Str)) = false := by decide) (he : starEach (e :: es) X.env = (false, eval e X.env) :: starEach es X.env := by rfl) (hpl : (backTo pos (starEach es X.env)).any (·.1) = false := by rfl) :
    ME X E (.Call (.Name x p) (e :: es) [] pos) (tCallS (spOf X.K (g0 X.mg) n g) E.e tas) (fun ρ => call_ n g (ms ρ)) := by
  obtain ⟨E1, E2⟩ := E
  have h0 : E2 = fun _ => none := h0
  subst h0
  obtain ⟨pt, st⟩ := ha
  refine ⟨pe_callS F hr hg hm hk hb hx pt hdb he hpl, fun σ I H ρ Q re ex h => ?_⟩
  refine st.run re ex h fun ds vs I1 H1 _ st rx h => ?_
  obtain ⟨hl, h⟩ := out_if h
  exact ⟨I1, ds, hl, st.e, rx, h⟩

/-! ### slices -/
theorem mo_none : MO X E none tNoPart (fun _ => .ok none) := ⟨po_none, fun σ I H ρ Q re ex h => h.here ex rfl⟩
theorem mo_some (h : ME X E e t m) : MO X E (some e) (tPart t) (fun ρ => toI (m ρ)) := by
  obtain ⟨pt, st⟩ := h
  refine ⟨po_some pt, fun σ I H ρ Q re ex h => ?_⟩
  refine st.run re ex h fun d v I1 H1 _ st rx h => ?_
  cases rx with
  | int i => exact ⟨i, rfl, h.here st.e rfl⟩
  | _ => exact h.elim
def SSn (K : PySem.W.Frag) (mg : Gm) (r : V → Option Int → Option Int → Hp → VK → Prop) (f : D → Option Int → Option Int → R D) : Prop :=
  ∀ (x : V) (lo hi : Option Int) (I H : Hp) (dx d : D) (Q : VK), Same I H → Rep K mg I x dx → f dx lo hi = .ok d → (∀ v I' H', Stp I H I' H' → Rep K mg I' v d → Q v H') → r x lo hi H Q
theorem me_slice {lo hi : Option Expr} {p2 : Pos} {r : V → Option Int → Option Int → Hp → VK → Prop} {f : D → Option Int → Option Int → R D} {ml mh : Env → R (Option Int)} (hr : SlR X r) (hs : SSn X.K (gm X E) r f) (ha : ME X E a ta ma) (hl : MO X E lo tl ml) (hh : MO X E hi th mh) :
    ME X E (.Subscript a (.Slice lo hi none p2) pos) (tSl r ta tl th) (fun ρ => o3 f (ma ρ) (ml ρ) (mh ρ)) := by
  obtain ⟨pt, st⟩ := ha
  obtain ⟨pl, sl⟩ := hl
  obtain ⟨ph, sh⟩ := hh
  refine ⟨pe_slice hr pt pl ph, fun σ I H ρ Q re ex h => ?_⟩
  refine st.run re ex h fun d v I1 H1 _ s1 rx h => ?_
  refine sl.run (re.mono s1.i) s1.e h fun l l' I2 H2 _ s2 e1 h => ?_
  cases e1
  refine sh.run ((re.mono s1.i).mono s2.i) s2.e h fun u u' I3 H3 _ s3 e2 h => ?_
  cases e2
  obtain ⟨z, hz, h⟩ := out_calm h
  exact hs v _ _ I3 H3 d z Q s3.e ((rx.mono s2.i).mono s3.i) hz h
end
end DL
namespace DL
open PySem PySem.Spec L2

/-! ### data as the library's data, for == -/
mutual
def D.py : D → PyData
  | .non => .none
  | .bl b => .bool b
  | .int i => .int i
  | .str x => .str x
  | .lst ds => .list (D.pys ds)
  | .tup ds => .tuple (D.pys ds)
  | .scr _ => .none
  | .rng _ _ => .none
  | .ty _ => .none
  | .cls _ => .none
  | .obj _ _ _ => .none
  | .dk _ _ => .none
  | .dt _ _ => .none
  | .exc _ _ _ => .none
def D.pys : List D → List PyData
  | [] => []
  | d :: ds => D.py d :: D.pys ds
end
/-- of at most that depth, no script in it, short texts -/
def D.fine : Nat → D → Bool
  | _, .non => true
  | _, .bl _ => true
  | _, .int _ => true
  | _, .str x => PyData.canLay0 (.str x)
  | 0, .lst ds => ds.isEmpty
  | 0, .tup ds => ds.isEmpty
  | n + 1, .lst ds => ds.all (D.fine n)
  | n + 1, .tup ds => ds.all (D.fine n)
  | _, .scr _ => false
  | _, .rng _ _ => false
  | _, .ty _ => false
  | _, .cls _ => false
  | _, .obj _ _ _ => false
  | _, .dk _ _ => false
  | _, .dt _ _ => false
  | _, .exc _ _ _ => false
mutual
theorem D.fine_lay : ∀ (n : Nat) (d : D), d.fine n = true → PyData.canLay0 d.py = true ∧ PyData.depth d.py ≤ n + 1
  | n, .non, _ => ⟨rfl, Nat.zero_le _⟩
  | n, .bl _, _ => ⟨rfl, Nat.zero_le _⟩
  | n, .int _, _ => ⟨rfl, Nat.zero_le _⟩
  | n, .str x, h => ⟨by
      have h : PyData.canLay0 (.str x) = true := by cases n <;> exact h
      exact h, Nat.zero_le _⟩
  | 0, .lst [], h => ⟨rfl, Nat.le_refl _⟩
  | 0, .lst (_ :: _), h => nomatch h
  | 0, .tup [], h => ⟨rfl, Nat.le_refl _⟩
  | 0, .tup (_ :: _), h => nomatch h
  | n + 1, .lst ds, h => by
    obtain ⟨a, b⟩ := D.fine_lays n ds h
    exact ⟨a, Nat.succ_le_succ b⟩
  | n + 1, .tup ds, h => by
    obtain ⟨a, b⟩ := D.fine_lays n ds h
    exact ⟨a, Nat.succ_le_succ b⟩
  | n, .scr _, h => by cases n <;> cases h
  | n, .rng _ _, h => by cases n <;> cases h
  | n, .ty _, h => by cases n <;> cases h
  | n, .cls _, h => by cases n <;> cases h
  | n, .obj _ _ _, h => by cases n <;> cases h
  | n, .dk _ _, h => by cases n <;> cases h
  | n, .dt _ _, h => by cases n <;> cases h
  | n, .exc _ _ _, h => by cases n <;> cases h
theorem D.fine_lays : ∀ (n : Nat) (ds : List D), ds.all (D.fine n) = true → PyData.canLayAll0 (D.pys ds) = true ∧ PyData.depthAll (D.pys ds) ≤ n + 1
  | n, [], _ => ⟨rfl, Nat.zero_le _⟩
  | n, d :: ds, h => by
    rw [List.all_cons, Bool.and_eq_true] at h
    obtain ⟨a, b⟩ := D.fine_lay n d h.1
    obtain ⟨a', b'⟩ := D.fine_lays n ds h.2
    refine ⟨?_, ?_⟩
    · show (PyData.canLay0 d.py && PyData.canLayAll0 (D.pys ds)) = true
      rw [a, a']
      rfl
    · show max (PyData.depth d.py) (PyData.depthAll (D.pys ds)) ≤ n + 1
      exact Nat.max_le.mpr ⟨b, b'⟩
end
theorem D.fine_shaped {d : D} (h : d.fine 60 = true) : SeqAt.shaped d.py = true := by
  obtain ⟨a, b⟩ := D.fine_lay 60 d h
  show (PyData.canLay0 d.py && decide (PyData.depth d.py ≤ 64)) = true
  rw [a, decide_eq_true (show PyData.depth d.py ≤ 64 by omega)]
  rfl
mutual
theorem Rep.dp {K : PySem.W.Frag} {mg : Gm} {H : Hp} : ∀ (n : Nat) {v : V} {d : D}, Rep K mg H v d → d.fine n = true → Dp K H v d.py
  | _, _, _, .non, _ => .non
  | _, _, _, .bl b, _ => .bl b
  | _, _, _, .int i, _ => .int i
  | _, _, _, .str x, _ => .str x
  | 0, _, .lst [], .lst h r, _ => .lst (SqL.of h) (by cases r; exact .nil)
  | 0, _, .lst (_ :: _), .lst h r, q => nomatch q
  | 0, _, .tup [], .tup h r, _ => .tup (SqT.of h) (by cases r; exact .nil)
  | 0, _, .tup (_ :: _), .tup h r, q => nomatch q
  | n + 1, _, .lst _, .lst h r, q => .lst (SqL.of h) (Reps.dp n r q)
  | n + 1, _, .tup _, .tup h r, q => .tup (SqT.of h) (Reps.dp n r q)
  | n, _, _, .scr h, q => by cases n <;> cases q
  | n, _, _, .rng h, q => by cases n <;> cases q
  | n, _, _, .ty _, q => by cases n <;> cases q
  | n, _, _, .cls _, q => by cases n <;> cases q
  | n, _, _, .obj _ _ _, q => by cases n <;> cases q
  | n, _, _, .dk _ _, q => by cases n <;> cases q
  | n, _, _, .dt _ _, q => by cases n <;> cases q
  | n, _, _, .exc _ _ _ _, q => by cases n <;> cases q
theorem Reps.dp {K : PySem.W.Frag} {mg : Gm} {H : Hp} : ∀ (n : Nat) {vs : List V} {ds : List D}, Reps K mg H vs ds → ds.all (D.fine n) = true → DpAll K H vs (D.pys ds)
  | _, _, _, .nil, _ => .nil
  | n, _, d :: ds, .cons a r, q => by
    rw [List.all_cons, Bool.and_eq_true] at q
    exact .cons (Rep.dp n a q.1) (Reps.dp n r q.2)
end

/-! ### operators -/
theorem OpR.or {X : Cx} {f : Value → Value → Sem Value} {r r' : R2} (h : OpR X f r) (h' : OpR X f r') : OpR X f (fun x y H Q => r x y H Q ∨ r' x y H Q) := by
  intro pins s σ H x y v u Q I rx ry q
  rcases q with q | q
  · exact h pins s σ H x y v u Q I rx ry q
  · exact h' pins s σ H x y v u Q I rx ry q
def gd (c : Prop) [Decidable c] (d : D) : R D := if c then .ok d else .stuck
theorem gd_of {c : Prop} [Decidable c] {d e : D} (h : gd c d = .ok e) : c ∧ d = e := by
  unfold gd at h
  by_cases hc : c
  · rw [if_pos hc] at h
    cases h
    exact ⟨hc, rfl⟩
  · rw [if_neg hc] at h
    cases h
theorem gd_ok {c : Prop} [Decidable c] {d : D} (h : c) : gd c d = .ok d := if_pos h

def addD : D → D → R D
  | .int i, .int j => .ok (.int (i + j))
  | .str x, .str y => gd (x.length + y.length ≤ LIM) (.str (x ++ y))
  | .lst xs, .lst ys => gd (xs.length + ys.length ≤ LIM) (.lst (xs ++ ys))
  | .tup xs, .tup ys => gd (xs.length + ys.length ≤ LIM) (.tup (xs ++ ys))
  | _, _ => .stuck
def rAddX (K : PySem.W.Frag) : R2 := fun x y H Q => rI0 (fun i j => .int (i + j)) x y H Q ∨ (rCat x y H Q ∨ (rCatA K x y H Q ∨ (∃ i j, x = .str i ∧ y = .str j ∧ i.length + j.length ≤ sizeLine ∧ Q (.str (i ++ j)) H)))
theorem op_addX {X : Cx} : OpR X (binaryOp .Add) (rAddX X.K) := OpR.or op_add (OpR.or op_cat (OpR.or op_catA op_add_str))
theorem rs_add {K : PySem.W.Frag} {mg : Gm} : RSn K mg (rAddX K) addD := by
  intro x y I H dx dy d Q ex rx ry h q
  cases rx with
  | int i =>
    cases ry with
    | int j =>
      cases h
      exact .inl ⟨i, j, rfl, rfl, q _ _ _ (.refl ex) (.int _)⟩
    | _ => cases h
  | str i =>
    cases ry with
    | str j =>
      obtain ⟨hl, rfl⟩ := gd_of h
      exact .inr (.inr (.inr ⟨i, j, rfl, rfl, lim_ok hl, q _ _ _ (.refl ex) (.str _)⟩))
    | _ => cases h
  | @lst a vs ds ha ra =>
    cases ry with
    | @lst b ws es hb rb =>
      obtain ⟨hl, rfl⟩ := gd_of h
      refine .inr (.inl ⟨a, b, vs, ws, rfl, rfl, ex _ _ ha, ex _ _ hb, lim_ok (by rw [ra.len, rb.len]; exact hl), fun p hp => q _ _ _ (.new ex hp) (new_lst ex hp (ra.app rb))⟩)
    | _ => cases h
  | @tup a vs ds ha ra =>
    cases ry with
    | @tup b ws es hb rb =>
      obtain ⟨hl, rfl⟩ := gd_of h
      refine .inr (.inr (.inl ⟨a, b, vs, ws, rfl, rfl, SqT.of (ex _ _ ha), SqT.of (ex _ _ hb), lim_ok (by rw [ra.len, rb.len]; exact hl), fun e => ?_, fun _ e => ?_, fun _ _ p hp => q _ _ _ (.new ex hp) (new_tup ex hp (ra.app rb))⟩))
      · subst e
        cases ra
        exact q _ _ _ (.refl ex) (.tup hb rb)
      · subst e
        cases rb
        rw [List.append_nil] at q
        exact q _ _ _ (.refl ex) (.tup ha ra)
    | _ => cases h
  | _ => cases h
def subD : D → D → R D
  | .int i, .int j => .ok (.int (i - j))
  | _, _ => .stuck
/-- a number or a list as the left one; one factor small -/
def mulD : D → D → R D
  | .int i, .int j => gd ((-(2 ^ 64) < i ∧ i < 2 ^ 64) ∨ (-(2 ^ 64) < j ∧ j < 2 ^ 64)) (.int (i * j))
  | .lst xs, .int k => gd (0 ≤ k ∧ k ≤ LIM ∧ xs.length * k.toNat ≤ LIM) (.lst (List.replicate k.toNat xs).flatten)
  | _, _ => .stuck
def modD : D → D → R D
  | .int i, .int j => gd (0 < j) (.int (i % j))
  | _, _ => .stuck
def fdivD : D → D → R D
  | .int i, .int j => gd (0 < j ∧ j < 1073741824) (.int (i / j))
  | _, _ => .stuck
def powD : D → D → R D
  | .int i, .int j => gd (0 ≤ j ∧ j ≤ 1000000 ∧ i.natAbs < 2 ^ 64) (.int (i ^ j.toNat))
  | _, _ => .stuck
def negD : D → R D
  | .int i => .ok (.int (-i))
  | _ => .stuck
theorem rs_I0 {K : PySem.W.Frag} {mg : Gm} {g : Int → Int → V} {gd' : Int → Int → D} {f : D → D → R D} (hg : ∀ I i j, Rep K mg I (g i j) (gd' i j)) (hf : ∀ i j, f (.int i) (.int j) = .ok (gd' i j)) (hn : ∀ dx dy d, f dx dy = .ok d → ∃ i j, dx = .int i ∧ dy = .int j) : RSn K mg (rI0 g) f := by
  intro x y I H dx dy d Q ex rx ry h q
  obtain ⟨i, j, rfl, rfl⟩ := hn _ _ _ h
  cases rx
  cases ry
  rw [hf] at h
  cases h
  exact ⟨i, j, rfl, rfl, q _ _ _ (.refl ex) (hg _ _ _)⟩
theorem rs_I {K : PySem.W.Frag} {mg : Gm} {C : Int → Int → Prop} {g : Int → Int → V} {gd' : Int → Int → D} {f : D → D → R D} (hg : ∀ I i j, Rep K mg I (g i j) (gd' i j)) (hf : ∀ i j d, f (.int i) (.int j) = .ok d → C i j ∧ d = gd' i j) (hn : ∀ dx dy d, f dx dy = .ok d → ∃ i j, dx = .int i ∧ dy = .int j) : RSn K mg (rI C g) f := by
  intro x y I H dx dy d Q ex rx ry h q
  obtain ⟨i, j, rfl, rfl⟩ := hn _ _ _ h
  cases rx
  cases ry
  obtain ⟨hc, rfl⟩ := hf _ _ _ h
  exact ⟨i, j, rfl, rfl, hc, q _ _ _ (.refl ex) (hg _ _ _)⟩
theorem rs_sub {K : PySem.W.Frag} {mg : Gm} : RSn K mg (rI0 fun i j => .int (i - j)) subD := rs_I0 (gd' := fun i j => .int (i - j)) (fun _ _ _ => .int _) (fun _ _ => rfl) fun dx dy d h => by
  cases dx <;> cases dy <;> first | exact ⟨_, _, rfl, rfl⟩ | cases h
def rMulX : R2 := fun x y H Q => rI CMul (fun i j => .int (i * j)) x y H Q ∨ rRep x y H Q
theorem op_mulX {X : Cx} : OpR X (binaryOp .Mult) rMulX := OpR.or op_mul op_rep
theorem Reps.rep {K : PySem.W.Frag} {mg : Gm} {I : Hp} {vs : List V} {ds : List D} (r : Reps K mg I vs ds) : ∀ n : Nat, Reps K mg I (List.replicate n vs).flatten (List.replicate n ds).flatten
  | 0 => .nil
  | n + 1 => by
    rw [List.replicate_succ, List.replicate_succ, List.flatten_cons, List.flatten_cons]
    exact r.app (Reps.rep r n)
theorem rs_mul {K : PySem.W.Frag} {mg : Gm} : RSn K mg rMulX mulD := by
  intro x y I H dx dy d Q ex rx ry h q
  cases rx with
  | int i =>
    cases ry with
    | int j =>
      obtain ⟨hl, rfl⟩ := gd_of h
      exact .inl ⟨i, j, rfl, rfl, hl, q _ _ _ (.refl ex) (.int _)⟩
    | _ => cases h
  | @lst a vs ds ha ra =>
    cases ry with
    | int k =>
      obtain ⟨⟨h0, h1, h2⟩, rfl⟩ := gd_of h
      have h1 : k ≤ 1000000 := h1
      exact .inr ⟨a, k, vs, rfl, rfl, ex _ _ ha, by omega, by omega, lim_ok (by rw [ra.len]; exact h2), fun p hp => q _ _ _ (.new ex hp) (new_lst ex hp (ra.rep _))⟩
    | _ => cases h
  | _ => cases h
theorem rs_mod {K : PySem.W.Frag} {mg : Gm} : RSn K mg (rI (fun _ j => 0 < j) fun i j => .int (i % j)) modD := rs_I (gd' := fun i j => .int (i % j)) (fun _ _ _ => .int _) (fun i j d h => (gd_of h).imp id Eq.symm) fun dx dy d h => by
  cases dx <;> cases dy <;> first | exact ⟨_, _, rfl, rfl⟩ | cases h
theorem rs_fdiv {K : PySem.W.Frag} {mg : Gm} : RSn K mg (rI CDiv fun i j => .int (i / j)) fdivD := rs_I (gd' := fun i j => .int (i / j)) (fun _ _ _ => .int _) (fun i j d h => (gd_of h).imp id Eq.symm) fun dx dy d h => by
  cases dx <;> cases dy <;> first | exact ⟨_, _, rfl, rfl⟩ | cases h
theorem rs_pow {K : PySem.W.Frag} {mg : Gm} : RSn K mg (rI CPow fun i j => .int (i ^ j.toNat)) powD := rs_I (gd' := fun i j => .int (i ^ j.toNat)) (fun _ _ _ => .int _) (fun i j d h => (gd_of h).imp id Eq.symm) fun dx dy d h => by
  cases dx <;> cases dy <;> first | exact ⟨_, _, rfl, rfl⟩ | cases h
theorem us_neg {K : PySem.W.Frag} {mg : Gm} : USn K mg (rU fun i => .int (-i)) negD := by
  intro x I H dx d Q ex rx h q
  cases rx with
  | int i =>
    cases h
    exact ⟨i, rfl, q _ _ _ (.refl ex) (.int _)⟩
  | _ => cases h

/-! ### comparisons -/
def lexI : List Int → List Int → Bool := HT.lexLt
def intsOf : List D → Option (List Int)
  | [] => some []
  | .int i :: ds => (intsOf ds).map (i :: ·)
  | _ :: _ => none
theorem intsOf_map (ns : List Int) : intsOf (ns.map D.int) = some ns := by
  induction ns with
  | nil => rfl
  | cons n ns ih => rw [List.map_cons, intsOf, ih]; rfl
theorem reps_ints {K : PySem.W.Frag} {mg : Gm} {I : Hp} : ∀ {vs : List V} {ds : List D} {ns : List Int}, Reps K mg I vs ds → intsOf ds = some ns → vs = ns.map V.int ∧ ds = ns.map D.int
  | _, _, ns, .nil, h => by
    cases h
    exact ⟨rfl, rfl⟩
  | _, _, ns, .cons (d := d) (ds := ds) a r, h => by
    cases a with
    | int i =>
      cases e : intsOf ds with
      | none =>
        rw [intsOf, e] at h
        cases h
      | some ms =>
        rw [intsOf, e] at h
        cases h
        obtain ⟨a, b⟩ := reps_ints r e
        rw [a, b]
        exact ⟨rfl, rfl⟩
    | _ => cases h
def ltD : D → D → R D
  | .int i, .int j => .ok (.bl (decide (i < j)))
  | .tup xs, .tup ys => match intsOf xs, intsOf ys with
    | some ns, some ms => .ok (.bl (HT.lexLt ns ms))
    | _, _ => .stuck
  | _, _ => .stuck
def leD : D → D → R D
  | .int i, .int j => .ok (.bl (decide (i ≤ j)))
  | _, _ => .stuck
def gtD : D → D → R D
  | .int i, .int j => .ok (.bl (decide (j < i)))
  | _, _ => .stuck
def geD : D → D → R D
  | .int i, .int j => .ok (.bl (decide (j ≤ i)))
  | _, _ => .stuck
theorem rs_le {K : PySem.W.Frag} {mg : Gm} : RSn K mg (rI0 fun i j => .bl (decide (i ≤ j))) leD := rs_I0 (gd' := fun i j => .bl (decide (i ≤ j))) (fun _ _ _ => .bl _) (fun _ _ => rfl) fun dx dy d h => by
  cases dx <;> cases dy <;> first | exact ⟨_, _, rfl, rfl⟩ | cases h
theorem rs_gt {K : PySem.W.Frag} {mg : Gm} : RSn K mg (rI0 fun i j => .bl (decide (j < i))) gtD := rs_I0 (gd' := fun i j => .bl (decide (j < i))) (fun _ _ _ => .bl _) (fun _ _ => rfl) fun dx dy d h => by
  cases dx <;> cases dy <;> first | exact ⟨_, _, rfl, rfl⟩ | cases h
theorem rs_ge {K : PySem.W.Frag} {mg : Gm} : RSn K mg (rI0 fun i j => .bl (decide (j ≤ i))) geD := rs_I0 (gd' := fun i j => .bl (decide (j ≤ i))) (fun _ _ _ => .bl _) (fun _ _ => rfl) fun dx dy d h => by
  cases dx <;> cases dy <;> first | exact ⟨_, _, rfl, rfl⟩ | cases h
def rLtX (K : PySem.W.Frag) : R2 := fun x y H Q => rI0 (fun i j => .bl (decide (i < j))) x y H Q ∨ rLtT K x y H Q
theorem op_ltX {X : Cx} {k : Nat} (hr : Room k X.A) : OpR X (compareOp .Lt) (rLtX X.K) := OpR.or op_lt (op_ltT hr.units0)
theorem rs_lt {K : PySem.W.Frag} {mg : Gm} : RSn K mg (rLtX K) ltD := by
  intro x y I H dx dy d Q ex rx ry h q
  cases rx with
  | int i =>
    cases ry with
    | int j =>
      cases h
      exact .inl ⟨i, j, rfl, rfl, q _ _ _ (.refl ex) (.bl _)⟩
    | _ => cases h
  | @tup a vs ds ha ra =>
    cases ry with
    | @tup b ws es hb rb =>
      have h : (match intsOf ds, intsOf es with | some ns, some ms => R.ok (.bl (HT.lexLt ns ms)) | _, _ => .stuck) = R.ok d := h
      cases e1 : intsOf ds with
      | none =>
        rw [e1] at h
        cases h
      | some ns =>
        cases e2 : intsOf es with
        | none =>
          rw [e1, e2] at h
          cases h
        | some ms =>
          rw [e1, e2] at h
          cases h
          obtain ⟨rfl, _⟩ := reps_ints ra e1
          obtain ⟨rfl, _⟩ := reps_ints rb e2
          exact .inr ⟨a, b, ns, ms, rfl, rfl, SqT.of (ex _ _ ha), SqT.of (ex _ _ hb), q _ _ _ (.refl ex) (.bl _)⟩
    | _ => cases h
  | _ => cases h
def eqD : D → D → R D
  | .int i, .int j => .ok (.bl (decide (i = j)))
  | .non, .non => .ok (.bl true)
  | d, e => gd (d.fine 60 = true ∧ e.fine 60 = true) (.bl (PyData.eqv d.py e.py))
def notD : R D → R D
  | .ok (.bl b) => .ok (.bl !b)
  | _ => .stuck
def neD (d e : D) : R D := notD (eqD d e)
theorem eqD_of {d e r : D} (h : eqD d e = .ok r) : d.fine 60 = true ∧ e.fine 60 = true ∧ r = .bl (PyData.eqv d.py e.py) := by
  unfold eqD at h
  split at h
  · cases h
    refine ⟨rfl, rfl, ?_⟩
    congr 1
  · cases h
    exact ⟨rfl, rfl, rfl⟩
  · obtain ⟨⟨a, b⟩, c⟩ := gd_of h
    exact ⟨a, b, c.symm⟩
theorem rs_eq {K : PySem.W.Frag} {mg : Gm} : RSn K mg (rEqD K) eqD := by
  intro x y I H dx dy d Q ex rx ry h q
  obtain ⟨a, b, rfl⟩ := eqD_of h
  exact ⟨_, _, (rx.mono ex).dp _ a, (ry.mono ex).dp _ b, D.fine_shaped a, D.fine_shaped b, q _ _ _ (.refl ex) (.bl _)⟩
theorem rs_ne {K : PySem.W.Frag} {mg : Gm} : RSn K mg (rNeD K) neD := by
  intro x y I H dx dy d Q ex rx ry h q
  unfold neD at h
  cases e : eqD dx dy with
  | ok r =>
    obtain ⟨a, b, rfl⟩ := eqD_of e
    rw [e] at h
    cases h
    exact ⟨_, _, (rx.mono ex).dp _ a, (ry.mono ex).dp _ b, D.fine_shaped a, D.fine_shaped b, q _ _ _ (.refl ex) (.bl _)⟩
  | err _ _ =>
    rw [e] at h
    cases h
  | stuck =>
    rw [e] at h
    cases h
end DL
namespace DL
open PySem PySem.Spec L2

/-! ### in -/
theorem cr_range1 {X : Cx} : CallR X (.type "range") (fun vs H Q => ∃ j, vs = [V.int j] ∧ ∀ p, H p = none → Q (.ref p) (upd H p (.rng 0 j))) := by
  intro pins s σ H vs us Q I r h
  obtain ⟨j, rfl, q⟩ := h
  obtain ⟨u1, rfl, rj⟩ := vals1 r
  obtain ⟨u, rfl⟩ := rj
  refine PySem.call_range_1 ⟨.ref s.heap.objs.size, upd H s.heap.objs.size (.rng 0 j), I.laid (t' := s.toks + 2) (fun b o e => Heap.get?_push_of_some _ e) (Nat.le_refl _) ?_, rfl, q _ (I.hok.fresh (Nat.le_refl _))⟩
  exact ⟨_, _, _, Heap.get?_push_size _ rfl⟩
theorem op_notIn_rng {X : Cx} : OpR X (compareOp .NotIn) (fun x y H Q => ∃ i a lo hi, x = V.int i ∧ y = V.ref a ∧ H a = some (.rng lo hi) ∧ Q (.bl (!decide (lo ≤ i ∧ i < hi))) H) := by
  intro pins s σ H x y v u Q I rx ry h
  obtain ⟨i, a, lo, hi, rfl, rfl, ha, q⟩ := h
  obtain ⟨k, rfl⟩ := rx
  obtain rfl : u = Value.ref a := ry
  obtain ⟨t1, t2, t3, ho⟩ := I.hok a _ ha
  show wpAny _ _ (do return Value.bool (!(← contains (Value.ref a) (Value.int i k)))) _ _ s
  refine wpAny_bind (wpAny_contains_slot (T := "range") ⟨_, ho, rfl⟩ F.slot_range_contains (call_meets F.slot_range_contains ⟨_, ho, rfl⟩ F.entry_range_contains (F.args_range_contains_2 _ _) (q_contains a lo hi i t1 t2 t3 k)
    ⟨ho, wpAny_truthy_bool (wpAny_pure ⟨.bl _, H, I, rfl, ?_⟩)⟩))
  rw [place1]
  exact q
def D.flat : D → Bool
  | .non => true
  | .bl _ => true
  | .int _ => true
  | .str _ => true
  | _ => false
def eqF : D → D → Bool
  | .non, .non => true
  | .bl a, .bl b => a == b
  | .bl a, .int b => (if a then 1 else 0) == b
  | .int a, .bl b => a == (if b then 1 else 0)
  | .int a, .int b => a == b
  | .str a, .str b => a == b
  | _, _ => false
def inB (x : D) (ds : List D) : Bool := ds.any fun y => eqF y x
def inD : D → D → R D
  | x, .lst ds => gd (x.flat = true ∧ ds.all D.flat = true) (.bl (inB x ds))
  | x, .tup ds => gd (x.flat = true ∧ ds.all D.flat = true) (.bl (inB x ds))
  | .int i, .rng lo hi => .ok (.bl (decide (lo ≤ i ∧ i < hi)))
  | _, _ => .stuck
def notInD (x y : D) : R D := notD (inD x y)
theorem Rep.flat {K : PySem.W.Frag} {mg : Gm} {I : Hp} {v : V} {d : D} (r : Rep K mg I v d) (h : d.flat = true) : flatV v = true := by
  cases r <;> first | rfl | cases h
theorem Rep.eqF {K : PySem.W.Frag} {mg : Gm} {I : Hp} {v w : V} {d e : D} (r : Rep K mg I v d) (q : Rep K mg I w e) (h : d.flat = true) (h2 : e.flat = true) : eqV v w = eqF d e := by
  cases r <;> cases q <;> first | rfl | cases h | cases h2
theorem Reps.flat {K : PySem.W.Frag} {mg : Gm} {I : Hp} : ∀ {vs : List V} {ds : List D}, Reps K mg I vs ds → ds.all D.flat = true → vs.all flatV = true
  | _, _, .nil, _ => rfl
  | _, _, .cons a r, h => by
    rw [List.all_cons, Bool.and_eq_true] at h
    rw [List.all_cons, a.flat h.1, Reps.flat r h.2]
    rfl
theorem Reps.inB {K : PySem.W.Frag} {mg : Gm} {I : Hp} {x : V} {d : D} (rx : Rep K mg I x d) (hx : d.flat = true) : ∀ {vs : List V} {ds : List D}, Reps K mg I vs ds → ds.all D.flat = true → inV x vs = inB d ds
  | _, _, .nil, _ => rfl
  | _, _, .cons (v := v) (vs := vs) (d := e) (ds := ds) a r, h => by
    rw [List.all_cons, Bool.and_eq_true] at h
    have ih := Reps.inB rx hx r h.2
    show (eqV v x || vs.any fun y => eqV y x) = (DL.eqF e d || ds.any fun y => DL.eqF y d)
    rw [a.eqF rx h.1 hx]
    exact congrArg _ ih
def rInX (K : PySem.W.Frag) : R2 := fun x y H Q => rIn K false x y H Q ∨ (∃ i a lo hi, x = V.int i ∧ y = V.ref a ∧ H a = some (.rng lo hi) ∧ Q (.bl (decide (lo ≤ i ∧ i < hi))) H)
def rNinX (K : PySem.W.Frag) : R2 := fun x y H Q => rIn K true x y H Q ∨ (∃ i a lo hi, x = V.int i ∧ y = V.ref a ∧ H a = some (.rng lo hi) ∧ Q (.bl (!decide (lo ≤ i ∧ i < hi))) H)
theorem op_inX {X : Cx} : OpR X (compareOp .In) (rInX X.K) := OpR.or op_in_seq op_in_rng
theorem op_ninX {X : Cx} : OpR X (compareOp .NotIn) (rNinX X.K) := OpR.or op_notIn_seq op_notIn_rng
theorem in_cases {x y d : D} (h : inD x y = .ok d) : (∃ ds, (y = .lst ds ∨ y = .tup ds) ∧ x.flat = true ∧ ds.all D.flat = true ∧ d = .bl (inB x ds)) ∨ (∃ i lo hi, x = .int i ∧ y = .rng lo hi ∧ d = .bl (decide (lo ≤ i ∧ i < hi))) := by
  unfold inD at h
  split at h
  · obtain ⟨⟨a, b⟩, rfl⟩ := gd_of h
    exact .inl ⟨_, .inl rfl, a, b, rfl⟩
  · obtain ⟨⟨a, b⟩, rfl⟩ := gd_of h
    exact .inl ⟨_, .inr rfl, a, b, rfl⟩
  · cases h
    exact .inr ⟨_, _, _, rfl, rfl, rfl⟩
  · cases h
theorem in_seq {K : PySem.W.Frag} {mg : Gm} {I H : Hp} {x y : V} {dx dy : D} {ds : List D} (ex : Same I H) (rx : Rep K mg I x dx) (ry : Rep K mg I y dy) (e : dy = .lst ds ∨ dy = .tup ds) (a : dx.flat = true) (b : ds.all D.flat = true) :
    ∃ p xs, y = .ref p ∧ (SqL K H p xs ∨ SqT K H p xs) ∧ flatV x = true ∧ xs.all flatV = true ∧ inV x xs = inB dx ds := by
  rcases e with e | e
  · subst e
    cases ry with
    | lst h r => exact ⟨_, _, rfl, .inl (SqL.of (ex _ _ h)), rx.flat a, r.flat b, Reps.inB rx a r b⟩
  · subst e
    cases ry with
    | tup h r => exact ⟨_, _, rfl, .inr (SqT.of (ex _ _ h)), rx.flat a, r.flat b, Reps.inB rx a r b⟩
theorem rs_in {K : PySem.W.Frag} {mg : Gm} : RSn K mg (rInX K) inD := by
  intro x y I H dx dy d Q ex rx ry h q
  rcases in_cases h with ⟨ds, e, a, b, rfl⟩ | ⟨i, lo, hi, rfl, rfl, rfl⟩
  · obtain ⟨p, xs, rfl, hs, fx, fa, eb⟩ := in_seq ex rx ry e a b
    refine .inl ⟨p, xs, rfl, hs, fx, fa, ?_⟩
    show Q (.bl (inV x xs)) H
    rw [eb]
    exact q _ _ _ (.refl ex) (.bl _)
  · cases rx
    cases ry with
    | rng hh => exact .inr ⟨_, _, _, _, rfl, rfl, ex _ _ hh, q _ _ _ (.refl ex) (.bl _)⟩
theorem rs_notIn {K : PySem.W.Frag} {mg : Gm} : RSn K mg (rNinX K) notInD := by
  intro x y I H dx dy d Q ex rx ry h q
  unfold notInD at h
  cases hi : inD dx dy with
  | ok r =>
    rw [hi] at h
    rcases in_cases hi with ⟨ds, e, a, b, rfl⟩ | ⟨i, lo, hi, rfl, rfl, rfl⟩
    · cases h
      obtain ⟨p, xs, rfl, hs, fx, fa, eb⟩ := in_seq ex rx ry e a b
      refine .inl ⟨p, xs, rfl, hs, fx, fa, ?_⟩
      show Q (.bl (!inV x xs)) H
      rw [eb]
      exact q _ _ _ (.refl ex) (.bl _)
    · cases h
      cases rx
      cases ry with
      | rng hh => exact .inr ⟨_, _, _, _, rfl, rfl, ex _ _ hh, q _ _ _ (.refl ex) (.bl _)⟩
  | err _ _ =>
    rw [hi] at h
    cases h
  | stuck =>
    rw [hi] at h
    cases h

/-! ### o[i], o[a:b] -/
def ixD : D → D → R D
  | .lst ds, .int i => match atI ds i with
    | some d => .ok d
    | none => .stuck
  | .tup ds, .int i => match atI ds i with
    | some d => .ok d
    | none => .stuck
  | .scr ns, .int i => match atI ns i with
    | some n => .ok (.int n)
    | none => .stuck
  | .str z, .int i => match atI z.cps.toList i with
    | some c => gd (z.length ≤ LIM) (.str ⟨#[c]⟩)
    | none => .stuck
  | _, _ => .stuck
theorem Reps.atI {K : PySem.W.Frag} {mg : Gm} {I : Hp} {vs : List V} {ds : List D} {i : Int} {d : D} (r : Reps K mg I vs ds) (h : atI ds i = some d) : ∃ v, L2.atI vs i = some v ∧ Rep K mg I v d := by
  unfold L2.atI at h ⊢
  rw [r.len]
  cases e : ixN ds.length i with
  | none =>
    rw [e] at h
    cases h
  | some j =>
    rw [e] at h
    obtain ⟨v, hv, rv⟩ := r.get h
    exact ⟨v, hv, rv⟩
theorem rs_ix {K : PySem.W.Frag} {mg : Gm} : RSn K mg (rIx K) ixD := by
  intro x y I H dx dy d Q ex rx ry h q
  cases ry with
  | int i =>
    cases rx with
    | @lst a vs ds ha ra =>
      have h : (match atI ds i with | some d => R.ok d | none => .stuck) = R.ok d := h
      cases e : atI ds i with
      | none =>
        rw [e] at h
        cases h
      | some z =>
        rw [e] at h
        cases h
        obtain ⟨v, hv, rv⟩ := ra.atI e
        exact .inl ⟨_, _, _, v, rfl, rfl, SqL.of (ex _ _ ha), hv, q _ _ _ (.refl ex) rv⟩
    | @tup a vs ds ha ra =>
      have h : (match atI ds i with | some d => R.ok d | none => .stuck) = R.ok d := h
      cases e : atI ds i with
      | none =>
        rw [e] at h
        cases h
      | some z =>
        rw [e] at h
        cases h
        obtain ⟨v, hv, rv⟩ := ra.atI e
        exact .inr (.inl ⟨_, _, _, v, rfl, rfl, SqT.of (ex _ _ ha), hv, q _ _ _ (.refl ex) rv⟩)
    | @scr a ns ha =>
      have h : (match atI ns i with | some n => R.ok (D.int n) | none => .stuck) = R.ok d := h
      cases e : atI ns i with
      | none =>
        rw [e] at h
        cases h
      | some z =>
        rw [e] at h
        cases h
        refine .inl ⟨_, _, _, .int z, rfl, rfl, ex.seq ha, ?_, q _ _ _ (.refl ex) (.int _)⟩
        unfold L2.atI at e ⊢
        rw [List.length_map]
        cases e1 : ixN ns.length i with
        | none =>
          rw [e1] at e
          cases e
        | some j =>
          rw [e1] at e
          have e : ns[j]? = some z := e
          show (ns.map V.int)[j]? = some (V.int z)
          rw [List.getElem?_map, e]
          rfl
    | str z =>
      have h : (match atI z.cps.toList i with | some c => gd (z.length ≤ LIM) (.str ⟨#[c]⟩) | none => .stuck) = R.ok d := h
      cases e : atI z.cps.toList i with
      | none =>
        rw [e] at h
        cases h
      | some c =>
        rw [e] at h
        obtain ⟨hl, rfl⟩ := gd_of h
        exact .inr (.inr ⟨_, _, c, rfl, rfl, lim_ok hl, e, q _ _ _ (.refl ex) (.str _)⟩)
    | _ => cases h
  | _ => cases rx <;> cases h
def cutD (xs : List D) (lo hi : Option Int) : List D := (xs.drop (HT.sIx xs.length 0 lo)).take (HT.sIx xs.length xs.length hi - HT.sIx xs.length 0 lo)
theorem Reps.cut {K : PySem.W.Frag} {mg : Gm} {I : Hp} {vs : List V} {ds : List D} (r : Reps K mg I vs ds) (lo hi : Option Int) : Reps K mg I (cutV vs lo hi) (cutD ds lo hi) := by
  unfold cutV cutD
  rw [r.len]
  exact (r.drop _).take _
def sliceD : D → Option Int → Option Int → R D
  | .lst ds, lo, hi => .ok (.lst (cutD ds lo hi))
  | .tup ds, lo, hi => .ok (.tup (cutD ds lo hi))
  | .str z, lo, hi => gd (z.length ≤ LIM) (.str (cutS z lo hi))
  | _, _, _ => .stuck
def rSlX (K : PySem.W.Frag) : V → Option Int → Option Int → Hp → VK → Prop := fun x lo hi H Q => rSlL K x lo hi H Q ∨ (rSlA K x lo hi H Q ∨ rSlS x lo hi H Q)
theorem sl_X {X : Cx} : SlR X (rSlX X.K) := SlR.or sl_list (SlR.or sl_tupA sl_str)
theorem ss_X {K : PySem.W.Frag} {mg : Gm} : SSn K mg (rSlX K) sliceD := by
  intro x lo hi I H dx d Q ex rx h q
  cases rx with
  | @lst a vs ds ha ra =>
    cases h
    exact .inl ⟨_, _, rfl, SqL.of (ex _ _ ha), fun p hp => q _ _ _ (.new ex hp) (new_lst ex hp (ra.cut lo hi))⟩
  | @tup a vs ds ha ra =>
    cases h
    refine .inr (.inl ⟨_, _, rfl, SqT.of (ex _ _ ha), fun e => ?_, fun _ p hp => q _ _ _ (.new ex hp) (new_tup ex hp (ra.cut lo hi))⟩)
    have ec : cutD ds lo hi = ds := by
      unfold cutD
      rw [← ra.len, e.1, e.2, List.drop_zero, Nat.sub_zero]
      exact List.take_of_length_le (Nat.le_of_eq ra.len.symm)
    rw [ec] at q
    exact q _ _ _ (.refl ex) (.tup ha ra)
  | str z =>
    obtain ⟨hl, rfl⟩ := gd_of h
    exact .inr (.inr ⟨_, rfl, lim_ok hl, q _ _ _ (.refl ex) (.str _)⟩)
  | _ => cases h

/-! ### built-ins -/
def lenD : List D → R D
  | [.lst ds] => .ok (.int ds.length)
  | [.tup ds] => .ok (.int ds.length)
  | [.scr ns] => .ok (.int ns.length)
  | _ => .stuck
def rLenX (K : PySem.W.Frag) : List V → Hp → VK → Prop := fun xs H Q => ∃ p ys, xs = [.ref p] ∧ (SqL K H p ys ∨ SqT K H p ys) ∧ Q (.int ys.length) H
theorem cr_lenX {X : Cx} : CallR X (.builtin "len") (rLenX X.K) := call_len_seq
theorem cs_len {K : PySem.W.Frag} {mg : Gm} : CSn K mg (rLenX K) lenD := by
  intro xs I H ds d Q ex rs h q
  cases rs with
  | nil => cases h
  | cons rx r =>
    cases r with
    | cons _ _ => cases rx <;> cases h
    | nil =>
      cases rx with
      | lst hh ra =>
        cases h
        refine ⟨_, _, rfl, .inl (SqL.of (ex _ _ hh)), ?_⟩
        rw [ra.len]
        exact q _ _ _ (.refl ex) (.int _)
      | tup hh ra =>
        cases h
        refine ⟨_, _, rfl, .inr (SqT.of (ex _ _ hh)), ?_⟩
        rw [ra.len]
        exact q _ _ _ (.refl ex) (.int _)
      | scr hh =>
        cases h
        refine ⟨_, _, rfl, .inl (ex.seq hh), ?_⟩
        rw [List.length_map]
        exact q _ _ _ (.refl ex) (.int _)
      | _ => cases h
def absD : List D → R D
  | [.int i] => .ok (.int (if i < 0 then -i else i))
  | _ => .stuck
theorem reps1 {K : PySem.W.Frag} {mg : Gm} {I : Hp} {xs : List V} {d : D} (r : Reps K mg I xs [d]) : ∃ v, xs = [v] ∧ Rep K mg I v d := by
  cases r with
  | cons a t =>
    cases t
    exact ⟨_, rfl, a⟩
theorem reps2 {K : PySem.W.Frag} {mg : Gm} {I : Hp} {xs : List V} {d e : D} (r : Reps K mg I xs [d, e]) : ∃ v w, xs = [v, w] ∧ Rep K mg I v d ∧ Rep K mg I w e := by
  cases r with
  | cons a t =>
    obtain ⟨w, rfl, b⟩ := reps1 t
    exact ⟨_, _, rfl, a, b⟩
theorem cs_abs {K : PySem.W.Frag} {mg : Gm} : CSn K mg (fun xs H Q => ∃ i, xs = [.int i] ∧ Q (.int (if i < 0 then -i else i)) H) absD := by
  intro xs I H ds d Q ex rs h q
  unfold absD at h
  split at h
  · cases h
    obtain ⟨v, rfl, r⟩ := reps1 rs
    cases r
    exact ⟨_, rfl, q _ _ _ (.refl ex) (.int _)⟩
  · cases h
def intD : List D → R D
  | [.int i] => .ok (.int i)
  | [.bl k] => .ok (.int (if k then 1 else 0))
  | _ => .stuck
theorem cs_int {K : PySem.W.Frag} {mg : Gm} : CSn K mg (fun xs H Q => (∃ i, xs = [.int i] ∧ Q (.int i) H) ∨ ∃ k, xs = [.bl k] ∧ Q (.int (if k then 1 else 0)) H) intD := by
  intro xs I H ds d Q ex rs h q
  unfold intD at h
  split at h
  · cases h
    obtain ⟨v, rfl, r⟩ := reps1 rs
    cases r
    exact .inl ⟨_, rfl, q _ _ _ (.refl ex) (.int _)⟩
  · cases h
    obtain ⟨v, rfl, r⟩ := reps1 rs
    cases r
    exact .inr ⟨_, rfl, q _ _ _ (.refl ex) (.int _)⟩
  · cases h
def max2D : List D → R D
  | [.int i, .int j] => .ok (.int (if j > i then j else i))
  | _ => .stuck
def min2D : List D → R D
  | [.int i, .int j] => .ok (.int (if j < i then j else i))
  | _ => .stuck
theorem cs_max2 {K : PySem.W.Frag} {mg : Gm} : CSn K mg (fun xs H Q => ∃ i j, xs = [.int i, .int j] ∧ Q (.int (if j > i then j else i)) H) max2D := by
  intro xs I H ds d Q ex rs h q
  unfold max2D at h
  split at h
  · cases h
    obtain ⟨v, w, rfl, r, r2⟩ := reps2 rs
    cases r
    cases r2
    exact ⟨_, _, rfl, q _ _ _ (.refl ex) (.int _)⟩
  · cases h
theorem cs_min2 {K : PySem.W.Frag} {mg : Gm} : CSn K mg (fun xs H Q => ∃ i j, xs = [.int i, .int j] ∧ Q (.int (if j < i then j else i)) H) min2D := by
  intro xs I H ds d Q ex rs h q
  unfold min2D at h
  split at h
  · cases h
    obtain ⟨v, w, rfl, r, r2⟩ := reps2 rs
    cases r
    cases r2
    exact ⟨_, _, rfl, q _ _ _ (.refl ex) (.int _)⟩
  · cases h
/-- list(xs), tuple(xs) -/
def listD : List D → R D
  | [.lst ds] => .ok (.lst ds)
  | [.tup ds] => .ok (.lst ds)
  | [.scr ns] => .ok (.lst (ns.map D.int))
  | _ => .stuck
def tupleD : List D → R D
  | [.lst ds] => .ok (.tup ds)
  | [.tup ds] => .ok (.tup ds)
  | [.scr ns] => .ok (.tup (ns.map D.int))
  | _ => .stuck
def rListOf (K : PySem.W.Frag) : List V → Hp → VK → Prop := fun xs H Q => ∃ p ys, xs = [.ref p] ∧ (SqL K H p ys ∨ SqT K H p ys) ∧ ∀ l, H l = none → Q (.ref l) (upd H l (.lst ys))
def rTupOf (K : PySem.W.Frag) : List V → Hp → VK → Prop := fun xs H Q => ∃ p ys, xs = [.ref p] ∧ ((SqL K H p ys ∧ ∀ l, H l = none → Q (.ref l) (upd H l (.tup ys))) ∨ (SqT K H p ys ∧ Q (.ref p) H))
theorem cr_listOf {X : Cx} : CallR X (.type "list") (rListOf X.K) := call_list_of
theorem cr_tupOf {X : Cx} : CallR X (.type "tuple") (rTupOf X.K) := call_tuple_of
theorem cs_list {K : PySem.W.Frag} {mg : Gm} : CSn K mg (rListOf K) listD := by
  intro xs I H ds d Q ex rs h q
  unfold listD at h
  split at h
  · cases h
    obtain ⟨v, rfl, r⟩ := reps1 rs
    cases r with
    | lst hh ra => exact ⟨_, _, rfl, .inl (SqL.of (ex _ _ hh)), fun p hp => q _ _ _ (.new ex hp) (new_lst ex hp ra)⟩
  · cases h
    obtain ⟨v, rfl, r⟩ := reps1 rs
    cases r with
    | tup hh ra => exact ⟨_, _, rfl, .inr (SqT.of (ex _ _ hh)), fun p hp => q _ _ _ (.new ex hp) (new_lst ex hp ra)⟩
  · cases h
    obtain ⟨v, rfl, r⟩ := reps1 rs
    cases r with
    | scr hh => exact ⟨_, _, rfl, .inl (ex.seq hh), fun p hp => q _ _ _ (.new ex hp) (new_lst ex hp .ints)⟩
  · cases h
theorem cs_tuple {K : PySem.W.Frag} {mg : Gm} : CSn K mg (rTupOf K) tupleD := by
  intro xs I H ds d Q ex rs h q
  unfold tupleD at h
  split at h
  · cases h
    obtain ⟨v, rfl, r⟩ := reps1 rs
    cases r with
    | lst hh ra => exact ⟨_, _, rfl, .inl ⟨SqL.of (ex _ _ hh), fun p hp => q _ _ _ (.new ex hp) (new_tup ex hp ra)⟩⟩
  · cases h
    obtain ⟨v, rfl, r⟩ := reps1 rs
    cases r with
    | tup hh ra => exact ⟨_, _, rfl, .inr ⟨SqT.of (ex _ _ hh), q _ _ _ (.refl ex) (.tup hh ra)⟩⟩
  · cases h
    obtain ⟨v, rfl, r⟩ := reps1 rs
    cases r with
    | scr hh => exact ⟨_, _, rfl, .inl ⟨ex.seq hh, fun p hp => q _ _ _ (.new ex hp) (new_tup ex hp .ints)⟩⟩
  · cases h
/-- range(..) as a value -/
def rng1D : List D → R D
  | [.int j] => .ok (.rng 0 j)
  | _ => .stuck
theorem cs_rng1 {K : PySem.W.Frag} {mg : Gm} : CSn K mg (fun vs H Q => ∃ j, vs = [V.int j] ∧ ∀ p, H p = none → Q (.ref p) (upd H p (.rng 0 j))) rng1D := by
  intro xs I H ds d Q ex rs h q
  unfold rng1D at h
  split at h
  · cases h
    obtain ⟨v, rfl, r⟩ := reps1 rs
    cases r
    exact ⟨_, rfl, fun p hp => q _ _ _ (.new ex hp) (.rng upd_same)⟩
  · cases h
/-- sorted(xs), ints -/
def insI (x : Int) : List Int → List Int
  | [] => [x]
  | y :: ys => if x ≤ y then x :: y :: ys else y :: insI x ys
def sortI : List Int → List Int
  | [] => []
  | x :: xs => insI x (sortI xs)
theorem insI_perm (x : Int) : ∀ ys : List Int, (insI x ys).Perm (x :: ys)
  | [] => .refl _
  | y :: ys => by
    unfold insI
    split
    · exact .refl _
    · exact ((insI_perm x ys).cons y).trans (.swap x y ys)
theorem sortI_perm : ∀ xs : List Int, (sortI xs).Perm xs
  | [] => .refl _
  | x :: xs => (insI_perm x _).trans ((sortI_perm xs).cons x)
theorem insI_srt (x : Int) : ∀ ys : List Int, ys.Pairwise (· ≤ ·) → (insI x ys).Pairwise (· ≤ ·)
  | [], _ => List.pairwise_singleton _ _
  | y :: ys, h => by
    unfold insI
    split
    · rename_i hxy
      refine List.pairwise_cons.mpr ⟨fun z hz => ?_, h⟩
      rcases List.mem_cons.mp hz with e | hz
      · rw [e]
        exact hxy
      · exact Int.le_trans hxy ((List.pairwise_cons.mp h).1 z hz)
    · rename_i hxy
      refine List.pairwise_cons.mpr ⟨fun z hz => ?_, insI_srt x ys (List.pairwise_cons.mp h).2⟩
      rcases List.mem_cons.mp ((insI_perm x ys).mem_iff.mp hz) with e | hz
      · rw [e]
        omega
      · exact (List.pairwise_cons.mp h).1 z hz
theorem sortI_srt : ∀ xs : List Int, (sortI xs).Pairwise (· ≤ ·)
  | [] => .nil
  | x :: xs => insI_srt x _ (sortI_srt xs)
theorem srt_uniq : ∀ {xs ys : List Int}, xs.Perm ys → xs.Pairwise (· ≤ ·) → ys.Pairwise (· ≤ ·) → xs = ys
  | [], ys, p, _, _ => (List.Perm.nil_eq p)
  | x :: xs, [], p, _, _ => (List.Perm.eq_nil p)
  | x :: xs, y :: ys, p, hx, hy => by
    have e : x = y := by
      have h1 : x ∈ y :: ys := p.mem_iff.mp List.mem_cons_self
      have h2 : y ∈ x :: xs := p.mem_iff.mpr List.mem_cons_self
      rcases List.mem_cons.mp h1 with e | h1
      · exact e
      · rcases List.mem_cons.mp h2 with e | h2
        · exact e.symm
        · have a := (List.pairwise_cons.mp hx).1 y h2
          have b := (List.pairwise_cons.mp hy).1 x h1
          omega
    subst e
    rw [srt_uniq (List.perm_cons x |>.mp p) (List.pairwise_cons.mp hx).2 (List.pairwise_cons.mp hy).2]
def sortedD : List D → R D
  | [.lst ds] => match intsOf ds with
    | some ns => .ok (.lst ((sortI ns).map D.int))
    | none => .stuck
  | [.tup ds] => match intsOf ds with
    | some ns => .ok (.lst ((sortI ns).map D.int))
    | none => .stuck
  | _ => .stuck
section
open PyProof.Rows SrtO
/-- sorted of a list or a tuple, under a strict weak order -/
theorem sorted_seqO {prog : Program} {w : World} {A : Around} {E : Value → Shared → Prop} {s : Shared} {l : Addr} {T : String} {o : Obj} {vs : List Value} {n : Nat} {ltv : Value → Value → Bool} {Q : Value → Shared → Prop} (O : Swo ltv) (hT : T = "list" ∨ T = "tuple")
    (ho : s.heap.get? l = some o) (hc : o.cls = .type T) (hd : o.data = .seq vs.toArray n) (hz : vs.length ≤ sizeLine)
    (hS : 2 ≤ vs.length → ∀ (h₁ : Heap) (a : Addr), h₁.get? a = some (seqObj "list" vs.toArray 0) → (∀ b o, s.heap.get? b = some o → b ≠ a ∧ h₁.get? b = some o) → SortableO prog w A.in1.in1 { s with heap := h₁ } a vs ltv)
    (h : ∀ (h' : Heap) (out : List Value), (∀ b o, s.heap.get? b = some o → h'.get? b = some o) → Srtd ltv out → Stb ltv out vs → Q (.ref h'.objs.size) { s with heap := sortedHeap (h'.push (seqObj "list" vs.toArray 0)) h'.objs.size vs out.toArray }) :
    wpAny (model prog w) A (call (.builtin "sorted") [.ref l]) Q E s := by
  refine Calls.call_function_entry kind_sorted plain_sorted entry_sorted (args_sorted1 _) ?_
  unfold Builtin.«sorted»
  refine wpAny_bind (m := checkCount "sorted" 1 1 _) (wpAny_pure ?_)
  refine wpAny_bind (wpAny_collect_seq l hT ho hc hd (fun h' hk => ?_) (by simpa using hz))
  refine wpAny_bind (wpAny_newList ?_ (by simpa using hz))
  have hoL : (h'.push (seqObj "list" vs.toArray 0)).get? h'.objs.size = some (seqObj "list" vs.toArray 0) := Heap.get?_push_size _ rfl
  have keep : ∀ b o, s.heap.get? b = some o → b ≠ h'.objs.size ∧ (h'.push (seqObj "list" vs.toArray 0)).get? b = some o := fun b o q =>
    ⟨Nat.ne_of_lt (Heap.lt_size (hk b o q)), Heap.get?_push_of_some _ (hk b o q)⟩
  refine wpAny_bind (wpAny_holding (wpAny_call_entry slot_list_sort ⟨_, hoL, rfl⟩ entry_list_sort (list_sort_ord O hoL hz (fun h2 => hS h2 _ _ hoL keep) fun out hs hb => ⟨_, rfl, ?_⟩) (args_list_sort _)))
  exact wpAny_pure ⟨_, rfl, h h' out hk hs hb⟩
end
def rSortedX (K : PySem.W.Frag) : List V → Hp → VK → Prop := fun vs H Q => ∃ (a : Addr) (ns : List Int), vs = [V.ref a] ∧ (SqL K H a (ns.map V.int) ∨ SqT K H a (ns.map V.int)) ∧
  ∀ (ns' : List Int) (p : Addr), ns'.Perm ns → ns'.Pairwise (· ≤ ·) → H p = none → Q (.ref p) (upd H p (.lst (ns'.map V.int)))
theorem cr_sortedX {X : Cx} : CallR X (.builtin "sorted") (rSortedX X.K) := by
  intro pins s σ H vs us Q I r h
  obtain ⟨a, ns, rfl, hs, q⟩ := h
  have hx : ∃ (T : String) (o : Obj) (its : List Value) (n : Nat), (T = "list" ∨ T = "tuple") ∧ s.heap.get? a = some o ∧ o.cls = .type T ∧ o.data = .seq its.toArray n ∧ Vals (ns.map V.int) its ∧ (ns.map V.int).length ≤ sizeLine := by
    rcases hs with hs | hs
    · obtain ⟨its, rv, ⟨o, n, ho, hc, _, hd⟩, hz⟩ := I.list hs
      exact ⟨_, o, its, n, .inl rfl, ho, hc, hd, rv, hz⟩
    · obtain ⟨its, rv, ⟨o, ho, hc, n, hd⟩, hz⟩ := I.tuple hs
      exact ⟨_, o, its, n, .inr rfl, ho, hc, hd, rv, hz⟩
  obtain ⟨T, o, its, n, hT, ho, hc, hd, rv, hz⟩ := hx
  rw [Vals.ref1 r]
  have hi := rv.ints
  refine sorted_seqO SrtO.swo_int hT ho hc hd (by rw [← rv.length]; exact hz) (fun h2 h₁ a' _ _ => SrtO.ints_sortable hi h2) fun h' out hk h1 h2 => ?_
  obtain ⟨k1, k2, k3⟩ := SrtO.ints_out hi h1 h2
  have I' : Inv X pins σ H { s with heap := h' } := I.kept (t' := s.toks) hk
  have hlen : ((out.map SrtO.iv).map V.int).length ≤ sizeLine := by
    rw [List.length_map, k2.length_eq]
    rw [List.length_map] at hz
    exact hz
  obtain ⟨ep, he'⟩ := PyProof.Rows.sortedHeap_at (vs := its) (out := out.toArray) (n := 0) (h := h'.push (PyProof.Rows.seqObj "list" its.toArray 0)) (a := h'.objs.size) (Heap.get?_push_size _ rfl)
  refine ⟨.ref _, upd H h'.objs.size (.lst ((out.map SrtO.iv).map V.int)), I'.laid (t' := s.toks) (fun b u e => ?_) (Nat.le_refl _) ⟨hlen, out, ep, vals_of_ints k1, he'⟩, rfl, q _ _ k2 k3 (I'.hok.fresh (Nat.le_refl _))⟩
  have hlt : b < h'.objs.size := Heap.lt_size e
  rw [PyProof.Rows.sortedHeap_old (Nat.ne_of_lt hlt) (by rw [PyProof.Rows.size_push']; exact Nat.lt_succ_of_lt hlt)]
  exact Heap.get?_push_of_some _ e
theorem cs_sorted {K : PySem.W.Frag} {mg : Gm} : CSn K mg (rSortedX K) sortedD := by
  intro xs I H ds d Q ex rs h q
  unfold sortedD at h
  have fin : ∀ (a : Addr) (es : List D) (vs : List V) (ns : List Int), intsOf es = some ns → Reps K mg I vs es → (SqL K H a vs ∨ SqT K H a vs) → (∀ v I' H', Stp I H I' H' → Rep K mg I' v (.lst ((sortI ns).map D.int)) → Q v H') → rSortedX K [.ref a] H Q := fun a es vs ns e r hs q => by
    obtain ⟨rfl, _⟩ := reps_ints r e
    refine ⟨a, ns, rfl, hs, fun ns' p hp hs' hn => ?_⟩
    have e2 : ns' = sortI ns := srt_uniq (hp.trans (sortI_perm ns).symm) hs' (sortI_srt ns)
    subst e2
    exact q _ _ _ (.new ex hn) (new_lst ex hn .ints)
  split at h
  · rename_i es
    obtain ⟨v, rfl, r⟩ := reps1 rs
    cases e : intsOf es with
    | none =>
      rw [e] at h
      cases h
    | some ns =>
      rw [e] at h
      cases h
      cases r with
      | lst hh ra => exact fin _ _ _ ns e ra (.inl (SqL.of (ex _ _ hh))) q
  · rename_i es
    obtain ⟨v, rfl, r⟩ := reps1 rs
    cases e : intsOf es with
    | none =>
      rw [e] at h
      cases h
    | some ns =>
      rw [e] at h
      cases h
      cases r with
      | tup hh ra => exact fin _ _ _ ns e ra (.inr (SqT.of (ex _ _ hh))) q
  · cases h
/-- any, all of a list of bools -/
def blsOf : List D → Option (List Bool)
  | [] => some []
  | .bl b :: ds => (blsOf ds).map (b :: ·)
  | _ :: _ => none
theorem blsOf_map (bs : List Bool) : blsOf (bs.map D.bl) = some bs := by
  induction bs with
  | nil => rfl
  | cons n ns ih => rw [List.map_cons, blsOf, ih]; rfl
theorem reps_bls {K : PySem.W.Frag} {mg : Gm} {I : Hp} : ∀ {vs : List V} {ds : List D} {bs : List Bool}, Reps K mg I vs ds → blsOf ds = some bs → vs = bs.map V.bl
  | _, _, ns, .nil, h => by
    cases h
    rfl
  | _, _, ns, .cons (d := d) (ds := ds) a r, h => by
    cases a with
    | bl i =>
      cases e : blsOf ds with
      | none =>
        rw [blsOf, e] at h
        cases h
      | some ms =>
        rw [blsOf, e] at h
        cases h
        rw [reps_bls r e]
        rfl
    | _ => cases h
def anyD : List D → R D
  | [.lst ds] => match blsOf ds with
    | some bs => .ok (.bl (bs.any id))
    | none => .stuck
  | _ => .stuck
def allD : List D → R D
  | [.lst ds] => match blsOf ds with
    | some bs => .ok (.bl (bs.all id))
    | none => .stuck
  | _ => .stuck
theorem cs_any {K : PySem.W.Frag} {mg : Gm} : CSn K mg (rAny K) anyD := by
  intro xs I H ds d Q ex rs h q
  unfold anyD at h
  split at h
  · rename_i es
    obtain ⟨v, rfl, r⟩ := reps1 rs
    cases e : blsOf es with
    | none =>
      rw [e] at h
      cases h
    | some bs =>
      rw [e] at h
      cases h
      cases r with
      | lst hh ra =>
        cases reps_bls ra e
        exact ⟨_, bs, rfl, SqL.of (ex _ _ hh), q _ _ _ (.refl ex) (.bl _)⟩
  · cases h
theorem cs_all {K : PySem.W.Frag} {mg : Gm} : CSn K mg (rAll K) allD := by
  intro xs I H ds d Q ex rs h q
  unfold allD at h
  split at h
  · rename_i es
    obtain ⟨v, rfl, r⟩ := reps1 rs
    cases e : blsOf es with
    | none =>
      rw [e] at h
      cases h
    | some bs =>
      rw [e] at h
      cases h
      cases r with
      | lst hh ra =>
        cases reps_bls ra e
        exact ⟨_, bs, rfl, SqL.of (ex _ _ hh), q _ _ _ (.refl ex) (.bl _)⟩
  · cases h
/-- isinstance of a built-in class -/
def tyOf : D → Option String
  | .non => some "NoneType"
  | .bl _ => some "bool"
  | .int _ => some "int"
  | .str _ => some "str"
  | .lst _ => some "list"
  | .tup _ => some "tuple"
  | _ => none
def isiD : List D → R D
  | [x, .ty n] => match tyOf x with
    | some t => match kitB t n with
      | some b => .ok (.bl b)
      | none => .stuck
    | none => .stuck
  | _ => .stuck
theorem Rep.tyx {K : PySem.W.Frag} {mg : Gm} {I : Hp} {v : V} {d : D} {t : String} (r : Rep K mg I v d) (h : tyOf d = some t) : TyX K I v (.type t) := by
  cases r with
  | non => cases h; exact .base .non
  | bl b => cases h; exact .base (.bl b)
  | int i => cases h; exact .base (.int i)
  | str x => cases h; exact .base (.str x)
  | lst hh _ => cases h; exact .base (.lst hh)
  | tup hh _ =>
    cases h
    exact .base (.tup hh)
  | _ => cases h
theorem cs_isi {K : PySem.W.Frag} {mg : Gm} : CSn K mg (rIsi K) isiD := by
  intro xs I H ds d Q ex rs h q
  unfold isiD at h
  split at h
  · rename_i x n
    obtain ⟨v, w, rfl, r, r2⟩ := reps2 rs
    cases e : tyOf x with
    | none =>
      rw [e] at h
      cases h
    | some t =>
      rw [e] at h
      have h : (match kitB t n with | some b => R.ok (D.bl b) | none => .stuck) = R.ok d := h
      cases e2 : kitB t n with
      | none =>
        rw [e2] at h
        cases h
      | some b =>
        rw [e2] at h
        cases h
        cases r2
        exact ⟨v, _, _, _, b, rfl, .ty n, (r.mono ex).tyx e, kit_ty e2, q _ _ _ (.refl ex) (.bl _)⟩
  · cases h
end DL
namespace DL
open PySem PySem.Spec L2

/-! ### what is walked -/
def itemsD : D → R (List D)
  | .lst ds => .ok ds
  | .tup ds => .ok ds
  | .scr ns => .ok (ns.map D.int)
  | _ => .stuck
def its (a : R D) : R (List D) := a >>= itemsD
@[simp] theorem its_ok (d : D) : its (.ok d) = itemsD d := rfl
def rangeD (lo c : Int) (n : Nat) : List D := (List.range n).map fun i => .int (lo + (i : Nat) * c)
theorem rangeD_len (lo c : Int) (n : Nat) : (rangeD lo c n).length = n := by unfold rangeD; rw [List.length_map, List.length_range]
theorem rangeD_get {lo c : Int} {n i : Nat} {d : D} (h : (rangeD lo c n)[i]? = some d) : i < n ∧ d = .int (lo + (i : Nat) * c) := by
  unfold rangeD at h
  rw [List.getElem?_map] at h
  cases e : (List.range n)[i]? with
  | none =>
    rw [e] at h
    cases h
  | some j =>
    rw [e] at h
    obtain ⟨h1, h2⟩ := List.getElem?_eq_some_iff.mp e
    rw [List.length_range] at h1
    rw [List.getElem_range] at h2
    subst h2
    exact ⟨h1, (Option.some.inj h).symm⟩
section
variable {X : Cx} {E : Wh} {K : PySem.W.Frag} {mg : Gm} {I I' H H' : Hp} {σ : L2.St} {ρ : Env} {a b c e tg : Expr} {es : List Expr} {pos p : Pos} {m : Env → R D} {ms : Env → R (List D)} {t : TE} {tas : TA}
theorem PI.or {w1 w2 : TI} (h : PI X tg e w1) (h' : PI X tg e w2) : PI X tg e (fun σ H Rr => w1 σ H Rr ∨ w2 σ H Rr) := ⟨fun pins s σ H Rr I q => by
  rcases q with q | q
  · exact h.run pins s σ H Rr I q
  · exact h'.run pins s σ H Rr I q⟩
theorem it_list {a : Addr} {vs : List V} {ds : List D} (h : SqL K I a vs) (r : Reps K mg I vs ds) : ItOk K mg I (Itl K a) ds := fun I1 H e1 e2 => ⟨fun i d hd => by
    obtain ⟨v, hv, rv⟩ := r.get hd
    exact ⟨⟨vs, v, (e1.trans e2).seq h, hv⟩, fun x H' y => by
      obtain ⟨rfl, y⟩ := y
      have e := y vs ((e1.trans e2).seq h)
      rw [hv] at e
      cases e
      exact ⟨I1, .refl e2, rv.mono e1⟩⟩, ⟨vs, (e1.trans e2).seq h, Nat.le_of_eq r.len⟩⟩
theorem it_tup {a : Addr} {vs : List V} {ds : List D} (h : SqT K I a vs) (r : Reps K mg I vs ds) : ItOk K mg I (Itt K a) ds := fun I1 H e1 e2 => ⟨fun i d hd => by
    obtain ⟨v, hv, rv⟩ := r.get hd
    exact ⟨⟨vs, v, same_t (e1.trans e2) h, hv⟩, fun x H' y => by
      obtain ⟨rfl, y⟩ := y
      have e := y vs (same_t (e1.trans e2) h)
      rw [hv] at e
      cases e
      exact ⟨I1, .refl e2, rv.mono e1⟩⟩, ⟨vs, same_t (e1.trans e2) h, Nat.le_of_eq r.len⟩⟩
theorem it_rng {lo : Int} {n : Nat} : ItOk K mg I (Itr lo n) (rangeD lo 1 n) := fun I1 H e1 e2 => ⟨fun i d hd => by
    obtain ⟨h1, rfl⟩ := rangeD_get hd
    exact ⟨h1, fun x H' y => by
      obtain ⟨rfl, rfl⟩ := y
      refine ⟨I1, .refl e2, ?_⟩
      rw [Int.mul_one]
      exact .int _⟩, Nat.le_of_eq (rangeD_len _ _ _).symm⟩
theorem it_rngC {lo c : Int} {n : Nat} : ItOk K mg I (Itc lo c n) (rangeD lo c n) := fun I1 H e1 e2 => ⟨fun i d hd => by
    obtain ⟨h1, rfl⟩ := rangeD_get hd
    exact ⟨h1, fun x H' y => by
      obtain ⟨rfl, rfl⟩ := y
      exact ⟨I1, .refl e2, .int _⟩⟩, Nat.le_of_eq (rangeD_len _ _ _).symm⟩
theorem mi_seq (K : PySem.W.Frag) (h : ME X E e t m) (hK : X.K = K := by rfl) : MI X E tg e (fun σ H Rr => iList K t σ H Rr ∨ iTup K t σ H Rr) (fun ρ => its (m ρ)) := by
  subst hK
  obtain ⟨pt, st⟩ := h
  refine ⟨PI.or (pi_list pt) (pi_tup pt), fun σ I H ρ Q re ex h => ?_⟩
  have h : Out X.K (gm X E) (E.e σ) (ItOk X.K (gm X E)) I H (m ρ >>= itemsD) Q := h
  have fin : ∀ d, m ρ = .ok d → ((∃ ds, d = .lst ds) ∨ (∃ ns, d = .scr ns)) ∨ (∃ ds, d = .tup ds) := fun d e => by
    rw [e] at h
    cases d with
    | lst ds => exact .inl (.inl ⟨_, rfl⟩)
    | tup ds => exact .inr ⟨_, rfl⟩
    | scr ns => exact .inl (.inr ⟨_, rfl⟩)
    | _ => exact h.elim
  have go1 : (∀ d, m ρ = .ok d → (∃ ds, d = .lst ds) ∨ (∃ ns, d = .scr ns)) → iList X.K t σ H Q := fun hd => by
    refine st.run re ex h fun d v I1 H1 e s1 rx h => ?_
    rcases hd d e with ⟨ds, rfl⟩ | ⟨ns, rfl⟩
    · cases rx with
      | lst hh ra => exact ⟨_, rfl, ⟨_, SqL.of (s1.e _ _ hh)⟩, h.here s1.e (it_list (SqL.of hh) ra)⟩
    · cases rx with
      | scr hh => exact ⟨_, rfl, ⟨_, s1.e.seq hh⟩, h.here s1.e (it_list hh .ints)⟩
  have go2 : (∀ d, m ρ = .ok d → ∃ ds, d = .tup ds) → iTup X.K t σ H Q := fun hd => by
    refine st.run re ex h fun d v I1 H1 e s1 rx h => ?_
    obtain ⟨ds, rfl⟩ := hd d e
    cases rx with
    | tup hh ra => exact ⟨_, rfl, ⟨_, SqT.of (s1.e _ _ hh)⟩, h.here s1.e (it_tup (SqT.of hh) ra)⟩
  cases e : m ρ with
  | ok d =>
    rcases fin d e with hd | hd
    · exact .inl (go1 fun d' e' => by
        rw [e] at e'
        cases e'
        exact hd)
    · exact .inr (go2 fun d' e' => by
        rw [e] at e'
        cases e'
        exact hd)
  | err _ _ => exact .inl (go1 fun d' e' => by
      rw [e] at e'
      cases e')
  | stuck => exact .inl (go1 fun d' e' => by
      rw [e] at e'
      cases e')
def rg1 : List D → R (List D)
  | [.int j] => if -(2 ^ 62) ≤ j ∧ j < 2 ^ 62 then .ok (rangeD 0 1 j.toNat) else .stuck
  | _ => .stuck
def rg2 : List D → R (List D)
  | [.int i, .int j] => if -(2 ^ 62) ≤ i ∧ i < 2 ^ 62 ∧ -(2 ^ 62) ≤ j ∧ j < 2 ^ 62 then .ok (rangeD i 1 (j - i).toNat) else .stuck
  | _ => .stuck
/-- a step of -1 -/
def rg3 : List D → R (List D)
  | [.int i, .int j, .int c] => if c = -1 ∧ -(2 ^ 62) ≤ i ∧ i < 2 ^ 62 ∧ -(2 ^ 62) ≤ j ∧ j < 2 ^ 62 then .ok (rangeD i (-1) (i - j).toNat) else .stuck
  | _ => .stuck
theorem mi_rng1 (hg : Gl X "range") (hm : X.mg "range" = none) (ha : MA X E [a] tas ms) (hs : starEach [a] X.env = [(false, eval a X.env)] := by rfl) : MI X E tg (.Call (.Name "range" p) [a] [] pos) (iRng1 tas) (fun ρ => dsp rg1 (ms ρ)) := by
  obtain ⟨pt, st⟩ := ha
  refine ⟨pi_range1 hg hm pt hs, fun σ I H ρ Q re ex h => ?_⟩
  refine st.run re ex h fun ds vs I1 H1 _ s1 rs h => ?_
  unfold rg1 at h
  split at h
  · obtain ⟨⟨h1, h2⟩, h⟩ := out_if h
    obtain ⟨v, rfl, r⟩ := reps1 rs
    cases r
    exact ⟨_, rfl, h1, h2, h.here s1.e it_rng⟩
  · exact h.elim
theorem mi_rng2 (hg : Gl X "range") (hm : X.mg "range" = none) (ha : MA X E [a, b] tas ms) (hs : starEach [a, b] X.env = [(false, eval a X.env), (false, eval b X.env)] := by rfl) (hs2 : starEach [b] X.env = [(false, eval b X.env)] := by rfl) : MI X E tg (.Call (.Name "range" p) [a, b] [] pos) (iRng2 tas) (fun ρ => dsp rg2 (ms ρ)) := by
  obtain ⟨pt, st⟩ := ha
  refine ⟨pi_range2 hg hm pt hs hs2, fun σ I H ρ Q re ex h => ?_⟩
  refine st.run re ex h fun ds vs I1 H1 _ s1 rs h => ?_
  unfold rg2 at h
  split at h
  · obtain ⟨h1, h⟩ := out_if h
    obtain ⟨v, w, rfl, r, r2⟩ := reps2 rs
    cases r
    cases r2
    exact ⟨_, _, rfl, h1, h.here s1.e it_rng⟩
  · exact h.elim
theorem mi_rng3 (hg : Gl X "range") (hm : X.mg "range" = none) (ha : MA X E [a, b, c] tas ms) (hi : ∀ t, PA X [a, b, c] t → PI X tg (.Call (.Name "range" p) [a, b, c] [] pos) (iRng3 t) := by intro t pt; exact pi_range3 (by assumption) (by assumption) pt) : MI X E tg (.Call (.Name "range" p) [a, b, c] [] pos) (iRng3 tas) (fun ρ => dsp rg3 (ms ρ)) := by
  obtain ⟨pt, st⟩ := ha
  refine ⟨hi _ pt, fun σ I H ρ Q re ex h => ?_⟩
  refine st.run re ex h fun ds vs I1 H1 _ s1 rs h => ?_
  unfold rg3 at h
  split at h
  · obtain ⟨⟨hc, h1, h2, h3, h4⟩, h9⟩ := out_if h
    subst hc
    cases rs with
    | cons r rs =>
      obtain ⟨v, w, rfl, r2, r3⟩ := reps2 rs
      cases r
      cases r2
      cases r3
      exact ⟨_, _, _, _, rfl, RgC.neg h1 h2 h3 h4, h9.here s1.e it_rngC⟩
  · exact h.elim

/-! ### targets: which slots are stored -/
abbrev As := List (Nat × D)
def setE (ρ : Env) : As → Env
  | [] => ρ
  | (i, d) :: as => setE (ρ.set i (some d)) as
def setS (σ : L2.St) : List (Nat × V) → L2.St
  | [] => σ
  | (i, v) :: as => setS (σ.set i (some v)) as
inductive AR (K : PySem.W.Frag) (mg : Gm) (I : Hp) : List (Nat × V) → As → Prop
  | nil : AR K mg I [] []
  | cons {i : Nat} {v : V} {d : D} {us : List (Nat × V)} {as : As} : Rep K mg I v d → AR K mg I us as → AR K mg I ((i, v) :: us) ((i, d) :: as)
theorem AR.app {K : PySem.W.Frag} {mg : Gm} {I : Hp} : ∀ {us ws : List (Nat × V)} {as bs : As}, AR K mg I us as → AR K mg I ws bs → AR K mg I (us ++ ws) (as ++ bs)
  | _, _, _, _, .nil, s => s
  | _, _, _, _, .cons h r, s => .cons h (AR.app r s)
theorem setS_app (σ : L2.St) : ∀ us ws : List (Nat × V), setS σ (us ++ ws) = setS (setS σ us) ws
  | [], _ => rfl
  | (i, v) :: us, ws => setS_app (σ.set i (some v)) us ws
theorem setE_app (ρ : Env) : ∀ us ws : As, setE ρ (us ++ ws) = setE (setE ρ us) ws
  | [], _ => rfl
  | (i, v) :: us, ws => setE_app (ρ.set i (some v)) us ws
theorem AR.slots {K : PySem.W.Frag} {mg : Gm} {I : Hp} : ∀ {us : List (Nat × V)} {as : As}, AR K mg I us as → us.map (·.1) = as.map (·.1)
  | _, _, .nil => rfl
  | _, _, .cons (i := i) h r => congrArg (i :: ·) (AR.slots r)
def SnG (K : PySem.W.Frag) (mg : Gm) (g : TG) (ag : D → R As) : Prop :=
  ∀ (x : V) (σ : L2.St) (I H : Hp) (d : D) (as : As) (Q : L2.St → Hp → Prop), Same I H → Rep K mg I x d → ag d = .ok as → (∀ us, AR K mg I us as → Q (setS σ us) H) → g x σ H Q
def SnGs (K : PySem.W.Frag) (mg : Gm) (g : TGs) (ag : List D → R As) : Prop :=
  ∀ (xs : List V) (σ : L2.St) (I H : Hp) (ds : List D) (as : As) (Q : L2.St → Hp → Prop), Same I H → Reps K mg I xs ds → ag ds = .ok as → (∀ us, AR K mg I us as → Q (setS σ us) H) → g xs σ H Q
structure MG (X : Cx) (tg : Expr) (g : TG) (ag : D → R As) : Prop where
  pe : PG X tg g
  sn : ∀ xc, SnG X.K ⟨X.mg, xc⟩ g ag
structure MGs (X : Cx) (tgs : List Expr) (g : TGs) (ag : List D → R As) : Prop where
  pe : PGs X tgs g
  sn : ∀ xc, SnGs X.K ⟨X.mg, xc⟩ g ag
def agV (i : Nat) : D → R As := fun d => .ok [(i, d)]
def agN : List D → R As
  | [] => .ok []
  | _ => .stuck
def agC (ag : D → R As) (bg : List D → R As) : List D → R As
  | d :: ds => ag d >>= fun as => bg ds >>= fun bs => .ok (as ++ bs)
  | [] => .stuck
theorem mg_name (i : Nat) {x : Str} (hN : X.N.Nodup) (hi : X.N[i]? = some x := by rfl) (hx : Loc X.env.scope x := by first | exact .inl rfl | exact .inr rfl) (hf : X.fn x = true ∨ X.env.scope.names.lookup x = some .local := by first | exact .inl rfl | exact .inr rfl) : MG X (.Name x pos) (gName i) (agV i) :=
  ⟨pg_name hN hi hx hf, fun xc x σ I H d as Q ex r h q => by
    cases h
    exact q [(i, x)] (.cons r .nil)⟩
theorem mgs_nil : MGs X [] gNil agN := ⟨pgs_nil, fun xc xs σ I H ds as Q ex r h q => by
  cases r with
  | nil =>
    cases h
    exact ⟨rfl, q [] .nil⟩
  | cons _ _ => cases h⟩
theorem mgs_cons {ag : D → R As} {bg : List D → R As} {es : List Expr} {g : TG} {gs : TGs} (h1 : MG X e g ag) (h2 : MGs X es gs bg) (hs : (assignEach (e :: es) X.env).map (·.2) = assign e X.env :: (assignEach es X.env).map (·.2) := by rfl) : MGs X (e :: es) (gCons g gs) (agC ag bg) := by
  obtain ⟨pg, sg⟩ := h1
  obtain ⟨pgs, sgs⟩ := h2
  refine ⟨pgs_cons pg pgs hs, fun xc xs σ I H ds as Q ex r h q => ?_⟩
  cases r with
  | nil => cases h
  | @cons v vs d ds rv rs =>
    have h : (ag d >>= fun as => bg ds >>= fun bs => R.ok (as ++ bs)) = .ok as := h
    cases e1 : ag d with
    | ok a1 =>
      cases e2 : bg ds with
      | ok a2 =>
        rw [e1, ok_bind, e2, ok_bind] at h
        cases h
        refine ⟨v, vs, rfl, sg xc v σ I H d a1 _ ex rv e1 fun us ar => ?_⟩
        refine sgs xc vs _ I H ds a2 _ ex rs e2 fun ws ar2 => ?_
        rw [← setS_app]
        exact q _ (ar.app ar2)
      | err _ _ =>
        rw [e1, ok_bind, e2] at h
        cases h
      | stuck =>
        rw [e1, ok_bind, e2] at h
        cases h
    | err _ _ =>
      rw [e1] at h
      cases h
    | stuck =>
      rw [e1] at h
      cases h
def tupAs (n : Nat) (ag : List D → R As) : D → R As
  | .tup ds => if ds.length = n then ag ds else .stuck
  | _ => .stuck
theorem mg_tup (K : PySem.W.Frag) {ag : List D → R As} {k n : Nat} {g : TGs} (h : MGs X es g ag) (hK : X.K = K := by rfl) (hc : X.calm = true := by rfl) (hn : (assignEach es X.env).length = n := by rfl) (hst : (assignEach es X.env).findIdx? (·.1) = none := by rfl) : MG X (.Tuple es k pos) (gTup K n g) (tupAs n ag) := by
  obtain ⟨pg, sg⟩ := h
  subst hK
  refine ⟨pg_tup hc pg hn hst, fun xc x σ I H d as Q ex r h q => ?_⟩
  cases r with
  | @tup a vs ds hh ra =>
    have h : (if ds.length = n then ag ds else .stuck) = R.ok as := h
    by_cases hl : ds.length = n
    · rw [if_pos hl] at h
      exact ⟨a, vs, rfl, SqT.of (ex _ _ hh), ra.len.trans hl, sg xc vs σ I H ds as Q ex ra h q⟩
    · rw [if_neg hl] at h
      cases h
  | _ => cases h
end
theorem set_of_lt {α : Type} {l : List (Option α)} {i j : Nat} {a b : α} (h : (l.set i (some a))[j]? = some (some b)) : (i = j ∧ a = b) ∨ (i ≠ j ∧ l[j]? = some (some b)) := by
  by_cases e : i = j
  · subst e
    by_cases hl : i < l.length
    · rw [List.getElem?_set_self hl] at h
      exact .inl ⟨rfl, Option.some.inj (Option.some.inj h)⟩
    · rw [List.getElem?_eq_none (by rw [List.length_set]; omega)] at h
      cases h
  · rw [List.getElem?_set_ne e] at h
    exact .inr ⟨e, h⟩
theorem RE.set {K : PySem.W.Frag} {mg : Gm} {I : Hp} {σ : L2.St} {ρ : Env} {i : Nat} {v : V} {d : D} (h : RE K mg I σ ρ) (r : Rep K mg I v d) : RE K mg I (σ.set i (some v)) (ρ.set i (some d)) := ⟨by rw [List.length_set, List.length_set, h.len], fun j e q => by
  have hl := h.len
  rcases set_of_lt q with ⟨rfl, rfl⟩ | ⟨hne, q⟩
  · have hi : i < ρ.length := by
      have := (List.getElem?_eq_some_iff.mp q).1
      rw [List.length_set] at this
      exact this
    exact ⟨v, by rw [List.getElem?_set_self (by omega)], r⟩
  · rw [List.getElem?_set_ne hne]
    exact h.at_ j e q⟩
theorem setS_len (σ : L2.St) : ∀ us : List (Nat × V), (setS σ us).length = σ.length
  | [] => rfl
  | (i, v) :: us => by
    unfold setS
    rw [setS_len _ us, List.length_set]
theorem setE_len (σ : Env) : ∀ us : As, (setE σ us).length = σ.length
  | [] => rfl
  | (i, v) :: us => by
    unfold setE
    rw [setE_len _ us, List.length_set]
theorem RE.setAll {K : PySem.W.Frag} {mg : Gm} {I : Hp} {us : List (Nat × V)} {as : As} {σ : L2.St} {ρ : Env} (ar : AR K mg I us as) (h : RE K mg I σ ρ) : RE K mg I (setS σ us) (setE ρ as) := by
  induction ar generalizing σ ρ with
  | nil => exact h
  | cons r _ ih => exact ih (h.set r)
theorem wipe_setS {vs : List Nat} : ∀ {us : List (Nat × V)} {σ : L2.St}, (∀ p ∈ us, p.1 ∈ vs) → wipe (setS σ us) vs = wipe σ vs
  | [], σ, _ => rfl
  | (i, v) :: us, σ, h => by
    unfold setS
    rw [wipe_setS fun p hp => h p (List.mem_cons_of_mem _ hp)]
    exact wipe_set (h (i, v) List.mem_cons_self)
where
  wipe_set {vs : List Nat} {σ : L2.St} {i : Nat} {o : Option V} (hi : i ∈ vs) : wipe (σ.set i o) vs = wipe σ vs := by
    apply List.ext_getElem?
    intro j
    have key : ∀ (τ : L2.St) (vs : List Nat), (wipe τ vs)[j]? = if j ∈ vs then (if j < τ.length then some none else none) else τ[j]? := fun τ vs => by
      induction vs with
      | nil => simp [wipe]
      | cons v vs ih =>
        unfold wipe
        by_cases e : v = j
        · subst e
          simp only [List.mem_cons_self, if_true]
          by_cases hl : v < τ.length
          · rw [List.getElem?_set_self (by rw [wipe_length]; exact hl), if_pos hl]
          · rw [if_neg hl, List.getElem?_eq_none (by rw [List.length_set, wipe_length]; omega)]
        · rw [List.getElem?_set_ne e, ih]
          have : (j ∈ v :: vs) = (j ∈ vs) := by
            simp only [List.mem_cons, eq_iff_iff]
            exact ⟨fun h => h.elim (fun z => absurd z.symm e) id, .inr⟩
          simp only [this]
    rw [key, key]
    by_cases hj : j ∈ vs
    · rw [if_pos hj, if_pos hj, List.length_set]
    · rw [if_neg hj, if_neg hj, List.getElem?_set_ne (fun e : i = j => hj (by rw [← e]; exact hi))]
def wipeE (ρ : Env) : List Nat → Env
  | [] => ρ
  | v :: vs => (wipeE ρ vs).set v none
theorem wipeE_len (ρ : Env) : ∀ vs : List Nat, (wipeE ρ vs).length = ρ.length
  | [] => rfl
  | v :: vs => by unfold wipeE; rw [List.length_set, wipeE_len ρ vs]
theorem RE.wipe {K : PySem.W.Frag} {mg : Gm} {I : Hp} {σ : L2.St} {ρ : Env} (h : RE K mg I σ ρ) (vs : List Nat) : RE K mg I (L2.wipe σ vs) (wipeE ρ vs) := by
  induction vs with
  | nil => exact h
  | cons v vs ih =>
    refine ⟨by rw [wipe_length, wipeE_len, h.len], fun i d q => ?_⟩
    unfold wipeE at q
    unfold L2.wipe
    by_cases e : v = i
    · subst e
      by_cases hl : v < (wipeE ρ vs).length
      · rw [List.getElem?_set_self hl] at q
        cases q
      · rw [List.getElem?_eq_none (by rw [List.length_set]; omega)] at q
        cases q
    · rw [List.getElem?_set_ne e] at q
      rw [List.getElem?_set_ne e]
      exact ih.at_ i d q
end DL
namespace DL
open PySem PySem.Spec L2

/-- where the stored slots lie -/
def AgIn (ag : D → R As) (P : Nat → Prop) : Prop := ∀ d as, ag d = .ok as → ∀ p ∈ as, P p.1
/-! ### comprehensions -/
theorem wipe_at (τ : L2.St) (j : Nat) : ∀ vs : List Nat, (wipe τ vs)[j]? = if j ∈ vs then (if j < τ.length then some none else none) else τ[j]? := fun vs => by
  induction vs with
  | nil => simp [wipe]
  | cons v vs ih =>
    unfold wipe
    by_cases e : v = j
    · subst e
      simp only [List.mem_cons_self, if_true]
      by_cases hl : v < τ.length
      · rw [List.getElem?_set_self (by rw [wipe_length]; exact hl), if_pos hl]
      · rw [if_neg hl, List.getElem?_eq_none (by rw [List.length_set, wipe_length]; omega)]
    · rw [List.getElem?_set_ne e, ih]
      have : (j ∈ v :: vs) = (j ∈ vs) := by
        simp only [List.mem_cons, eq_iff_iff]
        exact ⟨fun h => h.elim (fun z => absurd z.symm e) id, .inr⟩
      simp only [this]
theorem wipe_wipe (σ : L2.St) (vs : List Nat) : wipe (wipe σ vs) vs = wipe σ vs := by
  apply List.ext_getElem?
  intro j
  rw [wipe_at (wipe σ vs) j vs, wipe_at σ j vs, wipe_length]
  by_cases hj : j ∈ vs
  · rw [if_pos hj, if_pos hj]
  · rw [if_neg hj, if_neg hj]
def lcGo (ag : D → R As) (mt : Env → R Bool) (me : Env → R D) (ρ : Env) : List D → R (List D)
  | [] => .ok []
  | d :: ds => calm (ag d) >>= fun as => calm (mt (setE ρ as)) >>= fun b => if b = true then calm (me (setE ρ as)) >>= fun y => lcGo ag mt me ρ ds >>= fun r => .ok (y :: r) else lcGo ag mt me ρ ds
def lcM (vs : List Nat) (mi : Env → R (List D)) (ag : D → R As) (mt : Env → R Bool) (me : Env → R D) : Env → R D :=
  fun ρ => mi ρ >>= fun ds => if ds.length ≤ LIM then (calm (lcGo ag mt me (wipeE ρ vs) ds) >>= fun r => .ok (.lst r)) else .stuck
theorem bind_ok {α β : Type} {r : R α} {f : α → R β} {b : β} (h : (r >>= f) = .ok b) : ∃ a, r = .ok a ∧ f a = .ok b := by
  cases r with
  | ok a => exact ⟨a, rfl, h⟩
  | err _ _ => cases h
  | stuck => cases h
/-- the accumulated list ahead of a turn -/
structure LcAt (K : PySem.W.Frag) (mg : Gm) (I1 H1 : Hp) (D0 : Addr) (n : Nat) (accD : List D) (I2 H : Hp) : Prop where
  i : Same I1 I2
  e : Same I2 H
  z : I2 D0 = none
  h : Same H1 H
  f : ∀ a o, I2 a = some o → I1 a = some o ∨ Fr H1 a o
  l : ∃ vs, H D0 = some (.lst vs) ∧ Reps K mg I2 vs accD ∧ vs.length ≤ n
section
variable {K : PySem.W.Frag} {mg : Gm} {I1 H1 I2 H I3 H3 : Hp} {D0 : Addr} {n : Nat} {accD : List D} {y : V} {d : D}
theorem LcAt.start (ex : Same I1 H1) (hD : H1 D0 = none) : LcAt K mg I1 H1 D0 0 [] I1 (upd H1 D0 (.lst [])) :=
  ⟨.refl _, (Stp.side ex hD).e, ex.free hD, (Stp.side ex hD).h, fun _ _ h => .inl h, [], upd_same, .nil, Nat.le_refl _⟩
theorem LcAt.step (p : LcAt K mg I1 H1 D0 n accD I2 H) (s : Stp I2 H I3 H3) : LcAt K mg I1 H1 D0 n accD I3 H3 := by
  obtain ⟨vs, h1, h2, h3⟩ := p.l
  refine ⟨p.i.trans s.i, s.e, ?_, p.h.trans s.h, fun a o h => ?_, vs, s.h _ _ h1, h2.mono s.i, h3⟩
  · cases q : I3 D0 with
    | none => rfl
    | some o =>
      rcases s.f _ _ q with z | z | z
      · rw [p.z] at z
        cases z
      · rw [h1] at z
        cases z
      · have y := s.e _ _ q
        rw [s.h _ _ h1] at y
        cases y
        exact z.elim
  · rcases s.f a o h with z | z | z
    · exact p.f a o z
    · exact .inr (.inl (p.h.free z))
    · exact .inr (.inr z)
theorem LcAt.push (p : LcAt K mg I1 H1 D0 n accD I2 H) (hD : H1 D0 = none) (r : Rep K mg I2 y d) (hn : n < LIM) : ∃ acc, H D0 = some (.lst acc) ∧ acc.length < sizeLine ∧ LcAt K mg I1 H1 D0 (n + 1) (accD ++ [d]) I2 (upd H D0 (.lst (acc ++ [y]))) := by
  obtain ⟨vs, h1, h2, h3⟩ := p.l
  refine ⟨vs, h1, lim_lt (by omega), p.i, fun a o q => ?_, p.z, fun a o q => ?_, p.f, vs ++ [y], upd_same, h2.app (.cons r .nil), by rw [List.length_append, List.length_singleton]; omega⟩
  · rw [upd_ne (ne_of_none q p.z)]
    exact p.e _ _ q
  · rw [upd_ne (ne_of_none q hD)]
    exact p.h _ _ q
theorem LcAt.skip (p : LcAt K mg I1 H1 D0 n accD I2 H) : LcAt K mg I1 H1 D0 (n + 1) accD I2 H := by
  obtain ⟨vs, h1, h2, h3⟩ := p.l
  exact ⟨p.i, p.e, p.z, p.h, p.f, vs, h1, h2, by omega⟩
theorem LcAt.done (p : LcAt K mg I1 H1 D0 n accD I2 H) (hD : H1 D0 = none) : ∃ I', Stp I1 H1 I' H ∧ Rep K mg I' (.ref D0) (.lst accD) := by
  obtain ⟨vs, h1, h2, h3⟩ := p.l
  have k : Same I2 (upd I2 D0 (.lst vs)) := fun a o q => by
    rw [upd_ne (ne_of_none q p.z)]
    exact q
  refine ⟨upd I2 D0 (.lst vs), ⟨p.i.trans k, p.h, fun a o q => ?_, fun a o q => ?_⟩, .lst upd_same (h2.mono k)⟩
  · by_cases e : a = D0
    · subst e
      rw [upd_same] at q
      rw [h1]
      exact q
    · rw [upd_ne e] at q
      exact p.e _ _ q
  · by_cases e : a = D0
    · subst e
      exact .inr (.inl hD)
    · rw [upd_ne e] at q
      exact p.f _ _ q
end
section
variable {X : Cx} {E : Wh} {elt tg iter : Expr} {ifs : List Expr} {scope : Scope} {own : List (Str × Nat)} {pos : Pos} {wi : TI} {g : TG} {tt : TT} {te : TE} {mi : Env → R (List D)} {ag : D → R As} {mt : Env → R Bool} {me : Env → R D}
theorem lc_core {K : PySem.W.Frag} {mg : Gm} {E1 : XK} {vs : List Nat} {σ : L2.St} {ρ : Env} {I1 H1 : Hp} {ds : List D} {J : It} {Q : VK} (sg : SnG K mg g ag) (st : Sn K mg (fun _ => E0) rB tt mt) (se : Sn K mg (fun _ => E0) (Rep K mg) te me) (hv : ∀ d as, ag d = .ok as → ∀ p ∈ as, p.1 ∈ vs) (re : RE K mg I1 σ ρ) (ex : Same I1 H1) (it : ItOk K mg I1 J ds)
    (h : Out K mg E1 (Rep K mg) I1 H1 (if ds.length ≤ LIM then (calm (lcGo ag mt me (wipeE ρ vs) ds) >>= fun r => .ok (.lst r)) else .stuck) Q) : tLc (fun _ H R => R J H) g tt te vs σ H1 Q := by
  intro D0 hD
  obtain ⟨hl, h⟩ := out_if h
  cases eo : lcGo ag mt me (wipeE ρ vs) ds with
  | err _ _ =>
    rw [eo] at h
    exact h.elim
  | stuck =>
    rw [eo] at h
    exact h.elim
  | ok out =>
    rw [eo] at h
    refine ⟨fun i m H => m = ds.length - i ∧ i ≤ ds.length ∧ ∃ I2 accD r, LcAt K mg I1 H1 D0 i accD I2 H ∧ lcGo ag mt me (wipeE ρ vs) (ds.drop i) = .ok r ∧ accD ++ r = out, ⟨ds.length, by simp, Nat.zero_le _, I1, [], out, .start ex hD, eo, rfl⟩, ?_⟩
    rintro i m H2 ⟨rfl, hi, I2, accD, r, p, hr, ho⟩
    have hit := it I2 H2 p.i p.e
    by_cases hlt : i < ds.length
    · have hd : ds[i]? = some ds[i] := List.getElem?_eq_getElem hlt
      obtain ⟨hgo, hy⟩ := hit.1 i _ hd
      refine .inr ⟨hgo, fun H' => ∃ I2 accD r, LcAt K mg I1 H1 D0 (i + 1) accD I2 H' ∧ lcGo ag mt me (wipeE ρ vs) (ds.drop (i + 1)) = .ok r ∧ accD ++ r = out, fun H' hN => ⟨ds.length - (i + 1), by omega, rfl, hlt, hN⟩, fun x H' y => ?_⟩
      obtain ⟨I3, s3, rx⟩ := hy x H' y
      rw [List.drop_eq_getElem_cons hlt] at hr
      unfold lcGo at hr
      obtain ⟨as, ha, hr⟩ := bind_ok hr
      have ha := calm_of ha
      obtain ⟨b, hb, hr⟩ := bind_ok hr
      have hb := calm_of hb
      refine sg x _ I3 H' _ as _ s3.e rx ha fun us ar => ?_
      have hus : ∀ p ∈ us, p.1 ∈ vs := fun p hp => by
        have hm : p.1 ∈ as.map (·.1) := by
          rw [← ar.slots]
          exact List.mem_map_of_mem hp
        obtain ⟨q, hq, e⟩ := List.mem_map.mp hm
        rw [← e]
        exact hv _ _ ha q hq
      refine ⟨by rw [wipe_setS hus, wipe_wipe], ?_⟩
      have re3 : RE K mg I3 (setS (wipe σ vs) us) (setE (wipeE ρ vs) as) := RE.setAll ar ((re.mono (p.i.trans s3.i)).wipe vs)
      have p3 := p.step s3
      refine st _ I3 H' _ _ re3 s3.e ?_
      rw [hb]
      intro b' I4 H4 s4 eb
      have eb : b' = b := eb
      subst eb
      have p4 := p3.step s4
      cases b' with
      | true =>
        show te _ H4 _
        rw [if_pos rfl] at hr
        obtain ⟨yd, hyd, hr⟩ := bind_ok hr
        have hyd := calm_of hyd
        obtain ⟨r', hr', hr⟩ := bind_ok hr
        cases hr
        refine se _ I4 H4 _ _ (re3.mono s4.i) s4.e ?_
        rw [hyd]
        intro yv I5 H5 s5 ry
        obtain ⟨acc, h1, h2, p5⟩ := (p4.step s5).push hD ry (by omega)
        exact ⟨acc, h1, h2, I5, _, r', p5, hr', by rw [List.append_assoc]; exact ho⟩
      | false =>
        rw [if_neg (by decide)] at hr
        exact ⟨I4, accD, r, p4.skip, hr, ho⟩
    · have e : i = ds.length := by omega
      subst e
      rw [List.drop_length] at hr
      cases hr
      obtain ⟨I', s', r'⟩ := p.done hD
      rw [List.append_nil] at ho
      subst ho
      exact .inl ⟨hit.2, h.there s' r'⟩
theorem lc_snd {K : PySem.W.Frag} {mg : Gm} {vs : List Nat} (si : Sn K mg E.e (ItOk K mg) wi mi) (sg : SnG K mg g ag) (st : Sn K mg (fun _ => E0) rB tt mt) (se : Sn K mg (fun _ => E0) (Rep K mg) te me) (hv : ∀ d as, ag d = .ok as → ∀ p ∈ as, p.1 ∈ vs) :
    Sn K mg E.e (Rep K mg) (tLc wi g tt te vs) (lcM vs mi ag mt me) := fun σ I H ρ Q re ex h => by
  refine si.run re ex h fun ds J I1 H1 _ s1 it h => ?_
  exact lc_core sg st se hv (re.mono s1.i) s1.e it h
theorem me_lc (hc : X.calm = true) (hN : X.N.Nodup) (hi : MI X E tg iter wi mi) (ok : BlkOk X.N X.env.scope scope own)
    (hg : ∀ (s : Shared) (H : Hp) (C : Addr) (cl : List (Str × Addr)) (fp : List Addr), MG (X.blk s H scope (compEnvC scope cl C X.env) fp) tg g ag) (ht : ∀ (s : Shared) (H : Hp) (C : Addr) (cl : List (Str × Addr)) (fp : List Addr), MTs (X.blk s H scope (compEnvC scope cl C X.env) fp) E.calm ifs tt mt)
    (he : ∀ (s : Shared) (H : Hp) (C : Addr) (cl : List (Str × Addr)) (fp : List Addr), ME (X.blk s H scope (compEnvC scope cl C X.env) fp) E.calm elt te me) (hv : AgIn ag (· ∈ own.map (·.2))) (hs : ∀ x, foldedSetIterable iter X.env x = pure x := by intro _; rfl) :
    ME X E (.ListComp elt [⟨tg, iter, ifs, 0⟩] scope pos) (tLc wi g tt te (own.map (·.2))) (lcM (own.map (·.2)) mi ag mt me) :=
  ⟨pe_lc hc hN hi.pe ok (fun s H C cl fp => (hg s H C cl fp).pe) (fun s H C cl fp => (ht s H C cl fp).pe) (fun s H C cl fp => (he s H C cl fp).pe) hs,
    lc_snd hi.sn ((hg X.s_0 X.H_0 0 [] []).sn _) (ht X.s_0 X.H_0 0 [] []).sn (he X.s_0 X.H_0 0 [] []).sn hv⟩
end
end DL
namespace DL
open PySem PySem.Spec L2

/-! ### statements -/
inductive Fl where
  | nx (ρ : Env) | rt (d : D) | bk (ρ : Env) | ct (ρ : Env) | rf (ds : List D)
/-- a thing of one's own and what it is as data -/
inductive OwnR (K : PySem.W.Frag) (mg : Gm) (I : Hp) : HO → D → Prop
  | lst {vs : List V} {ds : List D} : Reps K mg I vs ds → OwnR K mg I (.lst vs) (.lst ds)
  | dk {kvs : List (Key × V)} {ds : List D} : Reps K mg I (kvs.map (·.2)) ds → OwnR K mg I (.dK kvs) (.dk (kvs.map (·.1)) ds)
  | dt {kvs : List (List Key × V)} {ds : List D} : Reps K mg I (kvs.map (·.2)) ds → OwnR K mg I (.dT kvs) (.dt (kvs.map (·.1)) ds)
  | ins {C dx : Addr} {n : Str} {fs : List (Str × V)} {ds : List D} : mg n = some (.ref C) → Reps K mg I (fs.map (·.2)) ds → OwnR K mg I (.ins C dx fs) (.obj n (fs.map (·.1)) ds)
theorem OwnR.mono {K : PySem.W.Frag} {mg : Gm} {I I' : Hp} (e : Same I I') {o : HO} {d : D} (h : OwnR K mg I o d) : OwnR K mg I' o d := by
  cases h with
  | lst r => exact .lst (r.mono e)
  | dk r => exact .dk (r.mono e)
  | dt r => exact .dt (r.mono e)
  | ins c r => exact .ins c (r.mono e)
theorem OwnR.noTup {K : PySem.W.Frag} {mg : Gm} {I : Hp} {o : HO} {d : D} (h : OwnR K mg I o d) : ¬ TupO o := fun t => by
  cases h <;> exact t
theorem OwnR.rep {K : PySem.W.Frag} {mg : Gm} {I : Hp} {o : HO} {d : D} {p : Addr} (h : OwnR K mg I o d) (hp : I p = some o) : Rep K mg I (.ref p) d := by
  cases h with
  | lst r => exact .lst hp r
  | dk r => exact .dk (.inl hp) r
  | dt r => exact .dt (.inl hp) r
  | ins c r => exact .obj hp c r
/-! ### what may be kept although things of one's own were read: data in which nothing is of their kind -/
def D.kind : D → Nat
  | .lst _ => 0
  | .dk _ _ => 1
  | .dt _ _ => 2
  | .obj _ _ _ => 3
  | _ => 4
mutual
def D.has (k : Nat) : D → Bool
  | .lst ds => k == 0 || D.hasAny k ds
  | .tup ds => D.hasAny k ds
  | .scr _ => k == 0
  | .obj _ _ ds => k == 3 || D.hasAny k ds
  | .dk _ ds => k == 1 || D.hasAny k ds
  | .dt _ ds => k == 2 || D.hasAny k ds
  | .exc _ _ ds => D.hasAny k ds
  | _ => false
def D.hasAny (k : Nat) : List D → Bool
  | [] => false
  | d :: ds => D.has k d || D.hasAny k ds
end
/-- the slot's thing holds lists of one's own: it stands twice -/
def deep (M : List Nat) (i : Nat) : Bool := decide (2 ≤ M.count i)
def keepOk (M : List Nat) (ρ : Env) (d : D) : Bool := M.all fun i => match ρ[i]? with
  | some (some d0) => !(d.has d0.kind) && (!(deep M i) || !(d.has 0))
  | _ => true
/-- an object of the heap of that kind -/
def HO.kd : HO → Nat
  | .lst _ => 0
  | .dK _ => 1
  | .dT _ => 2
  | .ins _ _ _ => 3
  | _ => 4
theorem OwnR.kd4 {K : PySem.W.Frag} {mg : Gm} {I : Hp} {o : HO} {d : D} (h : OwnR K mg I o d) : HO.kd o < 4 := by
  cases h with
  | lst _ => exact (by decide : 0 < 4)
  | dk _ => exact (by decide : 1 < 4)
  | dt _ => exact (by decide : 2 < 4)
  | ins _ _ => exact (by decide : 3 < 4)
theorem OwnR.kd {K : PySem.W.Frag} {mg : Gm} {I : Hp} {o : HO} {d : D} (h : OwnR K mg I o d) : HO.kd o = d.kind := by
  cases h <;> rfl
/-- the things that a thing holds -/
def hvals : HO → List V
  | .lst vs => vs
  | .dK kvs => kvs.map (·.2)
  | .dT kvs => kvs.map (·.2)
  | _ => []
/-- a list of one's own within a thing of one's own -/
def Kid (K : PySem.W.Frag) (mg : Gm) (I He H : Hp) (v : V) (d : D) : Prop := ∃ q ws es, v = .ref q ∧ d = .lst es ∧ I q = none ∧ He q = none ∧ H q = some (.lst ws) ∧ Reps K mg I ws es
inductive Kids (K : PySem.W.Frag) (mg : Gm) (I He H : Hp) : List V → List D → Prop
  | nil : Kids K mg I He H [] []
  | cons {v : V} {d : D} {vs : List V} {ds : List D} : Kid K mg I He H v d → Kids K mg I He H vs ds → Kids K mg I He H (v :: vs) (d :: ds)
inductive OwnD (K : PySem.W.Frag) (mg : Gm) (I He H : Hp) : HO → D → Prop
  | lst {vs : List V} {ds : List D} : Kids K mg I He H vs ds → OwnD K mg I He H (.lst vs) (.lst ds)
  | dk {kvs : List (Key × V)} {ds : List D} : Kids K mg I He H (kvs.map (·.2)) ds → OwnD K mg I He H (.dK kvs) (.dk (kvs.map (·.1)) ds)
  | dt {kvs : List (List Key × V)} {ds : List D} : Kids K mg I He H (kvs.map (·.2)) ds → OwnD K mg I He H (.dT kvs) (.dt (kvs.map (·.1)) ds)
def OwnX (K : PySem.W.Frag) (mg : Gm) (M : List Nat) (i : Nat) (I He H : Hp) (p : Addr) (o : HO) (d : D) : Prop := if deep M i = true then OwnD K mg I He H o d ∧ (hvals o).Nodup ∧ V.ref p ∉ (hvals o) else OwnR K mg I o d
/-- the addresses that are the slot's own -/
abbrev ownA (M : List Nat) (H : Hp) (i : Nat) (p a : Addr) : Prop := a = p ∨ (deep M i = true ∧ ∃ o, H p = some o ∧ V.ref a ∈ (hvals o))
/-- the slots of M hold lists of the def's own that nothing else holds; all other data lie in I, which is never changed -/
structure SE (K : PySem.W.Frag) (mg : Gm) (M : List Nat) (Ie : Hp × Addr) (He : Hp) (σ : L2.St) (I H : Hp) (ρ : Env) : Prop where
  st : Stp Ie.1 He I H
  len : σ.length = ρ.length
  imm : ∀ (i : Nat) (d : D), i ∉ M → ρ[i]? = some (some d) → ∃ v, σ[i]? = some (some v) ∧ Rep K mg I v d
  own_ : ∀ (i : Nat) (d : D), i ∈ M → ρ[i]? = some (some d) → ∃ p o, σ[i]? = some (some (.ref p)) ∧ I p = none ∧ He p = none ∧ H p = some o ∧ OwnX K mg M i I He H p o d
  dis : ∀ (i j : Nat) (p p' : Addr) (d e : D), i ∈ M → j ∈ M → i ≠ j → ρ[i]? = some (some d) → ρ[j]? = some (some e) → σ[i]? = some (some (.ref p)) → σ[j]? = some (some (.ref p')) → ∀ a, ownA M H i p a → ownA M H j p' a → False
  /-- an own object is the one that is being made -/
  slf : ∀ (i : Nat) (d : D) (p : Addr), i ∈ M → ρ[i]? = some (some d) → σ[i]? = some (some (.ref p)) → d.kind = 3 → p = Ie.2
/-- I0: what the data lay in at the start -/
def OutS (K : PySem.W.Frag) (mg : Gm) (E : XK) (Mb M : List Nat) (Ie : Hp × Addr) (He I0 : Hp) (D : Ends) (r : R Fl) : Prop := match r with
  | .ok (.nx ρ) => ∀ σ I H, SE K mg M Ie He σ I H ρ → Same I0 I → D.nx σ H
  | .ok (.bk ρ) => ∀ σ I H, SE K mg Mb Ie He σ I H ρ → Same I0 I → D.bk σ H
  | .ok (.ct ρ) => ∀ σ I H, SE K mg Mb Ie He σ I H ρ → Same I0 I → D.ct σ H
  | .ok (.rt d) => ∀ v I H, Stp Ie.1 He I H → Rep K mg I v d → D.rt v H
  | .ok (.rf ds) => ∀ p vs I H, Stp Ie.1 He I H → I p = none → He p = none → H p = some (.lst vs) → Reps K mg I vs ds → D.rt (.ref p) H
  | .err nm ds => ∀ C od I H, Stp Ie.1 He I H → XRep K mg I H nm ds C od → E C od H
  | .stuck => False
def SnS (K : PySem.W.Frag) (mg : Gm) (E : XK) (Mb M M' : List Nat) (ts : TS) (ms : Env → R Fl) : Prop :=
  ∀ (Ie : Hp × Addr) (He : Hp) (σ : L2.St) (I H : Hp) (ρ : Env) (D : Ends), SE K mg M Ie He σ I H ρ → OutS K mg E Mb M' Ie He I D (ms ρ) → ts D σ H
structure MS (X : Cx) (E : XK) (Mb M M' : List Nat) (s : Stmt) (ts : TS) (ms : Env → R Fl) : Prop where
  pe : PS X s ts
  sn : SnS X.K (g0 X.mg) E Mb M M' ts ms
structure MSs (X : Cx) (E : XK) (Mb M M' : List Nat) (s : List Stmt) (ts : TS) (ms : Env → R Fl) : Prop where
  pe : PSs X s ts
  sn : SnS X.K (g0 X.mg) E Mb M M' ts ms

section
variable {K : PySem.W.Frag} {mg : Gm} {E : XK} {Mb M M' : List Nat} {Ie : Hp × Addr} {He I H I' H' : Hp} {σ : L2.St} {ρ : Env} {v : V} {d : D} {vs0 : List V}
theorem wipeE_at (τ : Env) (j : Nat) : ∀ vs : List Nat, (wipeE τ vs)[j]? = if j ∈ vs then (if j < τ.length then some none else none) else τ[j]? := fun vs => by
  induction vs with
  | nil => simp [wipeE]
  | cons v vs ih =>
    unfold wipeE
    by_cases e : v = j
    · subst e
      simp only [List.mem_cons_self, if_true]
      by_cases hl : v < τ.length
      · rw [List.getElem?_set_self (by rw [wipeE_len]; exact hl), if_pos hl]
      · rw [if_neg hl, List.getElem?_eq_none (by rw [List.length_set, wipeE_len]; omega)]
    · rw [List.getElem?_set_ne e, ih]
      have : (j ∈ v :: vs) = (j ∈ vs) := by
        simp only [List.mem_cons, eq_iff_iff]
        exact ⟨fun h => h.elim (fun z => absurd z.symm e) id, .inr⟩
      simp only [this]
theorem wipeE_some {τ : Env} {j : Nat} {vs : List Nat} {d : D} (h : (wipeE τ vs)[j]? = some (some d)) : j ∉ vs ∧ τ[j]? = some (some d) := by
  rw [wipeE_at] at h
  by_cases hj : j ∈ vs
  · rw [if_pos hj] at h
    split at h <;> cases h
  · rw [if_neg hj] at h
    exact ⟨hj, h⟩
/-- what the slots beside M hold -/
theorem SE.re (s : SE K mg M Ie He σ I H ρ) : RE K mg I σ (wipeE ρ M) := ⟨by rw [wipeE_len]; exact s.len, fun i d q => by
  obtain ⟨h1, h2⟩ := wipeE_some q
  exact s.imm i d h1 h2⟩
theorem Kid.step (h : Kid K mg I He H v d) (t : Stp I H I' H') : Kid K mg I' He H' v d := by
  obtain ⟨q, ws, es, h1, h2, h3, h4, h5, h6⟩ := h
  refine ⟨q, ws, es, h1, h2, ?_, h4, t.h _ _ h5, h6.mono t.i⟩
  cases z : I' q with
  | none => rfl
  | some o =>
    rcases t.f _ _ z with y | y | y
    · rw [h3] at y
      cases y
    · rw [h5] at y
      cases y
    · have w := t.e _ _ z
      rw [t.h _ _ h5] at w
      cases w
      exact y.elim
theorem Kids.step (t : Stp I H I' H') : ∀ {vs : List V} {ds : List D}, Kids K mg I He H vs ds → Kids K mg I' He H' vs ds
  | _, _, .nil => .nil
  | _, _, .cons h r => .cons (h.step t) (Kids.step t r)
theorem OwnD.step {o : HO} {d : D} (h : OwnD K mg I He H o d) (t : Stp I H I' H') : OwnD K mg I' He H' o d := by
  cases h with
  | lst r => exact .lst (r.step t)
  | dk r => exact .dk (r.step t)
  | dt r => exact .dt (r.step t)
theorem OwnX.of {i : Nat} {p : Addr} {o : HO} {d : D} (h : OwnX K mg M i I He H p o d) (hd : deep M i = false) : OwnR K mg I o d := by
  unfold OwnX at h
  rw [hd] at h
  exact h
theorem OwnX.mk {i : Nat} {p : Addr} {o : HO} {d : D} (h : OwnR K mg I o d) (hd : deep M i = false) : OwnX K mg M i I He H p o d := by
  unfold OwnX
  rw [hd]
  exact h
theorem OwnX.ofD {i : Nat} {p : Addr} {o : HO} {d : D} (h : OwnX K mg M i I He H p o d) (hd : deep M i = true) : OwnD K mg I He H o d ∧ (hvals o).Nodup ∧ V.ref p ∉ (hvals o) := by
  unfold OwnX at h
  rw [if_pos hd] at h
  exact h
theorem OwnX.mkD {i : Nat} {p : Addr} {o : HO} {d : D} (h : OwnD K mg I He H o d ∧ (hvals o).Nodup ∧ V.ref p ∉ (hvals o)) (hd : deep M i = true) : OwnX K mg M i I He H p o d := by
  unfold OwnX
  rw [if_pos hd]
  exact h
theorem OwnX.noTup {i : Nat} {p : Addr} {o : HO} {d : D} (h : OwnX K mg M i I He H p o d) : ¬ TupO o := by
  cases hd : deep M i with
  | false => exact (h.of hd).noTup
  | true =>
    have h := (h.ofD hd).1
    intro y
    cases h <;> exact y
theorem OwnX.step {i : Nat} {p : Addr} {o : HO} {d : D} (h : OwnX K mg M i I He H p o d) (t : Stp I H I' H') : OwnX K mg M i I' He H' p o d := by
  cases hd : deep M i with
  | false => exact .mk ((h.of hd).mono t.i) hd
  | true =>
    obtain ⟨h1, h2, h3⟩ := h.ofD hd
    exact .mkD ⟨h1.step t, h2, h3⟩ hd
/-- which addresses are one's own does not change by a step -/
theorem ownA.step {i : Nat} {p a : Addr} {o : HO} (hp : H p = some o) (t : Same H H') (h : ownA M H' i p a) : ownA M H i p a := by
  rcases h with h | ⟨hd, o', ho, hm⟩
  · exact .inl h
  · rw [t _ _ hp] at ho
    cases ho
    exact .inr ⟨hd, o, hp, hm⟩
/-- nothing that stood is changed: the slots stand -/
theorem SE.step (s : SE K mg M Ie He σ I H ρ) (t : Stp I H I' H') : SE K mg M Ie He σ I' H' ρ where
  st := s.st.trans t
  len := s.len
  imm := fun i d hi q => by
    obtain ⟨v, a, b⟩ := s.imm i d hi q
    exact ⟨v, a, b.mono t.i⟩
  own_ := fun i d hi q => by
    obtain ⟨p, o, h2, h3, h4, h5, h6⟩ := s.own_ i d hi q
    refine ⟨p, o, h2, ?_, h4, t.h _ _ h5, h6.step t⟩
    cases z : I' p with
    | none => rfl
    | some o =>
      rcases t.f _ _ z with y | y | y
      · rw [h3] at y
        cases y
      · rw [h5] at y
        cases y
      · have w := t.e _ _ z
        rw [t.h _ _ h5] at w
        cases w
        exact (h6.noTup y).elim
  dis := fun i j p p' d e hi hj hne q1 q2 g1 g2 a a1 a2 => by
    obtain ⟨p1, o1, h2, _, _, h5, _⟩ := s.own_ i d hi q1
    obtain ⟨p2, o2, k2, _, _, k5, _⟩ := s.own_ j e hj q2
    rw [g1] at h2
    cases h2
    rw [g2] at k2
    cases k2
    exact s.dis i j p p' d e hi hj hne q1 q2 g1 g2 a (a1.step h5 t.h) (a2.step k5 t.h)
  slf := s.slf
theorem count_cons_ne {i j : Nat} (h : i ≠ j) : (i :: M).count j = M.count j := List.count_cons_of_ne (by simpa using h)
theorem deep_cons_ne {i j : Nat} (h : i ≠ j) : deep (i :: M) j = deep M j := by
  unfold deep
  rw [count_cons_ne h]
theorem deep_cons {i : Nat} (h : i ∈ M) : deep (i :: M) i = true := by
  unfold deep
  rw [List.count_cons_self]
  have := List.count_pos_iff.mpr h
  exact decide_eq_true (by omega)
theorem deep_not {i : Nat} (h : i ∉ M) : deep (i :: M) i = false := by
  unfold deep
  rw [List.count_cons_self, List.count_eq_zero_of_not_mem h]
  rfl
theorem Kids.at_ : ∀ {vs : List V} {ds : List D} {v : V}, Kids K mg I He H vs ds → v ∈ vs → ∃ d, Kid K mg I He H v d
  | _, _, _, .nil, h => by simp at h
  | _, _, v, .cons k r, h => by
    rcases List.mem_cons.mp h with rfl | h
    · exact ⟨_, k⟩
    · exact Kids.at_ r h
theorem OwnD.kids {o : HO} {d : D} (h : OwnD K mg I He H o d) {v : V} (hv : v ∈ (hvals o)) : ∃ d, Kid K mg I He H v d := by
  cases h with
  | lst r => exact r.at_ hv
  | dk r => exact r.at_ hv
  | dt r => exact r.at_ hv
theorem OwnD.kd {o : HO} {d : D} (h : OwnD K mg I He H o d) : HO.kd o = d.kind ∧ HO.kd o < 4 := by
  cases h with
  | lst _ => exact ⟨rfl, by show 0 < 4; decide⟩
  | dk _ => exact ⟨rfl, by show 1 < 4; decide⟩
  | dt _ => exact ⟨rfl, by show 2 < 4; decide⟩
/-- the lists within lie in I -/
theorem Kids.reps (hs : Same I I') (hk : ∀ q, V.ref q ∈ (vs0 : List V) → I' q = H q) : ∀ {vs : List V} {ds : List D}, (∀ v ∈ vs, v ∈ vs0) → Kids K mg I He H vs ds → Reps K mg I' vs ds
  | _, _, _, .nil => .nil
  | _, _, hm, .cons k r => by
    obtain ⟨q, ws, es, rfl, rfl, h3, h4, h5, h6⟩ := k
    refine .cons (.lst ((hk q (hm _ List.mem_cons_self)).trans h5) (h6.mono hs)) (Kids.reps hs hk (fun v hv => hm v (List.mem_cons_of_mem _ hv)) r)
theorem OwnD.flat {o : HO} {d : D} (h : OwnD K mg I He H o d) (hs : Same I I') (hk : ∀ q, V.ref q ∈ (hvals o) → I' q = H q) : OwnR K mg I' o d := by
  cases h with
  | lst r => exact .lst (r.reps hs hk fun _ h => h)
  | dk r => exact .dk (r.reps hs hk fun _ h => h)
  | dt r => exact .dt (r.reps hs hk fun _ h => h)
theorem OwnX.other {i : Nat} {p : Addr} {o : HO} {d : D} (h : OwnX K mg M i I He H p o d) (hp : H p = some o) (hs : Same I I') (hn : ∀ a, ownA M H i p a → I' a = none) : OwnX K mg M i I' He H p o d := by
  cases hd : deep M i with
  | false => exact .mk ((h.of hd).mono hs) hd
  | true =>
    obtain ⟨h1, h2, h3⟩ := h.ofD hd
    have kk : ∀ {vs : List V} {ds : List D}, (∀ v ∈ vs, v ∈ (hvals o)) → Kids K mg I He H vs ds → Kids K mg I' He H vs ds := by
      intro vs ds hm k
      induction k with
      | nil => exact .nil
      | cons k r ih =>
        obtain ⟨q, ws, es, rfl, rfl, g3, g4, g5, g6⟩ := k
        exact .cons ⟨q, ws, es, rfl, rfl, hn q (.inr ⟨hd, o, hp, hm _ List.mem_cons_self⟩), g4, g5, g6.mono hs⟩ (ih fun v hv => hm v (List.mem_cons_of_mem _ hv))
    refine .mkD ⟨?_, h2, h3⟩ hd
    cases h1 with
    | lst r => exact .lst (kk (fun _ h => h) r)
    | dk r => exact .dk (kk (fun _ h => h) r)
    | dt r => exact .dt (kk (fun _ h => h) r)
theorem OwnX.cons {i j : Nat} {p : Addr} {o : HO} {d : D} (h : OwnX K mg (i :: M) j I He H p o d) (hne : i ≠ j) : OwnX K mg M j I He H p o d := by
  unfold OwnX at h ⊢
  rw [deep_cons_ne hne] at h
  exact h
theorem ownA.cons {i j : Nat} {p a : Addr} (h : ownA M H j p a) : ownA (i :: M) H j p a := by
  rcases h with h | ⟨hd, h⟩
  · exact .inl h
  · refine .inr ⟨?_, h⟩
    unfold deep at hd ⊢
    have := of_decide_eq_true hd
    refine decide_eq_true (Nat.le_trans this ?_)
    rw [List.count_cons]
    exact Nat.le_add_right _ _
/-- what is new in I when a slot is changed no more -/
def Nw (M : List Nat) (ρ : Env) (i : Nat) (o : HO) : Prop := ∃ d, ρ[i]? = some (some d) ∧ (HO.kd o = d.kind ∨ (deep M i = true ∧ HO.kd o = 0)) ∧ HO.kd o < 4
/-- a thing of one's own is changed no more (of one that holds lists of one's own: these are changed no more) -/
theorem SE.freeze2 (i : Nat) (s : SE K mg (i :: M) Ie He σ I H ρ) : ∃ I', Same I I' ∧ SE K mg M Ie He σ I' H ρ ∧ ∀ a o, I' a = some o → I a = some o ∨ Nw (i :: M) ρ i o := by
  cases q0 : (ρ : List (Option D))[i]? with
  | none =>
    have ne : ∀ j d, (ρ : List (Option D))[j]? = some (some d) → i ≠ j := fun j d q e => by
      subst e
      rw [q0] at q
      cases q
    exact ⟨I, .refl _, ⟨s.st, s.len, fun j d hj q => s.imm j d (fun z => (List.mem_cons.mp z).elim (fun e => ne j d q e.symm) hj) q, fun j d hj q => by
      obtain ⟨p, o, h2, h3, h4, h5, h6⟩ := s.own_ j d (List.mem_cons_of_mem _ hj) q
      exact ⟨p, o, h2, h3, h4, h5, h6.cons (ne j d q)⟩, fun j k p p' d e a b hne q1 q2 g1 g2 x x1 x2 => s.dis j k p p' d e (List.mem_cons_of_mem _ a) (List.mem_cons_of_mem _ b) hne q1 q2 g1 g2 x x1.cons x2.cons, fun j d p hj q => s.slf j d p (List.mem_cons_of_mem _ hj) q⟩, fun _ _ q => .inl q⟩
  | some ov =>
    cases ov with
    | none =>
      have ne : ∀ j d, (ρ : List (Option D))[j]? = some (some d) → i ≠ j := fun j d q e => by
        subst e
        rw [q0] at q
        cases q
      exact ⟨I, .refl _, ⟨s.st, s.len, fun j d hj q => s.imm j d (fun z => (List.mem_cons.mp z).elim (fun e => ne j d q e.symm) hj) q, fun j d hj q => by
        obtain ⟨p, o, h2, h3, h4, h5, h6⟩ := s.own_ j d (List.mem_cons_of_mem _ hj) q
        exact ⟨p, o, h2, h3, h4, h5, h6.cons (ne j d q)⟩, fun j k p p' d e a b hne q1 q2 g1 g2 x x1 x2 => s.dis j k p p' d e (List.mem_cons_of_mem _ a) (List.mem_cons_of_mem _ b) hne q1 q2 g1 g2 x x1.cons x2.cons, fun j d p hj q => s.slf j d p (List.mem_cons_of_mem _ hj) q⟩, fun _ _ q => .inl q⟩
    | some d0 =>
      obtain ⟨p, ob, h2, h3, h4, h5, h6⟩ := s.own_ i d0 List.mem_cons_self q0
      by_cases him : i ∈ M
      · have hdp := deep_cons him
        obtain ⟨hD, hnd, hnp⟩ := h6.ofD hdp
        by_cases hd2 : deep M i = true
        · refine ⟨I, .refl _, ⟨s.st, s.len, fun j d hj q => s.imm j d (fun z => (List.mem_cons.mp z).elim (fun e => hj (e ▸ him)) hj) q, fun j d hj q => ?_, fun j k p p' d e a b hne q1 q2 g1 g2 x x1 x2 => s.dis j k p p' d e (List.mem_cons_of_mem _ a) (List.mem_cons_of_mem _ b) hne q1 q2 g1 g2 x x1.cons x2.cons, fun j d p hj q => s.slf j d p (List.mem_cons_of_mem _ hj) q⟩, fun _ _ q => .inl q⟩
          obtain ⟨p1, o1, k2, k3, k4, k5, k6⟩ := s.own_ j d (List.mem_cons_of_mem _ hj) q
          refine ⟨p1, o1, k2, k3, k4, k5, ?_⟩
          by_cases e : i = j
          · subst e
            exact .mkD (k6.ofD hdp) hd2
          · exact k6.cons e
        · have hd2 : deep M i = false := by simpa using hd2
          let I' : Hp := fun a => if V.ref a ∈ (hvals ob) then H a else I a
          have kid : ∀ a, V.ref a ∈ (hvals ob) → I a = none ∧ He a = none ∧ ∃ ws, H a = some (.lst ws) := fun a ha => by
            obtain ⟨d, q, ws, es, e1, _, g3, g4, g5, _⟩ := hD.kids ha
            cases e1
            exact ⟨g3, g4, ws, g5⟩
          have k : Same I I' := fun a o z => by
            show (if V.ref a ∈ (hvals ob) then H a else I a) = some o
            by_cases ha : V.ref a ∈ (hvals ob)
            · rw [(kid a ha).1] at z
              cases z
            · rw [if_neg ha]
              exact z
          have kin : ∀ a, V.ref a ∈ (hvals ob) → I' a = H a := fun a ha => if_pos ha
          have kout : ∀ a, V.ref a ∉ (hvals ob) → I' a = I a := fun a ha => if_neg ha
          have own' : ∀ a, V.ref a ∈ (hvals ob) → ownA (i :: M) H i p a := fun a ha => .inr ⟨hdp, ob, h5, ha⟩
          refine ⟨I', k, ⟨⟨s.st.i.trans k, s.st.h, fun a o z => ?_, fun a o z => ?_⟩, s.len, fun j d hj q => ?_, fun j d hj q => ?_, fun j l p1 p2 d e a b hne q1 q2 g1 g2 x x1 x2 => s.dis j l p1 p2 d e (List.mem_cons_of_mem _ a) (List.mem_cons_of_mem _ b) hne q1 q2 g1 g2 x x1.cons x2.cons, fun j d p hj q => s.slf j d p (List.mem_cons_of_mem _ hj) q⟩, fun a o z => ?_⟩
          · by_cases ha : V.ref a ∈ (hvals ob)
            · rw [kin a ha] at z
              exact z
            · rw [kout a ha] at z
              exact s.st.e _ _ z
          · by_cases ha : V.ref a ∈ (hvals ob)
            · exact .inr (.inl (kid a ha).2.1)
            · rw [kout a ha] at z
              exact s.st.f _ _ z
          · obtain ⟨v, x, y⟩ := s.imm j d (fun z => (List.mem_cons.mp z).elim (fun e => hj (e ▸ him)) hj) q
            exact ⟨v, x, y.mono k⟩
          · by_cases e : i = j
            · subst e
              rw [q0] at q
              cases q
              exact ⟨p, ob, h2, by rw [kout p hnp]; exact h3, h4, h5, .mk (hD.flat k kin) hd2⟩
            · obtain ⟨p1, o1, g2, g3, g4, g5, g6⟩ := s.own_ j d (List.mem_cons_of_mem _ hj) q
              have dd : ∀ a, ownA (i :: M) H j p1 a → V.ref a ∉ (hvals ob) := fun a ha hv => s.dis i j p p1 d0 d List.mem_cons_self (List.mem_cons_of_mem _ hj) e q0 q h2 g2 a (own' a hv) ha
              have none_ : ∀ a, ownA (i :: M) H j p1 a → I' a = none := fun a ha => by
                rw [kout a (dd a ha)]
                rcases ha with rfl | ⟨hdj, o2, ho2, hv⟩
                · exact g3
                · rw [g5] at ho2
                  cases ho2
                  obtain ⟨_, q', ws, es, e1, _, g3', _⟩ := (g6.ofD hdj).1.kids hv
                  cases e1
                  exact g3'
              exact ⟨p1, o1, g2, none_ p1 (.inl rfl), g4, g5, (g6.other g5 k none_).cons e⟩
          · by_cases ha : V.ref a ∈ (hvals ob)
            · obtain ⟨_, _, ws, hw⟩ := kid a ha
              rw [kin a ha, hw] at z
              cases z
              exact .inr ⟨d0, q0, .inr ⟨hdp, rfl⟩, by show 0 < 4; decide⟩
            · rw [kout a ha] at z
              exact .inl z
      · have hdn := deep_not him
        have hR := h6.of hdn
        have k : Same I (upd I p ob) := fun a o q => by
          rw [upd_ne (ne_of_none q h3)]
          exact q
        have h9 : HO.kd ob = d0.kind ∧ HO.kd ob < 4 := ⟨hR.kd, hR.kd4⟩
        refine ⟨upd I p ob, k, ⟨⟨s.st.i.trans k, s.st.h, fun a o q => ?_, fun a o q => ?_⟩, s.len, fun j d hj q => ?_, fun j d hj q => ?_, fun j l p1 p2 d e a b hne q1 q2 g1 g2 x x1 x2 => s.dis j l p1 p2 d e (List.mem_cons_of_mem _ a) (List.mem_cons_of_mem _ b) hne q1 q2 g1 g2 x x1.cons x2.cons, fun j d p hj q => s.slf j d p (List.mem_cons_of_mem _ hj) q⟩, fun a o q => by
          by_cases e : a = p
          · subst e
            rw [upd_same] at q
            cases q
            exact .inr ⟨d0, q0, .inl h9.1, h9.2⟩
          · rw [upd_ne e] at q
            exact .inl q⟩
        · by_cases e : a = p
          · subst e
            rw [upd_same] at q
            rw [h5]
            exact q
          · rw [upd_ne e] at q
            exact s.st.e _ _ q
        · by_cases e : a = p
          · subst e
            exact .inr (.inl h4)
          · rw [upd_ne e] at q
            exact s.st.f _ _ q
        · by_cases e : j = i
          · subst e
            rw [q0] at q
            cases q
            exact ⟨_, h2, (hR.mono k).rep upd_same⟩
          · obtain ⟨v, a, b⟩ := s.imm j d (fun z => (List.mem_cons.mp z).elim e hj) q
            exact ⟨v, a, b.mono k⟩
        · have e : i ≠ j := fun e => him (e ▸ hj)
          obtain ⟨p', o', g2, g3, g4, g5, g6⟩ := s.own_ j d (List.mem_cons_of_mem _ hj) q
          have none_ : ∀ a, ownA (i :: M) H j p' a → (upd I p ob) a = none := fun a ha => by
            have hne : a ≠ p := fun z => by
              subst z
              exact s.dis i j a p' _ _ List.mem_cons_self (List.mem_cons_of_mem _ hj) e q0 q h2 g2 a (.inl rfl) ha
            rw [upd_ne hne]
            rcases ha with rfl | ⟨hdj, o2, ho2, hv⟩
            · exact g3
            · rw [g5] at ho2
              cases ho2
              obtain ⟨_, q', ws, es, e1, _, g3', _⟩ := (g6.ofD hdj).1.kids hv
              cases e1
              exact g3'
          exact ⟨p', o', g2, none_ p' (.inl rfl), g4, g5, (g6.other g5 k none_).cons e⟩
theorem SE.freeze (i : Nat) (s : SE K mg (i :: M) Ie He σ I H ρ) : ∃ I', Same I I' ∧ SE K mg M Ie He σ I' H ρ := by
  obtain ⟨I', a, b, _⟩ := s.freeze2 i
  exact ⟨I', a, b⟩
theorem deep_more {i j : Nat} (h : deep M j = true) : deep (i :: M) j = true := by
  unfold deep at h ⊢
  have := of_decide_eq_true h
  refine decide_eq_true (Nat.le_trans this ?_)
  rw [List.count_cons]
  exact Nat.le_add_right _ _
theorem SE.all2 : ∀ {M : List Nat} {I : Hp}, SE K mg M Ie He σ I H ρ → ∃ I', Same I I' ∧ SE K mg [] Ie He σ I' H ρ ∧ ∀ a o, I' a = some o → I a = some o ∨ ∃ i ∈ M, Nw M ρ i o
  | [], I, s => ⟨I, .refl _, s, fun _ _ q => .inl q⟩
  | i :: M, I, s => by
    obtain ⟨I1, k1, s1, f1⟩ := s.freeze2 i
    obtain ⟨I2, k2, s2, f2⟩ := SE.all2 s1
    refine ⟨I2, k1.trans k2, s2, fun a o q => ?_⟩
    rcases f2 a o q with q | ⟨j, hj, d, q1, q2, q3⟩
    · rcases f1 a o q with q | q
      · exact .inl q
      · exact .inr ⟨i, List.mem_cons_self, q⟩
    · exact .inr ⟨j, List.mem_cons_of_mem _ hj, d, q1, q2.imp id (fun z => ⟨deep_more z.1, z.2⟩), q3⟩
theorem SE.all : ∀ {M : List Nat} {I : Hp}, SE K mg M Ie He σ I H ρ → ∃ I', Same I I' ∧ SE K mg [] Ie He σ I' H ρ
  | [], I, s => ⟨I, .refl _, s⟩
  | i :: M, I, s => by
    obtain ⟨I1, k1, s1⟩ := s.freeze i
    obtain ⟨I2, k2, s2⟩ := SE.all s1
    exact ⟨I2, k1.trans k2, s2⟩
/-- a slot beside M is stored -/
theorem SE.set {i : Nat} {v : V} {d : D} (s : SE K mg M Ie He σ I H ρ) (hi : i ∉ M) (r : Rep K mg I v d) : SE K mg M Ie He (σ.set i (some v)) I H (ρ.set i (some d)) where
  st := s.st
  len := by rw [List.length_set, List.length_set, s.len]
  imm := fun j e hj q => by
    rcases set_of_lt q with ⟨rfl, rfl⟩ | ⟨hne, q⟩
    · have hl := (List.getElem?_eq_some_iff.mp q).1
      rw [List.length_set] at hl
      exact ⟨v, List.getElem?_set_self (by rw [s.len]; exact hl), r⟩
    · rw [List.getElem?_set_ne hne]
      exact s.imm j e hj q
  own_ := fun j e hj q => by
    have hne : i ≠ j := fun z => hi (z ▸ hj)
    rw [List.getElem?_set_ne hne] at q
    rw [List.getElem?_set_ne hne]
    exact s.own_ j e hj q
  dis := fun j k p p' d e hj hk hne q1 q2 h1 h2 => by
    have n1 : i ≠ j := fun z => hi (z ▸ hj)
    have n2 : i ≠ k := fun z => hi (z ▸ hk)
    rw [List.getElem?_set_ne n1] at q1 h1
    rw [List.getElem?_set_ne n2] at q2 h2
    exact s.dis j k p p' d e hj hk hne q1 q2 h1 h2
  slf := fun j e p hj q h => by
    have hne : i ≠ j := fun z => hi (z ▸ hj)
    rw [List.getElem?_set_ne hne] at q h
    exact s.slf j e p hj q h
theorem SE.setAll {us : List (Nat × V)} {as : As} (ar : AR K mg I us as) : ∀ {σ : L2.St} {ρ : Env}, SE K mg M Ie He σ I H ρ → (∀ p ∈ as, p.1 ∉ M) → SE K mg M Ie He (setS σ us) I H (setE ρ as) := by
  induction ar with
  | nil => exact fun s _ => s
  | cons r _ ih => exact fun s h => ih (s.set (h _ List.mem_cons_self) r) fun p hp => h p (List.mem_cons_of_mem _ hp)
theorem Kid.grow (h : Kid K mg I He H v d) (t : Same H H') : Kid K mg I He H' v d := by
  obtain ⟨q, ws, es, h1, h2, h3, h4, h5, h6⟩ := h
  exact ⟨q, ws, es, h1, h2, h3, h4, t _ _ h5, h6⟩
/-- the lists within stand as they were -/
theorem Kids.keep : ∀ {vs : List V} {ds : List D}, (∀ q, V.ref q ∈ vs → H' q = H q) → Kids K mg I He H vs ds → Kids K mg I He H' vs ds
  | _, _, _, .nil => .nil
  | _, _, hk, .cons k r => by
    obtain ⟨q, ws, es, rfl, rfl, h3, h4, h5, h6⟩ := k
    exact .cons ⟨q, ws, es, rfl, rfl, h3, h4, (hk q List.mem_cons_self).trans h5, h6⟩ (Kids.keep (fun q hq => hk q (List.mem_cons_of_mem _ hq)) r)
theorem OwnD.keep {o : HO} {d : D} (h : OwnD K mg I He H o d) (hk : ∀ q, V.ref q ∈ hvals o → H' q = H q) : OwnD K mg I He H' o d := by
  cases h with
  | lst r => exact .lst (r.keep hk)
  | dk r => exact .dk (r.keep hk)
  | dt r => exact .dt (r.keep hk)
theorem OwnX.keep {i : Nat} {p : Addr} {o : HO} {d : D} (h : OwnX K mg M i I He H p o d) (hp : H p = some o) (hk : ∀ a, ownA M H i p a → H' a = H a) : OwnX K mg M i I He H' p o d := by
  cases hd : deep M i with
  | false => exact .mk (h.of hd) hd
  | true =>
    obtain ⟨h1, h2, h3⟩ := h.ofD hd
    exact .mkD ⟨h1.keep fun q hq => hk q (.inr ⟨hd, o, hp, hq⟩), h2, h3⟩ hd
/-- H alone grew -/
theorem SE.grow (s : SE K mg M Ie He σ I H ρ) (t : Same H H') : SE K mg M Ie He σ I H' ρ :=
  ⟨⟨s.st.i, s.st.h.trans t, s.st.e.trans t, s.st.f⟩, s.len, s.imm, fun i d hi q => by
    obtain ⟨p, o, h2, h3, h4, h5, h6⟩ := s.own_ i d hi q
    refine ⟨p, o, h2, h3, h4, t _ _ h5, ?_⟩
    cases hd : deep M i with
    | false => exact .mk (h6.of hd) hd
    | true =>
      obtain ⟨k1, k2, k3⟩ := h6.ofD hd
      refine .mkD ⟨k1.keep fun q hq => ?_, k2, k3⟩ hd
      obtain ⟨_, q', ws, es, e1, _, _, _, g5, _⟩ := k1.kids hq
      cases e1
      rw [g5]
      exact t _ _ g5, fun i j p p' d e hi hj hne q1 q2 g1 g2 a a1 a2 => by
    obtain ⟨p1, o1, h2, _, _, h5, _⟩ := s.own_ i d hi q1
    obtain ⟨p2, o2, k2, _, _, k5, _⟩ := s.own_ j e hj q2
    rw [g1] at h2
    cases h2
    rw [g2] at k2
    cases k2
    exact s.dis i j p p' d e hi hj hne q1 q2 g1 g2 a (a1.step h5 t) (a2.step k5 t), s.slf⟩
/-- what is a slot's own stands -/
theorem SE.stands (s : SE K mg M Ie He σ I H ρ) {j : Nat} {p2 a : Addr} {d : D} (hj : j ∈ M) (z : ρ[j]? = some (some d)) (g : σ[j]? = some (some (.ref p2))) (ha : ownA M H j p2 a) : H a ≠ none := fun e => by
  obtain ⟨p3, o3, k2, k3, k4, k5, k6⟩ := s.own_ j d hj z
  rw [g] at k2
  cases k2
  rcases ha with rfl | ⟨hd, o, ho, hm⟩
  · rw [k5] at e
    cases e
  · rw [k5] at ho
    cases ho
    obtain ⟨_, q', ws, es, e1, _, _, _, w5, _⟩ := (k6.ofD hd).1.kids hm
    cases e1
    rw [w5] at e
    cases e
/-- a thing of one's own is changed -/
theorem SE.putX {i : Nat} {p : Addr} {ob : HO} {d0 d9 : D} (s : SE K mg M Ie He σ I H ρ) (hi : i ∈ M) (q : ρ[i]? = some (some d0)) (hp : σ[i]? = some (some (.ref p))) (r : OwnX K mg M i I He (upd H p ob) p ob d9) (hk : d9.kind = 3 → d0.kind = 3) (hv : deep M i = true → ∀ a, V.ref a ∈ hvals ob → ownA M H i p a ∨ ∀ j p2 d, j ∈ M → i ≠ j → ρ[j]? = some (some d) → σ[j]? = some (some (.ref p2)) → ¬ ownA M H j p2 a) : SE K mg M Ie He σ I (upd H p ob) (ρ.set i (some d9)) := by
  obtain ⟨p', o', h2, h3, h4, h5, h6⟩ := s.own_ i _ hi q
  rw [hp] at h2
  cases h2
  have hil : i < ρ.length := (List.getElem?_eq_some_iff.mp q).1
  have far : ∀ j p2 d, j ∈ M → i ≠ j → ρ[j]? = some (some d) → σ[j]? = some (some (.ref p2)) → ∀ a, ownA M H j p2 a → a ≠ p := fun j p2 d hj hne z g a ha e => by
    subst e
    exact s.dis i j a p2 _ _ hi hj hne q z hp g a (.inl rfl) ha
  have back : ∀ j p2 d a, j ∈ M → i ≠ j → ρ[j]? = some (some d) → σ[j]? = some (some (.ref p2)) → ownA M (upd H p ob) j p2 a → ownA M H j p2 a := fun j p2 d a hj hne z g ha => by
    rcases ha with ha | ⟨hd, o, ho, hm⟩
    · exact .inl ha
    · rw [upd_ne (far j p2 d hj hne z g p2 (.inl rfl))] at ho
      exact .inr ⟨hd, o, ho, hm⟩
  refine ⟨⟨s.st.i, fun a o z => ?_, fun a o z => ?_, s.st.f⟩, by rw [List.length_set]; exact s.len, fun j d hj z => ?_, fun j d hj z => ?_, fun j k p1 p2 d e hj hk2 hne q1 q2 g1 g2 a a1 a2 => ?_, fun j d p' hj z g h => ?_⟩
  · rw [upd_ne (ne_of_none z h4)]
    exact s.st.h _ _ z
  · rw [upd_ne (ne_of_none z h3)]
    exact s.st.e _ _ z
  · rcases set_of_lt z with ⟨rfl, _⟩ | ⟨_, z⟩
    · exact absurd hi hj
    · exact s.imm j d hj z
  · rcases set_of_lt z with ⟨rfl, rfl⟩ | ⟨hne, z⟩
    · exact ⟨p, ob, hp, h3, h4, upd_same, r⟩
    · obtain ⟨p2, o2, g2, g3, g4, g5, g6⟩ := s.own_ j d hj z
      exact ⟨p2, o2, g2, g3, g4, by rw [upd_ne (far j p2 d hj hne z g2 p2 (.inl rfl))]; exact g5, g6.keep g5 fun a ha => upd_ne (far j p2 d hj hne z g2 a ha)⟩
  · -- the slot's own addresses: what they were, or new ones
    have mine : ∀ a, ownA M (upd H p ob) i p a → ownA M H i p a ∨ ∀ j p2 d, j ∈ M → i ≠ j → ρ[j]? = some (some d) → σ[j]? = some (some (.ref p2)) → ¬ ownA M H j p2 a := fun a ha => by
      rcases ha with ha | ⟨hd, o, ho, hm⟩
      · exact .inl (.inl ha)
      · rw [upd_same] at ho
        cases ho
        exact hv hd a hm
    by_cases ej : i = j
    · subst ej
      rcases set_of_lt q1 with ⟨_, _⟩ | ⟨z, _⟩
      · rcases set_of_lt q2 with ⟨z, _⟩ | ⟨_, q2⟩
        · exact hne z
        · rw [hp] at g1
          cases g1
          have a2 := back k p2 e a hk2 hne q2 g2 a2
          rcases mine a a1 with a1 | a1
          · exact s.dis i k p p2 d0 e hi hk2 hne q q2 hp g2 a a1 a2
          · exact a1 k p2 e hk2 hne q2 g2 a2
      · exact z rfl
    · rcases set_of_lt q1 with ⟨z, _⟩ | ⟨_, q1⟩
      · exact ej z
      · have a1 := back j p1 d a hj ej q1 g1 a1
        by_cases ek : i = k
        · subst ek
          rw [hp] at g2
          cases g2
          rcases mine a a2 with a2 | a2
          · exact s.dis i j p p1 d0 d hi hj ej q q1 hp g1 a a2 a1
          · exact a2 j p1 d hj ej q1 g1 a1
        · rcases set_of_lt q2 with ⟨z, _⟩ | ⟨_, q2⟩
          · exact ek z
          · exact s.dis j k p1 p2 d e hj hk2 hne q1 q2 g1 g2 a a1 (back k p2 e a hk2 ek q2 g2 a2)
  · rcases set_of_lt z with ⟨rfl, rfl⟩ | ⟨_, z⟩
    · exact s.slf _ _ p' hi q g (hk h)
    · exact s.slf j d p' hj z g h
theorem SE.putO {i : Nat} {p : Addr} {ob : HO} {d0 d9 : D} (s : SE K mg M Ie He σ I H ρ) (hi : i ∈ M) (q : ρ[i]? = some (some d0)) (hp : σ[i]? = some (some (.ref p))) (r : OwnR K mg I ob d9) (hk : d9.kind = 3 → d0.kind = 3) (hd : deep M i = false) : SE K mg M Ie He σ I (upd H p ob) (ρ.set i (some d9)) :=
  s.putX hi q hp (.mk r hd) hk fun z => by
    rw [hd] at z
    cases z
/-- a list of one's own is changed -/
theorem SE.put {i : Nat} {p : Addr} {vs : List V} {ds ds0 : List D} (s : SE K mg M Ie He σ I H ρ) (hi : i ∈ M) (q : ρ[i]? = some (some (.lst ds0))) (hp : σ[i]? = some (some (.ref p))) (r : Reps K mg I vs ds) (hd : deep M i = false) : SE K mg M Ie He σ I (upd H p (.lst vs)) (ρ.set i (some (.lst ds))) :=
  s.putO hi q hp (.lst r) (fun h => by cases h) hd
/-- it is a list -/
theorem SE.ownL (s : SE K mg M Ie He σ I H ρ) (i : Nat) (ds : List D) (hi : i ∈ M) (hd : deep M i = false) (q : ρ[i]? = some (some (.lst ds))) : ∃ p vs ds', D.lst ds = .lst ds' ∧ σ[i]? = some (some (.ref p)) ∧ I p = none ∧ He p = none ∧ H p = some (.lst vs) ∧ Reps K mg I vs ds' := by
  obtain ⟨p, o, h2, h3, h4, h5, h6⟩ := s.own_ i _ hi q
  cases h6.of hd with
  | lst r => exact ⟨p, _, ds, rfl, h2, h3, h4, h5, r⟩
/-- a new thing goes to a slot of M -/
theorem SE.ownX {i : Nat} {p : Addr} {ob : HO} {d9 : D} (s : SE K mg M Ie He σ I H ρ) (hi : i ∈ M) (t : Stp I H I' H') (n1 : I' p = none) (n2 : H p = none) (hp : H' p = some ob) (r : OwnX K mg M i I' He H' p ob d9) (hk : d9.kind = 3 → p = Ie.2) (hv : deep M i = true → ∀ a, V.ref a ∈ hvals ob → H a = none) : SE K mg M Ie He (σ.set i (some (.ref p))) I' H' (ρ.set i (some d9)) := by
  have s' := s.step t
  have stands : ∀ j p2 d, j ∈ M → ρ[j]? = some (some d) → σ[j]? = some (some (.ref p2)) → ∀ a, ownA M H' j p2 a → H a ≠ none := fun j p2 d hj z g a ha e => by
    obtain ⟨p3, o3, k2, k3, k4, k5, k6⟩ := s.own_ j d hj z
    rw [g] at k2
    cases k2
    rcases ha.step k5 t.h with rfl | ⟨hd, o, ho, hm⟩
    · rw [k5] at e
      cases e
    · rw [k5] at ho
      cases ho
      obtain ⟨_, q', ws, es, e1, _, _, _, w5, _⟩ := (k6.ofD hd).1.kids hm
      cases e1
      rw [w5] at e
      cases e
  have mine : ∀ a, ownA M H' i p a → H a = none := fun a ha => by
    rcases ha with rfl | ⟨hd, o, ho, hm⟩
    · exact n2
    · rw [hp] at ho
      cases ho
      exact hv hd a hm
  refine ⟨s'.st, by rw [List.length_set, List.length_set, s.len], fun j d hj z => ?_, fun j d hj z => ?_, fun j k p1 p2 d e hj hk2 hne q1 q2 g1 g2 a a1 a2 => ?_, fun j d p' hj z g h => ?_⟩
  · rcases set_of_lt z with ⟨rfl, _⟩ | ⟨hne, z⟩
    · exact absurd hi hj
    · rw [List.getElem?_set_ne hne]
      exact s'.imm j d hj z
  · rcases set_of_lt z with ⟨rfl, rfl⟩ | ⟨hne, z⟩
    · have hl := (List.getElem?_eq_some_iff.mp z).1
      rw [List.length_set] at hl
      exact ⟨p, ob, List.getElem?_set_self (by rw [s.len]; exact hl), n1, s.st.h.free n2, hp, r⟩
    · rw [List.getElem?_set_ne hne]
      exact s'.own_ j d hj z
  · by_cases ej : i = j
    · subst ej
      rw [List.getElem?_set_ne hne] at g2
      rcases set_of_lt g1 with ⟨_, e1⟩ | ⟨z, _⟩
      · cases e1
        rcases set_of_lt q2 with ⟨z, _⟩ | ⟨_, q2⟩
        · exact hne z
        · exact stands k p2 e hk2 q2 g2 a a2 (mine a a1)
      · exact z rfl
    · rw [List.getElem?_set_ne ej] at g1
      rcases set_of_lt q1 with ⟨z, _⟩ | ⟨_, q1⟩
      · exact ej z
      · by_cases ek : i = k
        · subst ek
          rcases set_of_lt g2 with ⟨_, e1⟩ | ⟨z, _⟩
          · cases e1
            exact stands j p1 d hj q1 g1 a a1 (mine a a2)
          · exact z rfl
        · rw [List.getElem?_set_ne ek] at g2
          rcases set_of_lt q2 with ⟨z, _⟩ | ⟨_, q2⟩
          · exact ek z
          · exact s'.dis j k p1 p2 d e hj hk2 hne q1 q2 g1 g2 a a1 a2
  · rcases set_of_lt z with ⟨rfl, rfl⟩ | ⟨hne, z⟩
    · rcases set_of_lt g with ⟨_, e1⟩ | ⟨w, _⟩
      · cases e1
        exact hk h
      · exact absurd rfl w
    · rw [List.getElem?_set_ne hne] at g
      exact s'.slf j d p' hj z g h
theorem SE.ownO {i : Nat} {p : Addr} {ob : HO} {d9 : D} (s : SE K mg M Ie He σ I H ρ) (hi : i ∈ M) (t : Stp I H I' H') (n1 : I' p = none) (n2 : H p = none) (hp : H' p = some ob) (r : OwnR K mg I' ob d9) (hk : d9.kind = 3 → p = Ie.2) (hd : deep M i = false) : SE K mg M Ie He (σ.set i (some (.ref p))) I' H' (ρ.set i (some d9)) :=
  s.ownX hi t n1 n2 hp (.mk r hd) hk fun z => by
    rw [hd] at z
    cases z
/-- a new list goes to a slot of M -/
theorem SE.own {i : Nat} {p : Addr} {vs : List V} {ds : List D} (s : SE K mg M Ie He σ I H ρ) (hi : i ∈ M) (t : Stp I H I' H') (n1 : I' p = none) (n2 : H p = none) (hp : H' p = some (.lst vs)) (r : Reps K mg I' vs ds) (hd : deep M i = false) : SE K mg M Ie He (σ.set i (some (.ref p))) I' H' (ρ.set i (some (.lst ds))) :=
  s.ownO hi t n1 n2 hp (.lst r) (fun h => by cases h) hd
theorem OutS.mono {I0 I1 : Hp} {D0 : Ends} {r : R Fl} (k : Same I0 I1) (h : OutS K mg E Mb M Ie He I0 D0 r) : OutS K mg E Mb M Ie He I1 D0 r := by
  cases r with
  | ok f =>
    cases f with
    | nx ρ => exact fun σ I H s e => h σ I H s (k.trans e)
    | bk ρ => exact fun σ I H s e => h σ I H s (k.trans e)
    | ct ρ => exact fun σ I H s e => h σ I H s (k.trans e)
    | rt d => exact h
    | rf ds => exact h
  | err _ _ => exact h
  | stuck => exact h
theorem RE.of (s : SE K mg [] Ie He σ I H ρ) : RE K mg I σ ρ := ⟨s.len, fun i d q => s.imm i d (by simp) q⟩
end
end DL
namespace DL
open PySem PySem.Spec L2

section
variable {K : PySem.W.Frag} {mg : Gm} {E : XK} {Mb M M' M1 : List Nat} {Ie : Hp × Addr} {He I H I' H' : Hp} {σ : L2.St} {ρ : Env} {D0 : Ends} {I0 : Hp}
/-- what is wanted behind a part: of its value at the grown state -/
theorem Out.of {α β : Type} {rp : Hp → β → α → Prop} {r : R α} {k : α → R Fl} {Q : β → Hp → Prop} (hs : Stp Ie.1 He I H) (h : OutS K mg E Mb M Ie He I0 D0 (r >>= k)) (hk : ∀ d, r = .ok d → OutS K mg E Mb M Ie He I0 D0 (k d) → ∀ v I' H', Stp I H I' H' → rp I' v d → Q v H') : Out K mg E rp I H r Q := by
  cases r with
  | ok d => exact fun v I' H' s q => hk d rfl h v I' H' s q
  | err nm ds => exact fun C od I' H' s x => h C od I' H' (hs.trans s) x
  | stuck => exact h
theorem Sn.strong {α β : Type} {rp : Hp → β → α → Prop} {te : L2.St → Hp → (β → Hp → Prop) → Prop} {m : Env → R α} {k : α → R Fl} {P : β → Hp → Prop} (h : Sn K mg (fun _ => E) rp te m) (s : SE K mg M Ie He σ I H ρ) (hq : OutS K mg E Mb M' Ie He I0 D0 (m (wipeE ρ M) >>= k))
    (hk : ∀ d v I' H', SE K mg M Ie He σ I' H' ρ → Stp I H I' H' → rp I' v d → OutS K mg E Mb M' Ie He I0 D0 (k d) → P v H') : te σ H P :=
  h σ I H _ P s.re s.st.e (Out.of s.st hq fun d _ q v I' H' t r => hk d v I' H' (s.step t) t r q)
/-- all slots may be read; what comes back is no data of the heap -/
theorem Sn.weak {α β : Type} {rp : Hp → β → α → Prop} {te : L2.St → Hp → (β → Hp → Prop) → Prop} {m : Env → R α} {k : α → R Fl} {P : β → Hp → Prop} (h : Sn K mg (fun _ => E) rp te m) (s : SE K mg M Ie He σ I H ρ) (hq : OutS K mg E Mb M' Ie He I0 D0 (m ρ >>= k))
    (hk : ∀ d v I' H', SE K mg M Ie He σ I H' ρ → Stp Ie.1 He I' H' → rp I' v d → OutS K mg E Mb M' Ie He I0 D0 (k d) → P v H') : te σ H P := by
  obtain ⟨I1, k1, s1⟩ := s.all
  exact h σ I1 H _ P (RE.of s1) s1.st.e (Out.of s1.st hq fun d _ q v I' H' t r => hk d v I' H' (s.grow t.h) (s1.st.trans t) r q)
end
def D.scal : D → Bool
  | .non => true
  | .bl _ => true
  | .int _ => true
  | .str _ => true
  | .ty _ => true
  | _ => false
theorem Rep.scal {K : PySem.W.Frag} {mg : Gm} {I I' : Hp} {v : V} {d : D} (r : Rep K mg I v d) (h : d.scal = true) : Rep K mg I' v d := by
  cases r with
  | non => exact .non
  | bl b => exact .bl b
  | int i => exact .int i
  | str x => exact .str x
  | ty n => exact .ty n
  | _ => cases h
def then_ (r : R Fl) (k : Env → R Fl) : R Fl := r >>= fun f => match f with
  | .nx ρ => k ρ
  | f => .ok f
def asg (i : Nat) (ρ : Env) (a : R D) : R Fl := a >>= fun d => .ok (.nx (ρ.set i (some d)))
def asgW (i : Nat) (ρ : Env) (a : R D) : R Fl := a >>= fun d => if d.scal = true then .ok (.nx (ρ.set i (some d))) else .stuck
def asgG (ag : D → R As) (ρ : Env) (a : R D) : R Fl := a >>= fun d => calm (ag d) >>= fun as => .ok (.nx (setE ρ as))
def ret (a : R D) : R Fl := a >>= fun d => .ok (.rt d)
def drp (ρ : Env) (a : R D) : R Fl := a >>= fun _ => .ok (.nx ρ)
@[simp] theorem asg_ok (i : Nat) (ρ : Env) (d : D) : asg i ρ (.ok d) = .ok (.nx (ρ.set i (some d))) := rfl
@[simp] theorem asgW_ok (i : Nat) (ρ : Env) (d : D) : asgW i ρ (.ok d) = if d.scal = true then .ok (.nx (ρ.set i (some d))) else .stuck := rfl
@[simp] theorem asgG_ok (ag : D → R As) (ρ : Env) (d : D) : asgG ag ρ (.ok d) = (calm (ag d) >>= fun as => .ok (.nx (setE ρ as))) := rfl
@[simp] theorem ret_ok (d : D) : ret (.ok d) = .ok (.rt d) := rfl
@[simp] theorem drp_ok (ρ : Env) (d : D) : drp ρ (.ok d) = .ok (.nx ρ) := rfl
@[simp] theorem then_nx (ρ : Env) (k : Env → R Fl) : then_ (.ok (.nx ρ)) k = k ρ := rfl
@[simp] theorem then_rt (d : D) (k : Env → R Fl) : then_ (.ok (.rt d)) k = .ok (.rt d) := rfl
@[simp] theorem then_rf (ds : List D) (k : Env → R Fl) : then_ (.ok (.rf ds)) k = .ok (.rf ds) := rfl
@[simp] theorem then_bk (ρ : Env) (k : Env → R Fl) : then_ (.ok (.bk ρ)) k = .ok (.bk ρ) := rfl
@[simp] theorem then_ct (ρ : Env) (k : Env → R Fl) : then_ (.ok (.ct ρ)) k = .ok (.ct ρ) := rfl
section
variable {X : Cx} {E : XK} {Mb M M' M1 : List Nat} {s : Stmt} {ss : List Stmt} {t u : TS} {ms mr : Env → R Fl} {e c : Expr} {te : TE} {m : Env → R D} {pos : Pos} {x : Str} {tt : TT} {mt : Env → R Bool}
theorem mss_nil : MSs X E Mb M M [] tNext (fun ρ => .ok (.nx ρ)) := ⟨pss_nil, fun Ie He σ I H ρ D0 s h => h σ I H s (.refl _)⟩
theorem mss_one (h : MS X E Mb M M' s t ms) : MSs X E Mb M M' [s] t ms := ⟨pss_one h.pe, h.sn⟩
theorem mss_cons (h1 : MS X E Mb M M1 s t ms) (h2 : MSs X E Mb M1 M' ss u mr) : MSs X E Mb M M' (s :: ss) (tSeq t u) (fun ρ => then_ (ms ρ) mr) := ⟨pss_cons h1.pe h2.pe, fun Ie He σ I H ρ D0 s h => by
  refine h1.sn Ie He σ I H ρ _ s ?_
  have h : OutS X.K (g0 X.mg) E Mb M' Ie He I D0 (then_ (ms ρ) mr) := h
  cases e : ms ρ with
  | ok f =>
    rw [e] at h
    cases f with
    | nx ρ1 => exact fun σ1 I1 H1 s1 k1 => h2.sn Ie He σ1 I1 H1 ρ1 D0 s1 (h.mono k1)
    | rt d => exact h
    | bk ρ1 => exact h
    | ct ρ1 => exact h
    | rf ds => exact h
  | err nm ds =>
    rw [e] at h
    exact h
  | stuck =>
    rw [e] at h
    exact h⟩
/-! #### simple statements -/
theorem ms_pass : MS X E Mb M M (.Pass pos) tNext (fun ρ => .ok (.nx ρ)) := ⟨ps_pass, fun Ie He σ I H ρ D0 s h => h σ I H s (.refl _)⟩
theorem ms_break : MS X E M M M' (.Break pos) tBreak (fun ρ => .ok (.bk ρ)) := ⟨ps_break, fun Ie He σ I H ρ D0 s h => h σ I H s (.refl _)⟩
theorem ms_continue : MS X E M M M' (.Continue pos) tCont (fun ρ => .ok (.ct ρ)) := ⟨ps_continue, fun Ie He σ I H ρ D0 s h => h σ I H s (.refl _)⟩
theorem ms_set (i : Nat) {px : Pos} (hN : X.N.Nodup) (he : ME X (kE E) e te m) (hi : X.N[i]? = some x := by rfl) (hx : Loc X.env.scope x := by first | exact .inl rfl | exact .inr rfl) (hM : i ∉ M := by decide) (hs : swapsWith e (some (.Name x px)) pos.line X.env = pure false := by rfl) (hf : X.fn x = true ∨ X.env.scope.names.lookup x = some .local := by first | exact .inl rfl | exact .inr rfl) :
    MS X E Mb M M (.Assign [.Name x px] e pos) (tAsg te (gName i)) (fun ρ => asg i ρ (m (wipeE ρ M))) :=
  ⟨ps_set hN hi hx he.pe hs hf, fun Ie He σ I H ρ D0 s h => he.sn.strong s h fun d v I1 H1 s1 t r q => q _ I1 H1 (s1.set hM r) t.i⟩
/-- all slots are read, the value is none of the heap -/
theorem ms_setW (i : Nat) {px : Pos} (hN : X.N.Nodup) (he : ME X (kE E) e te m) (hi : X.N[i]? = some x := by rfl) (hx : Loc X.env.scope x := by first | exact .inl rfl | exact .inr rfl) (hM : i ∉ M := by decide) (hs : swapsWith e (some (.Name x px)) pos.line X.env = pure false := by rfl) (hf : X.fn x = true ∨ X.env.scope.names.lookup x = some .local := by first | exact .inl rfl | exact .inr rfl) :
    MS X E Mb M M (.Assign [.Name x px] e pos) (tAsg te (gName i)) (fun ρ => asgW i ρ (m ρ)) :=
  ⟨ps_set hN hi hx he.pe hs hf, fun Ie He σ I H ρ D0 s h => he.sn.weak s h fun d v I1 H1 s1 _ r q => by
    by_cases hd : d.scal = true
    · rw [if_pos hd] at q
      exact q _ I H1 (s1.set hM (r.scal hd)) (.refl _)
    · rw [if_neg hd] at q
      exact q.elim⟩
theorem ms_asg {tg : Expr} {g : TG} {ag : D → R As} (he : ME X (kE E) e te m) (hg : MG X tg g ag) (hM : AgIn ag (· ∉ M)) (hs : swapsWithSole [tg] e pos.line X.env = pure false := by rfl) (hw : swappedStores [tg] e X.env = pure none := by rfl)
    (h1 : (assignEach [tg] X.env).map (·.2) = [assign tg X.env] := by rfl) : MS X E Mb M M (.Assign [tg] e pos) (tAsg te g) (fun ρ => asgG ag ρ (m (wipeE ρ M))) :=
  ⟨ps_asg he.pe hg.pe hs hw h1, fun Ie He σ I H ρ D0 s h => he.sn.strong s h fun d v I1 H1 s1 t r q => by
    cases ea : ag d with
    | ok as =>
      rw [ea] at q
      exact hg.sn _ v σ I1 H1 d as _ s1.st.e r ea fun us ar => q _ I1 H1 (s1.setAll ar (hM d as ea)) t.i
    | err _ _ =>
      rw [ea] at q
      exact q.elim
    | stuck =>
      rw [ea] at q
      exact q.elim⟩
theorem ms_ret (he : ME X (kE E) e te m) : MS X E Mb M M' (.Return (some e) pos) (tRet te) (fun ρ => ret (m ρ)) :=
  ⟨ps_ret he.pe, fun Ie He σ I H ρ D0 s h => he.sn.weak s h fun d v I1 H1 s1 st r q => q v I1 H1 st r⟩
theorem ms_retN : MS X E Mb M M' (.Return none pos) tRetN (fun ρ => .ok (.rt .non)) := ⟨ps_retN, fun Ie He σ I H ρ D0 s h => h _ I H s.st .non⟩
theorem ms_expr (he : ME X (kE E) e te m) (hs : swapsWith e none pos.line X.env = pure false := by rfl) : MS X E Mb M M (.Expr e pos) (tDrop te) (fun ρ => drp ρ (m ρ)) :=
  ⟨ps_expr he.pe hs, fun Ie He σ I H ρ D0 s h => he.sn.weak s h fun d v I1 H1 s1 st r q => q _ I H1 s1 (.refl _)⟩
theorem ms_doc {z j pos'} : MS X E Mb M M (.Expr (.Constant (.str z) j pos) pos') tNext (fun ρ => .ok (.nx ρ)) := ⟨ps_doc, fun Ie He σ I H ρ D0 s h => h σ I H s (.refl _)⟩
theorem ms_if {a b : List Stmt} {ta tb : TS} {ma mb : Env → R Fl} (hc : MT X (kE E) c tt mt) (ha : MSs X E Mb M M' a ta ma) (hb : MSs X E Mb M M' b tb mb) : MS X E Mb M M' (.If c a b pos) (tIfS tt ta tb) (fun ρ => ifv (mt ρ) (ma ρ) (mb ρ)) :=
  ⟨ps_if hc.pe ha.pe hb.pe, fun Ie He σ I H ρ D0 s h => hc.sn.weak s h fun d v I1 H1 s1 st r q => by
    cases r
    cases d with
    | true => exact ha.sn Ie He σ I H1 ρ D0 s1 q
    | false => exact hb.sn Ie He σ I H1 ρ D0 s1 q⟩
def augG (f : Int → Int → Int) (i : Nat) (ρ : Env) : D → D → R Fl
  | .int a, .int b => .ok (.nx (ρ.set i (some (.int (f a b)))))
  | _, _ => .stuck
def augS (f : Int → Int → Int) (i : Nat) (ρ : Env) (b : R D) : R Fl := calm (get ρ i) >>= fun a => b >>= augG f i ρ a
/-- x += n, ints -/
theorem ms_augI (i : Nat) {f : Int → Int → Int} {op : Operator} {px : Pos} (hN : X.N.Nodup) (ho : PIp X op (ipI f)) (he : ME X (kE E) e te m) (hi : X.N[i]? = some x := by rfl) (hx : Loc X.env.scope x := by first | exact .inl rfl | exact .inr rfl) (hM : i ∉ M := by decide) (hf : X.fn x = true ∨ X.env.scope.names.lookup x = some .local := by first | exact .inl rfl | exact .inr rfl) :
    MS X E Mb M M (.AugAssign (.Name x px) op e pos) (tAug i te (ipI f)) (fun ρ => augS f i ρ (m ρ)) :=
  ⟨ps_aug hN hi hx he.pe ho hf, fun Ie He σ I H ρ D0 s h => by
    have h : OutS X.K (g0 X.mg) E Mb M Ie He I D0 (calm (get ρ i) >>= fun a => m ρ >>= augG f i ρ a) := h
    cases q : ρ[i]? with
    | none =>
      unfold get at h
      rw [q] at h
      exact h.elim
    | some o =>
      unfold get at h
      rw [q] at h
      cases o with
      | none => exact h.elim
      | some d =>
        obtain ⟨v, h1, h2⟩ := s.imm i d hM q
        refine ⟨v, h1, he.sn.weak s h fun d2 v2 I1 H1 s1 _ r q => ?_⟩
        cases h2 with
        | int a =>
          cases r with
          | int b => exact ⟨a, b, rfl, rfl, q _ I H1 (s1.set hM (.int _)) (.refl _)⟩
          | _ => exact q.elim
        | _ => cases r <;> exact q.elim⟩

/-! #### lists of one's own -/
def ownD (ρ : Env) (i : Nat) : R (List D) := match ρ[i]? with
  | some (some (.lst ds)) => .ok ds
  | _ => .stuck
theorem ownD_of {ρ : Env} {i : Nat} {ds : List D} (h : ownD ρ i = .ok ds) : ρ[i]? = some (some (.lst ds)) := by
  unfold ownD at h
  split at h
  · cases h
    assumption
  · cases h
theorem outS_calm {K : PySem.W.Frag} {mg : Gm} {Ie : Hp × Addr} {He I0 : Hp} {D0 : Ends} {α : Type} {r : R α} {k : α → R Fl} (h : OutS K mg E Mb M Ie He I0 D0 (calm r >>= k)) : ∃ a, r = .ok a ∧ OutS K mg E Mb M Ie He I0 D0 (k a) := by
  cases r with
  | ok a => exact ⟨a, rfl, h⟩
  | err _ _ => exact h.elim
  | stuck => exact h.elim
theorem outS_if {K : PySem.W.Frag} {mg : Gm} {Ie : Hp × Addr} {He I0 : Hp} {D0 : Ends} {c : Prop} [Decidable c] {r : R Fl} (h : OutS K mg E Mb M Ie He I0 D0 (if c then r else .stuck)) : c ∧ OutS K mg E Mb M Ie He I0 D0 r := by
  by_cases hc : c
  · rw [if_pos hc] at h
    exact ⟨hc, h⟩
  · rw [if_neg hc] at h
    exact h.elim
def appS (i : Nat) (ρ : Env) (a : R D) : R Fl := calm (ownD ρ i) >>= fun ds => a >>= fun d => if ds.length < LIM then .ok (.nx (ρ.set i (some (.lst (ds ++ [d]))))) else .stuck
/-- x.append(e) -/
theorem ms_app (i : Nat) {px pa pc : Pos} (he : ME X (kE E) e te m) (hi : X.N[i]? = some x := by rfl) (hv : Vis X.env.scope x := by first | exact Or.inl rfl | exact Or.inr (Or.inl rfl)) (hM : i ∈ M := by decide) (hD : deep M i = false := by decide)
    (hp : PE X e te → PE X (.Call (.Attribute (.Name x px) "append" pa) [e] [] pc) (tBM X.K "list" rAppend (tVar i) (tCons te tNil))) (hs : swapsWith (.Call (.Attribute (.Name x px) "append" pa) [e] [] pc) none pos.line X.env = pure false := by rfl) :
    MS X E Mb M M (.Expr (.Call (.Attribute (.Name x px) "append" pa) [e] [] pc) pos) (tDrop (tBM X.K "list" rAppend (tVar i) (tCons te tNil))) (fun ρ => appS i ρ (m (wipeE ρ M))) :=
  ⟨ps_expr (hp he.pe) hs, fun Ie He σ I H ρ D0 s h => by
    obtain ⟨ds, ho, h⟩ := outS_calm h
    have q := ownD_of ho
    obtain ⟨p, vs, ds', e1, h2, h3, h4, h5, h6⟩ := s.ownL i _ hM hD q
    cases e1
    refine ⟨_, h2, .inl ⟨rfl, vs, SqL.of h5⟩, he.sn.strong s h fun d v I1 H1 s1 t r k => ?_⟩
    obtain ⟨hl, k⟩ := outS_if k
    refine ⟨p, vs, v, rfl, rfl, t.h _ _ h5, lim_lt (by rw [h6.len]; omega), k _ I1 _ (s1.put hM q h2 ((h6.mono t.i).app (.cons r .nil)) hD) t.i⟩⟩
def setixG (i : Nat) (ρ : Env) (d : D) (ds : List D) : D → R Fl
  | .int z => match ixN ds.length z with
    | some j => .ok (.nx (ρ.set i (some (.lst (ds.set j d)))))
    | none => .stuck
  | _ => .stuck
def setixS (i : Nat) (ρ : Env) (a k : R D) : R Fl := a >>= fun d => calm (ownD ρ i) >>= fun ds => k >>= setixG i ρ d ds
/-- x[k] = e -/
theorem ms_setix (i : Nat) {px pt : Pos} {k : Expr} {tk : TE} {mk : Env → R D} (he : ME X (kE E) e te m) (hk : ME X (kE E) k tk mk) (hi : X.N[i]? = some x := by rfl) (hv : Vis X.env.scope x := by first | exact Or.inl rfl | exact Or.inr (Or.inl rfl)) (hM : i ∈ M := by decide) (hD : deep M i = false := by decide)
    (hp : PE X e te → PE X k tk → PS X (.Assign [.Subscript (.Name x px) k pt] e pos) (tAsg te (gSub (tVar i) tk rSetL))) :
    MS X E Mb M M (.Assign [.Subscript (.Name x px) k pt] e pos) (tAsg te (gSub (tVar i) tk rSetL)) (fun ρ => setixS i ρ (m (wipeE ρ M)) (mk ρ)) :=
  ⟨hp he.pe hk.pe, fun Ie He σ I H ρ D0 s h => he.sn.strong s h fun d v I1 H1 s1 t r h => by
    have h := h.mono t.i
    obtain ⟨ds, ho, h⟩ := outS_calm h
    have q := ownD_of ho
    obtain ⟨p, vs, ds', e1, h2, h3, h4, h5, h6⟩ := s1.ownL i _ hM hD q
    cases e1
    refine ⟨_, h2, hk.sn.weak s1 h fun dk vk I2 H2 s2 t2 rk h => ?_⟩
    cases rk with
    | int z =>
      have h : OutS X.K (g0 X.mg) E Mb M Ie He I1 D0 (match ixN ds.length z with | some j => .ok (.nx (ρ.set i (some (.lst (ds.set j d))))) | none => .stuck) := h
      cases ej : ixN ds.length z with
      | none =>
        rw [ej] at h
        exact h.elim
      | some j =>
        rw [ej] at h
        obtain ⟨p', vs', ds', e1, g2, g3, g4, g5, g6⟩ := s2.ownL i _ hM hD q
        cases e1
        rw [h2] at g2
        cases g2
        exact ⟨p, vs', z, j, rfl, rfl, g5, by rw [g6.len]; exact ej, h _ I1 _ (s2.put hM q h2 (g6.set r j) hD) (.refl _)⟩
    | _ => exact h.elim⟩
def appPopG (i j : Nat) (ρ : Env) (ds es : List D) : D → R Fl
  | .int z => match (if -(2 ^ 63) ≤ z ∧ z < 2 ^ 63 ∧ ds.length < LIM then seqIndex? z es.length else none) with
    | some n => match es[n]? with
      | some d => .ok (.nx ((ρ.set j (some (.lst (es.eraseIdx n)))).set i (some (.lst (ds ++ [d])))))
      | none => .stuck
    | none => .stuck
  | _ => .stuck
def appPopS (i j : Nat) (ρ : Env) (k : R D) : R Fl := calm (ownD ρ i) >>= fun ds => calm (ownD ρ j) >>= fun es => k >>= appPopG i j ρ ds es
def appSW (i : Nat) (ρ : Env) (a : R D) : R Fl := calm (ownD ρ i) >>= fun ds => a >>= fun d => if ds.length < LIM ∧ d.scal = true then .ok (.nx (ρ.set i (some (.lst (ds ++ [d]))))) else .stuck
theorem ms_appW (i : Nat) {px pa pc : Pos} (he : ME X (kE E) e te m) (hi : X.N[i]? = some x := by rfl) (hv : Vis X.env.scope x := by first | exact Or.inl rfl | exact Or.inr (Or.inl rfl)) (hM : i ∈ M := by decide) (hD : deep M i = false := by decide)
    (hp : PE X e te → PE X (.Call (.Attribute (.Name x px) "append" pa) [e] [] pc) (tBM X.K "list" rAppend (tVar i) (tCons te tNil))) (hs : swapsWith (.Call (.Attribute (.Name x px) "append" pa) [e] [] pc) none pos.line X.env = pure false := by rfl) :
    MS X E Mb M M (.Expr (.Call (.Attribute (.Name x px) "append" pa) [e] [] pc) pos) (tDrop (tBM X.K "list" rAppend (tVar i) (tCons te tNil))) (fun ρ => appSW i ρ (m ρ)) :=
  ⟨ps_expr (hp he.pe) hs, fun Ie He σ I H ρ D0 s h => by
    obtain ⟨ds, ho, h⟩ := outS_calm h
    have q := ownD_of ho
    obtain ⟨p, vs, ds', e1, h2, h3, h4, h5, h6⟩ := s.ownL i _ hM hD q
    cases e1
    refine ⟨_, h2, .inl ⟨rfl, vs, SqL.of h5⟩, he.sn.weak s h fun d v I1 H1 s1 t r k => ?_⟩
    obtain ⟨hl, k⟩ := outS_if k
    obtain ⟨p', vs', ds', e1, g2, g3, g4, g5, g6⟩ := s1.ownL i _ hM hD q
    cases e1
    rw [h2] at g2
    cases g2
    refine ⟨p, vs', v, rfl, rfl, g5, lim_lt (by rw [g6.len]; omega), k _ I _ (s1.put hM q h2 (g6.app (.cons (r.scal hl.2) .nil)) hD) (.refl _)⟩⟩
def setixSW (i : Nat) (ρ : Env) (a k : R D) : R Fl := a >>= fun d => if d.scal = true then (calm (ownD ρ i) >>= fun ds => k >>= setixG i ρ d ds) else .stuck
theorem ms_setixW (i : Nat) {px pt : Pos} {k : Expr} {tk : TE} {mk : Env → R D} (he : ME X (kE E) e te m) (hk : ME X (kE E) k tk mk) (hi : X.N[i]? = some x := by rfl) (hv : Vis X.env.scope x := by first | exact Or.inl rfl | exact Or.inr (Or.inl rfl)) (hM : i ∈ M := by decide) (hD : deep M i = false := by decide)
    (hp : PE X e te → PE X k tk → PS X (.Assign [.Subscript (.Name x px) k pt] e pos) (tAsg te (gSub (tVar i) tk rSetL))) :
    MS X E Mb M M (.Assign [.Subscript (.Name x px) k pt] e pos) (tAsg te (gSub (tVar i) tk rSetL)) (fun ρ => setixSW i ρ (m ρ) (mk ρ)) :=
  ⟨hp he.pe hk.pe, fun Ie He σ I H ρ D0 s h => he.sn.weak s h fun d v I1 H1 s1 t r h => by
    obtain ⟨hd, h⟩ := outS_if h
    obtain ⟨ds, ho, h⟩ := outS_calm h
    have q := ownD_of ho
    obtain ⟨p, vs, ds', e1, h2, h3, h4, h5, h6⟩ := s1.ownL i _ hM hD q
    cases e1
    refine ⟨_, h2, hk.sn.weak s1 h fun dk vk I2 H2 s2 t2 rk h => ?_⟩
    cases rk with
    | int z =>
      have h : OutS X.K (g0 X.mg) E Mb M Ie He I D0 (match ixN ds.length z with | some j => .ok (.nx (ρ.set i (some (.lst (ds.set j d))))) | none => .stuck) := h
      cases ej : ixN ds.length z with
      | none =>
        rw [ej] at h
        exact h.elim
      | some j =>
        rw [ej] at h
        obtain ⟨p', vs', ds', e1, g2, g3, g4, g5, g6⟩ := s2.ownL i _ hM hD q
        cases e1
        rw [h2] at g2
        cases g2
        exact ⟨p, vs', z, j, rfl, rfl, g5, by rw [g6.len]; exact ej, h _ I _ (s2.put hM q h2 (g6.set (r.scal hd) j) hD) (.refl _)⟩
    | _ => exact h.elim⟩
/-- y.append(x.pop(k)) -/
theorem ms_appPop (i j : Nat) {y : Str} {px pa pc py pb pd : Pos} {k : Expr} {tk : TE} {mk : Env → R D} (hk : ME X (kE E) k tk mk) (hM : i ∈ M := by decide) (hD : deep M i = false := by decide) (hM2 : j ∈ M := by decide) (hD2 : deep M j = false := by decide) (hij : i ≠ j := by decide)
    (hp : PE X k tk → PE X (.Call (.Attribute (.Name x px) "append" pa) [.Call (.Attribute (.Name y py) "pop" pb) [k] [] pd] [] pc) (tBM X.K "list" rAppend (tVar i) (tCons (tBM X.K "list" rPopAt (tVar j) (tCons tk tNil)) tNil))) (hs : swapsWith (.Call (.Attribute (.Name x px) "append" pa) [.Call (.Attribute (.Name y py) "pop" pb) [k] [] pd] [] pc) none pos.line X.env = pure false := by rfl) :
    MS X E Mb M M (.Expr (.Call (.Attribute (.Name x px) "append" pa) [.Call (.Attribute (.Name y py) "pop" pb) [k] [] pd] [] pc) pos) (tDrop (tBM X.K "list" rAppend (tVar i) (tCons (tBM X.K "list" rPopAt (tVar j) (tCons tk tNil)) tNil)))
      (fun ρ => appPopS i j ρ (mk ρ)) :=
  ⟨ps_expr (hp hk.pe) hs, fun Ie He σ I H ρ D0 s h => by
    obtain ⟨ds, ho, h⟩ := outS_calm h
    obtain ⟨es, ho2, h⟩ := outS_calm h
    have q := ownD_of ho
    have q2 := ownD_of ho2
    obtain ⟨p, vs, ds', e1, h2, h3, h4, h5, h6⟩ := s.ownL i _ hM hD q
    cases e1
    obtain ⟨p2, vs2, ds2, e1, g2, g3, g4, g5, g6⟩ := s.ownL j _ hM2 hD2 q2
    cases e1
    refine ⟨_, h2, .inl ⟨rfl, vs, SqL.of h5⟩, ⟨_, g2, .inl ⟨rfl, vs2, SqL.of g5⟩, hk.sn.weak s h fun dk vk I2 H2 s2 t2 rk h => ?_⟩⟩
    cases rk with
    | int z =>
      have h : OutS X.K (g0 X.mg) E Mb M Ie He I D0 (match (if -(2 ^ 63) ≤ z ∧ z < 2 ^ 63 ∧ ds.length < LIM then seqIndex? z es.length else none) with
          | some n => match es[n]? with
            | some d => .ok (.nx ((ρ.set j (some (.lst (es.eraseIdx n)))).set i (some (.lst (ds ++ [d])))))
            | none => .stuck
          | none => .stuck) := h
      by_cases hb : -(2 ^ 63) ≤ z ∧ z < 2 ^ 63 ∧ ds.length < LIM
      · rw [if_pos hb] at h
        cases en : seqIndex? z es.length with
        | none =>
          rw [en] at h
          exact h.elim
        | some n =>
          rw [en] at h
          cases ed : es[n]? with
          | none =>
            have h : OutS X.K (g0 X.mg) E Mb M Ie He I D0 (match es[n]? with | some d => .ok (.nx ((ρ.set j (some (.lst (es.eraseIdx n)))).set i (some (.lst (ds ++ [d]))))) | none => .stuck) := h
            rw [ed] at h
            exact h.elim
          | some d =>
            have h : OutS X.K (g0 X.mg) E Mb M Ie He I D0 (match es[n]? with | some d => .ok (.nx ((ρ.set j (some (.lst (es.eraseIdx n)))).set i (some (.lst (ds ++ [d]))))) | none => .stuck) := h
            rw [ed] at h
            obtain ⟨b2, ws2, dz, e1, k2, k3, k4, k5, k6⟩ := s2.ownL j _ hM2 hD2 q2
            cases e1
            rw [g2] at k2
            cases k2
            obtain ⟨y0, hy, ry⟩ := k6.get ed
            refine ⟨p2, ws2, z, n, y0, rfl, rfl, k5, hb.1, hb.2.1, by rw [k6.len]; exact en, hy, ?_⟩
            have s3 := s2.put hM2 q2 g2 (k6.erase n) hD2
            have q3 : (ρ.set j (some (.lst (es.eraseIdx n))))[i]? = some (some (.lst ds)) := by
              rw [List.getElem?_set_ne (Ne.symm hij)]
              exact q
            obtain ⟨b3, ws3, dz, e1, l2, l3, l4, l5, l6⟩ := s3.ownL i _ hM hD q3
            cases e1
            rw [h2] at l2
            cases l2
            exact ⟨p, ws3, y0, rfl, rfl, l5, lim_lt (by rw [l6.len]; omega), h _ I _ (s3.put hM q3 h2 (l6.app (.cons ry .nil)) hD) (.refl _)⟩
      · rw [if_neg hb] at h
        exact h.elim
    | _ => exact h.elim⟩

/-! #### loops -/
def loopGo (ag : D → R As) (mb : Env → R Fl) : List D → Env → R Fl
  | [], ρ => .ok (.nx ρ)
  | d :: ds, ρ => calm (ag d) >>= fun as => mb (setE ρ as) >>= fun f => match f with
    | .nx ρ' => loopGo ag mb ds ρ'
    | .ct ρ' => loopGo ag mb ds ρ'
    | .bk ρ' => .ok (.nx ρ')
    | .rt d => .ok (.rt d)
    | .rf ds => .ok (.rf ds)
def forS (ag : D → R As) (mb : Env → R Fl) (ρ : Env) (r : R (List D)) : R Fl := r >>= fun ds => loopGo ag mb ds ρ
def forR (rg : List D → R (List D)) (ag : D → R As) (mb : Env → R Fl) (ρ : Env) (r : R (List D)) : R Fl := r >>= fun ds => calm (rg ds) >>= fun es => loopGo ag mb es ρ
@[simp] theorem forS_ok (ag : D → R As) (mb : Env → R Fl) (ρ : Env) (ds : List D) : forS ag mb ρ (.ok ds) = loopGo ag mb ds ρ := rfl
@[simp] theorem forR_ok (rg : List D → R (List D)) (ag : D → R As) (mb : Env → R Fl) (ρ : Env) (ds : List D) : forR rg ag mb ρ (.ok ds) = (calm (rg ds) >>= fun es => loopGo ag mb es ρ) := rfl
theorem for_core {g : TG} {ag : D → R As} {tb : TS} {mb : Env → R Fl} {K : PySem.W.Frag} {mg : Gm} {Ie : Hp × Addr} {He I0 I1 H : Hp} {σ : L2.St} {ρ : Env} {D0 : Ends} {J : It} {ds : List D} (sg : SnG K mg g ag) (hM : AgIn ag (· ∉ M)) (sb : SnS K mg E M M M tb mb)
    (s : SE K mg M Ie He σ I1 H ρ) (it : ∀ I, Same I1 I → ItOk K mg I J ds) (h : OutS K mg E Mb M Ie He I0 D0 (loopGo ag mb ds ρ)) (k0 : Same I0 I1) :
    ∃ W : Nat → Nat → L2.St → Hp → Prop, (∃ m, W 0 m σ H) ∧ ∀ i m σ H, W i m σ H →
      (J.stop i H ∧ D0.nx σ H) ∨ (J.go i H ∧ ∃ N : L2.St → Hp → Prop, (∀ σ' H', N σ' H' → ∃ m', m' < m ∧ W (i + 1) m' σ' H') ∧ ∀ x H', J.yld i H x H' → g x σ H' fun σ2 H2 => tb { D0 with nx := N, ct := N, bk := D0.nx } σ2 H2) := by
  refine ⟨fun i m σ H => m = ds.length - i ∧ i ≤ ds.length ∧ ∃ I ρ, SE K mg M Ie He σ I H ρ ∧ Same I1 I ∧ OutS K mg E Mb M Ie He I0 D0 (loopGo ag mb (ds.drop i) ρ), ⟨_, rfl, Nat.zero_le _, I1, ρ, s, .refl _, h⟩, ?_⟩
  rintro i m σ2 H2 ⟨rfl, hi, I2, ρ2, s2, k2, h2⟩
  have hit := it I2 k2 I2 H2 (.refl _) s2.st.e
  by_cases hlt : i < ds.length
  · obtain ⟨hgo, hy⟩ := hit.1 i _ (List.getElem?_eq_getElem hlt)
    refine .inr ⟨hgo, fun σ' H' => ∃ I ρ, SE K mg M Ie He σ' I H' ρ ∧ Same I1 I ∧ OutS K mg E Mb M Ie He I0 D0 (loopGo ag mb (ds.drop (i + 1)) ρ), fun σ' H' hN => ⟨ds.length - (i + 1), by omega, rfl, hlt, hN⟩, fun x H' y => ?_⟩
    obtain ⟨I3, s3, rx⟩ := hy x H' y
    rw [List.drop_eq_getElem_cons hlt] at h2
    obtain ⟨as, ha, h2⟩ := outS_calm h2
    refine sg x σ2 I3 H' _ as _ s3.e rx ha fun us ar => ?_
    have s4 := (s2.step s3).setAll ar (hM _ _ ha)
    refine sb Ie He _ I3 H' _ _ s4 ?_
    have h2 : OutS K mg E Mb M Ie He I0 D0 (mb (setE ρ2 as) >>= fun f => match f with
      | .nx ρ' => loopGo ag mb (ds.drop (i + 1)) ρ'
      | .ct ρ' => loopGo ag mb (ds.drop (i + 1)) ρ'
      | .bk ρ' => .ok (.nx ρ')
      | .rt d => .ok (.rt d)
      | .rf ds => .ok (.rf ds)) := h2
    cases e : mb (setE ρ2 as) with
    | err nm es =>
      rw [e] at h2
      exact h2
    | stuck =>
      rw [e] at h2
      exact h2
    | ok f =>
      rw [e] at h2
      cases f with
      | nx ρ' => exact fun σ5 I5 H5 s5 k5 => ⟨I5, ρ', s5, (k2.trans s3.i).trans k5, h2⟩
      | ct ρ' => exact fun σ5 I5 H5 s5 k5 => ⟨I5, ρ', s5, (k2.trans s3.i).trans k5, h2⟩
      | bk ρ' => exact fun σ5 I5 H5 s5 k5 => h2 σ5 I5 H5 s5 (((k0.trans k2).trans s3.i).trans k5)
      | rt d => exact h2
      | rf ds => exact h2
  · have e : i = ds.length := by omega
    subst e
    rw [List.drop_length] at h2
    exact .inl ⟨hit.2, h2 σ2 I2 H2 s2 (k0.trans k2)⟩
section
variable {X : Cx} {E : XK} {Mb M M' M1 : List Nat} {s : Stmt} {ss : List Stmt} {t u : TS} {ms mr : Env → R Fl} {e c : Expr} {te : TE} {m : Env → R D} {pos : Pos} {x : Str} {tt : TT} {mt : Env → R Bool} {tg : Expr} {g : TG} {ag : D → R As} {tb : TS} {mb : Env → R Fl} {body : List Stmt} {wi : TI} {mi : Env → R (List D)} {pos' : Pos}
theorem ms_for (hp : PassesOwn (model X.prog X.w) X.A X.env X.xe) (hc : X.calm = true) (hi : MI X (kE E) tg e wi mi) (hg : MG X tg g ag) (hM : AgIn ag (· ∉ M)) (hb : MSs X E M M M body tb mb) (hs : ∀ x, foldedSetIterable e X.env x = pure x := by intro _; rfl) :
    MS X E Mb M M (.For tg e body [] pos) (tFor wi g tb) (fun ρ => forS ag mb ρ (mi (wipeE ρ M))) :=
  ⟨ps_for hp hc hi.pe hg.pe hb.pe hs, fun Ie He σ I H ρ D0 s h => hi.sn.strong s h fun ds J I1 H1 s1 t it h => for_core (hg.sn _) hM hb.sn s1 (fun I k => it.mono k) h t.i⟩
/-- over a range whose ends may be read off lists of one's own -/
theorem ms_forR1 {a : Expr} {p : Pos} {tas : TA} {ma : Env → R (List D)} (hp : PassesOwn (model X.prog X.w) X.A X.env X.xe) (hc : X.calm = true) (hr : Gl X "range") (hm : X.mg "range" = none) (ha : MA X (kE E) [a] tas ma) (hg : MG X tg g ag) (hM : AgIn ag (· ∉ M)) (hb : MSs X E M M M body tb mb)
    (hs : starEach [a] X.env = [(false, eval a X.env)] := by rfl) :
    MS X E Mb M M (.For tg (.Call (.Name "range" p) [a] [] pos) body [] pos') (tFor (iRng1 tas) g tb) (fun ρ => forR rg1 ag mb ρ (ma ρ)) :=
  ⟨ps_for hp hc (pi_range1 hr hm ha.pe hs) hg.pe hb.pe, fun Ie He σ I H ρ D0 s h => ha.sn.weak s h fun ds J I1 H1 s1 t rs h => by
    obtain ⟨es, he, h⟩ := outS_calm h
    unfold rg1 at he
    split at he
    · split at he
      · rename_i hj
        cases he
        obtain ⟨v, rfl, r⟩ := reps1 rs
        cases r
        exact ⟨_, rfl, hj.1, hj.2, for_core (hg.sn _) hM hb.sn s1 (fun I k => it_rng) h (.refl _)⟩
      · cases he
    · cases he⟩
theorem ms_forR2 {a b : Expr} {p : Pos} {tas : TA} {ma : Env → R (List D)} (hp : PassesOwn (model X.prog X.w) X.A X.env X.xe) (hc : X.calm = true) (hr : Gl X "range") (hm : X.mg "range" = none) (ha : MA X (kE E) [a, b] tas ma) (hg : MG X tg g ag) (hM : AgIn ag (· ∉ M)) (hb : MSs X E M M M body tb mb)
    (hs : starEach [a, b] X.env = [(false, eval a X.env), (false, eval b X.env)] := by rfl) (hs2 : starEach [b] X.env = [(false, eval b X.env)] := by rfl) :
    MS X E Mb M M (.For tg (.Call (.Name "range" p) [a, b] [] pos) body [] pos') (tFor (iRng2 tas) g tb) (fun ρ => forR rg2 ag mb ρ (ma ρ)) :=
  ⟨ps_for hp hc (pi_range2 hr hm ha.pe hs hs2) hg.pe hb.pe, fun Ie He σ I H ρ D0 s h => ha.sn.weak s h fun ds J I1 H1 s1 t rs h => by
    obtain ⟨es, he, h⟩ := outS_calm h
    unfold rg2 at he
    split at he
    · split at he
      · rename_i hj
        cases he
        obtain ⟨v, w, rfl, r, r2⟩ := reps2 rs
        cases r
        cases r2
        exact ⟨_, _, rfl, hj, for_core (hg.sn _) hM hb.sn s1 (fun I k => it_rng) h (.refl _)⟩
      · cases he
    · cases he⟩
theorem ms_forR3 {a b c : Expr} {p : Pos} {tas : TA} {ma : Env → R (List D)} (hp : PassesOwn (model X.prog X.w) X.A X.env X.xe) (hc : X.calm = true) (hr : Gl X "range") (hm : X.mg "range" = none) (ha : MA X (kE E) [a, b, c] tas ma) (hg : MG X tg g ag) (hM : AgIn ag (· ∉ M)) (hb : MSs X E M M M body tb mb)
    (hi : PA X [a, b, c] tas → PI X tg (.Call (.Name "range" p) [a, b, c] [] pos) (iRng3 tas)) :
    MS X E Mb M M (.For tg (.Call (.Name "range" p) [a, b, c] [] pos) body [] pos') (tFor (iRng3 tas) g tb) (fun ρ => forR rg3 ag mb ρ (ma ρ)) :=
  ⟨ps_for hp hc (hi ha.pe) hg.pe hb.pe, fun Ie He σ I H ρ D0 s h => ha.sn.weak s h fun ds J I1 H1 s1 t rs h => by
    obtain ⟨es, he, h⟩ := outS_calm h
    unfold rg3 at he
    split at he
    · split at he
      · rename_i hj
        obtain ⟨hc1, h1, h2, h3, h4⟩ := hj
        subst hc1
        cases he
        cases rs with
        | cons r rs =>
          obtain ⟨v, w, rfl, r2, r3⟩ := reps2 rs
          cases r
          cases r2
          cases r3
          exact ⟨_, _, _, _, rfl, RgC.neg h1 h2 h3 h4, for_core (hg.sn _) hM hb.sn s1 (fun I k => it_rngC) h (.refl _)⟩
      · cases he
    · cases he⟩
def whileGo (mt : Env → R Bool) (mb : Env → R Fl) : Nat → Env → R Fl
  | 0, _ => .stuck
  | n + 1, ρ => mt ρ >>= fun b => if b = true then mb ρ >>= fun f => match f with
      | .nx ρ' => whileGo mt mb n ρ'
      | .ct ρ' => whileGo mt mb n ρ'
      | .bk ρ' => .ok (.nx ρ')
      | .rt d => .ok (.rt d)
      | .rf ds => .ok (.rf ds)
    else .ok (.nx ρ)
theorem ms_while (n : Nat) (hp : PassesOwn (model X.prog X.w) X.A X.env X.xe) (hc : MT X (kE E) c tt mt) (hb : MSs X E M M M body tb mb) : MS X E Mb M M (.While c body [] pos) (tWhile tt tb) (whileGo mt mb n) :=
  ⟨ps_while hp hc.pe hb.pe, fun Ie He σ I H ρ D0 s h => by
    refine ⟨fun m σ H => ∃ I1 ρ, SE X.K (g0 X.mg) M Ie He σ I1 H ρ ∧ Same I I1 ∧ OutS X.K (g0 X.mg) E Mb M Ie He I D0 (whileGo mt mb m ρ), ⟨n, I, ρ, s, .refl _, h⟩, ?_⟩
    rintro m σ2 H2 ⟨I2, ρ2, s2, k2, h2⟩
    cases m with
    | zero => exact h2.elim
    | succ m =>
      refine hc.sn.weak s2 h2 fun b b' I3 H3 s3 t rb h3 => ?_
      cases rb
      cases b with
      | false => exact h3 σ2 I2 H3 s3 k2
      | true =>
        refine ⟨fun σ H => ∃ I1 ρ, SE X.K (g0 X.mg) M Ie He σ I1 H ρ ∧ Same I I1 ∧ OutS X.K (g0 X.mg) E Mb M Ie He I D0 (whileGo mt mb m ρ), fun σ' H' hN => ⟨m, Nat.lt_succ_self _, hN⟩, ?_⟩
        refine hb.sn Ie He _ I2 H3 _ _ s3 ?_
        have h3 : OutS X.K (g0 X.mg) E Mb M Ie He I D0 (mb ρ2 >>= fun f => match f with
          | .nx ρ' => whileGo mt mb m ρ'
          | .ct ρ' => whileGo mt mb m ρ'
          | .bk ρ' => .ok (.nx ρ')
          | .rt d => .ok (.rt d)
          | .rf ds => .ok (.rf ds)) := h3
        cases e : mb ρ2 with
        | err nm es =>
          rw [e] at h3
          exact h3
        | stuck =>
          rw [e] at h3
          exact h3
        | ok f =>
          rw [e] at h3
          cases f with
          | nx ρ' => exact fun σ5 I5 H5 s5 k5 => ⟨I5, ρ', s5, k2.trans k5, h3⟩
          | ct ρ' => exact fun σ5 I5 H5 s5 k5 => ⟨I5, ρ', s5, k2.trans k5, h3⟩
          | bk ρ' => exact fun σ5 I5 H5 s5 k5 => h3 σ5 I5 H5 s5 (k2.trans k5)
          | rt d => exact h3
          | rf ds => exact h3⟩
end

/-! #### what is known of targets -/
def AgsIn (ag : List D → R As) (P : Nat → Prop) : Prop := ∀ d as, ag d = .ok as → ∀ p ∈ as, P p.1
theorem agin_name {P : Nat → Prop} {i : Nat} (h : P i) : AgIn (agV i) P := fun d as e p hp => by
  cases e
  cases List.mem_singleton.mp hp
  exact h
theorem agsin_nil {P : Nat → Prop} : AgsIn agN P := fun d as e p hp => by
  cases d with
  | nil =>
    cases e
    cases hp
  | cons _ _ => cases e
theorem agsin_cons {P : Nat → Prop} {ag : D → R As} {bg : List D → R As} (h1 : AgIn ag P) (h2 : AgsIn bg P) : AgsIn (agC ag bg) P := fun d as e p hp => by
  cases d with
  | nil => cases e
  | cons d ds =>
    obtain ⟨a, ha, e⟩ := bind_ok (r := ag d) e
    obtain ⟨b, hb, e⟩ := bind_ok (r := bg ds) e
    cases e
    rcases List.mem_append.mp hp with hp | hp
    · exact h1 d a ha p hp
    · exact h2 ds b hb p hp
theorem agin_tup {P : Nat → Prop} {n : Nat} {ag : List D → R As} (h : AgsIn ag P) : AgIn (tupAs n ag) P := fun d as e p hp => by
  cases d with
  | tup ds =>
    have e : (if ds.length = n then ag ds else .stuck) = R.ok as := e
    by_cases hl : ds.length = n
    · rw [if_pos hl] at e
      exact h ds as e p hp
    · rw [if_neg hl] at e
      cases e
  | _ => cases e
/-! #### a def by its body -/
def startE (n : Nat) (ds : List D) : Env := ds.map some ++ List.replicate (n - ds.length) none
/-- what the body hands back -/
def endD : Fl → R D
  | .nx _ => .ok .non
  | .rt d => .ok d
  | .rf ds => .ok (.lst ds)
  | _ => .stuck
def runF (n : Nat) (ms : Env → R Fl) (ds : List D) : R D := calm (ms (startE n ds)) >>= endD
theorem start_SE {K : PySem.W.Frag} {mg : Gm} {M : List Nat} {I H : Hp} {N : List Str} {vs : List V} {ds : List D} (ex : Same I H) (rs : Reps K mg I vs ds) (hM : ∀ i ∈ M, ds.length ≤ i) : SE K mg M (I, 0) H (start N vs) I H (startE N.length ds) := by
  have hget : ∀ (i : Nat) (d : D), (startE N.length ds)[i]? = some (some d) → i < ds.length ∧ ds[i]? = some d := fun i d q => by
    unfold startE at q
    by_cases hi : i < ds.length
    · rw [List.getElem?_append_left (by rw [List.length_map]; exact hi), List.getElem?_map] at q
      refine ⟨hi, ?_⟩
      cases z : ds[i]? with
      | none =>
        rw [z] at q
        cases q
      | some e =>
        rw [z] at q
        cases q
        rfl
    · rw [List.getElem?_append_right (by rw [List.length_map]; omega), List.getElem?_replicate] at q
      split at q <;> cases q
  refine ⟨.refl ex, ?_, fun i d _ q => ?_, fun i d hi q => ?_, fun i j p p9 d e hi hj hne q1 q2 => ?_, fun i d p hi q => ?_⟩
  · unfold L2.start startE
    rw [List.length_append, List.length_append, List.length_map, List.length_map, List.length_replicate, List.length_replicate, rs.len]
  · obtain ⟨hi, hd⟩ := hget i d q
    obtain ⟨v, hv, r⟩ := rs.get hd
    refine ⟨v, ?_, r⟩
    unfold L2.start
    rw [List.getElem?_append_left (by rw [List.length_map, rs.len]; exact hi), List.getElem?_map, hv]
    rfl
  · have a := (hget i d q).1
    have b := hM i hi
    omega
  · have a := (hget i d q1).1
    have b := hM i hi
    omega
  · have a := (hget i d q).1
    have b := hM i hi
    omega
end
end DL
namespace DL
open PySem PySem.Spec L2

/-! ### comprehensions of two walks -/
def lc2Go (ag : D → R As) (mt : Env → R Bool) (mi1 : Env → R (List D)) (ag1 : D → R As) (mt1 : Env → R Bool) (me : Env → R D) (vs1 : List Nat) (ρ : Env) : List D → R (List D)
  | [] => .ok []
  | d :: ds => calm (ag d) >>= fun as => calm (mt (setE ρ as)) >>= fun b => if b = true then
      calm (mi1 (setE ρ as)) >>= fun es => lcGo ag1 mt1 me (wipeE (setE ρ as) vs1) es >>= fun r1 => lc2Go ag mt mi1 ag1 mt1 me vs1 ρ ds >>= fun r => .ok (r1 ++ r)
    else lc2Go ag mt mi1 ag1 mt1 me vs1 ρ ds
def lc2M (vs vs1 : List Nat) (mi : Env → R (List D)) (ag : D → R As) (mt : Env → R Bool) (mi1 : Env → R (List D)) (ag1 : D → R As) (mt1 : Env → R Bool) (me : Env → R D) : Env → R D :=
  fun ρ => mi ρ >>= fun ds => calm (lc2Go ag mt mi1 ag1 mt1 me vs1 (wipeE ρ vs) ds) >>= fun r => if r.length ≤ LIM then .ok (.lst r) else .stuck
theorem slots_in {K : PySem.W.Frag} {mg : Gm} {I : Hp} {us : List (Nat × V)} {as : As} {vs : List Nat} (ar : AR K mg I us as) (h : ∀ p ∈ as, p.1 ∈ vs) : ∀ p ∈ us, p.1 ∈ vs := fun p hp => by
  have hm : p.1 ∈ as.map (·.1) := by
    rw [← ar.slots]
    exact List.mem_map_of_mem hp
  obtain ⟨q, hq, e⟩ := List.mem_map.mp hm
  rw [← e]
  exact h q hq
section
variable {E : Wh} {wi wi1 : TI} {g g1 : TG} {tt tt1 : TT} {te : TE} {mi mi1 : Env → R (List D)} {ag ag1 : D → R As} {mt mt1 : Env → R Bool} {me : Env → R D}
/-- the accumulated list without a count -/
structure LkAt (K : PySem.W.Frag) (mg : Gm) (I1 H1 : Hp) (D0 : Addr) (accD : List D) (I2 H : Hp) : Prop where
  at_ : LcAt K mg I1 H1 D0 accD.length accD I2 H
theorem LkAt.step {K : PySem.W.Frag} {mg : Gm} {I1 H1 I2 H I3 H3 : Hp} {D0 : Addr} {accD : List D} (p : LkAt K mg I1 H1 D0 accD I2 H) (s : Stp I2 H I3 H3) : LkAt K mg I1 H1 D0 accD I3 H3 := ⟨p.at_.step s⟩
theorem LkAt.push {K : PySem.W.Frag} {mg : Gm} {I1 H1 I2 H : Hp} {D0 : Addr} {accD : List D} {y : V} {d : D} (p : LkAt K mg I1 H1 D0 accD I2 H) (hD : H1 D0 = none) (r : Rep K mg I2 y d) (hn : accD.length < LIM) : ∃ acc, H D0 = some (.lst acc) ∧ acc.length < sizeLine ∧ LkAt K mg I1 H1 D0 (accD ++ [d]) I2 (upd H D0 (.lst (acc ++ [y]))) := by
  obtain ⟨acc, h1, h2, h3⟩ := p.at_.push hD r hn
  exact ⟨acc, h1, h2, ⟨by rw [List.length_append, List.length_singleton]; exact h3⟩⟩
theorem lc2_snd {K : PySem.W.Frag} {mg : Gm} {vs vs1 : List Nat} (si : Sn K mg E.e (ItOk K mg) wi mi) (sg : SnG K mg g ag) (st : Sn K mg (fun _ => E0) rB tt mt) (si1 : Sn K mg (fun _ => E0) (ItOk K mg) wi1 mi1) (sg1 : SnG K mg g1 ag1) (st1 : Sn K mg (fun _ => E0) rB tt1 mt1) (se : Sn K mg (fun _ => E0) (Rep K mg) te me)
    (hv : AgIn ag (· ∈ vs)) (hv1 : AgIn ag1 (· ∈ vs1)) : Sn K mg E.e (Rep K mg) (tLc2 wi g tt wi1 g1 tt1 te vs vs1) (lc2M vs vs1 mi ag mt mi1 ag1 mt1 me) := fun σ I H ρ Q re ex h => by
  refine si.run re ex h fun ds J I1 H1 _ s1 it h D0 hD => ?_
  cases eo : lc2Go ag mt mi1 ag1 mt1 me vs1 (wipeE ρ vs) ds with
  | err _ _ =>
    rw [eo] at h
    exact h.elim
  | stuck =>
    rw [eo] at h
    exact h.elim
  | ok out =>
    rw [eo] at h
    obtain ⟨hl, h⟩ := out_if h
    refine ⟨fun i m H => m = ds.length - i ∧ i ≤ ds.length ∧ ∃ I2 accD r, LkAt K mg I1 H1 D0 accD I2 H ∧ lc2Go ag mt mi1 ag1 mt1 me vs1 (wipeE ρ vs) (ds.drop i) = .ok r ∧ accD ++ r = out, ⟨ds.length, by simp, Nat.zero_le _, I1, [], out, ⟨.start s1.e hD⟩, eo, rfl⟩, ?_⟩
    rintro i m H2 ⟨rfl, hi, I2, accD, r, p, hr, ho⟩
    have hit := it I2 H2 p.at_.i p.at_.e
    by_cases hlt : i < ds.length
    · obtain ⟨hgo, hy⟩ := hit.1 i _ (List.getElem?_eq_getElem hlt)
      refine .inr ⟨hgo, fun H' => ∃ I2 accD r, LkAt K mg I1 H1 D0 accD I2 H' ∧ lc2Go ag mt mi1 ag1 mt1 me vs1 (wipeE ρ vs) (ds.drop (i + 1)) = .ok r ∧ accD ++ r = out, fun H' hN => ⟨ds.length - (i + 1), by omega, rfl, hlt, hN⟩, fun x H' y => ?_⟩
      obtain ⟨I3, s3, rx⟩ := hy x H' y
      rw [List.drop_eq_getElem_cons hlt] at hr
      unfold lc2Go at hr
      obtain ⟨as, ha, hr⟩ := bind_ok hr
      have ha := calm_of ha
      obtain ⟨b, hb, hr⟩ := bind_ok hr
      have hb := calm_of hb
      refine sg x _ I3 H' _ as _ s3.e rx ha fun us ar => ?_
      refine ⟨by rw [wipe_setS (slots_in ar (hv _ _ ha)), wipe_wipe], ?_⟩
      have re3 : RE K mg I3 (setS (wipe σ vs) us) (setE (wipeE ρ vs) as) := RE.setAll ar (((re.mono s1.i).mono (p.at_.i.trans s3.i)).wipe vs)
      have p3 := p.step s3
      refine st _ I3 H' _ _ re3 s3.e ?_
      rw [hb]
      intro b' I4 H4 s4 eb
      have eb : b' = b := eb
      subst eb
      have p4 := p3.step s4
      cases b' with
      | false =>
        rw [if_neg (by decide)] at hr
        exact ⟨I4, accD, r, p4, hr, ho⟩
      | true =>
        rw [if_pos rfl] at hr
        obtain ⟨es, he, hr⟩ := bind_ok hr
        have he := calm_of he
        obtain ⟨r1, hr1, hr⟩ := bind_ok hr
        obtain ⟨r2, hr2, hr⟩ := bind_ok hr
        cases hr
        have re4 := re3.mono s4.i
        show wi1 _ H4 _
        refine si1 _ I4 H4 _ _ re4 s4.e ?_
        rw [he]
        intro J1 I5 H5 s5 it1
        have p5 := p4.step s5
        refine ⟨fun j k H => k = es.length - j ∧ j ≤ es.length ∧ ∃ I6 accE q, LkAt K mg I1 H1 D0 accE I6 H ∧ Same I5 I6 ∧ lcGo ag1 mt1 me (wipeE (setE (wipeE ρ vs) as) vs1) (es.drop j) = .ok q ∧ accE ++ (q ++ r2) = out, ⟨es.length, by simp, Nat.zero_le _, I5, accD, r1, p5, .refl _, hr1, ho⟩, ?_⟩
        rintro j k H6 ⟨rfl, hj, I6, accE, q, p6, k6, hq, ho2⟩
        have hit1 := it1 I6 H6 k6 p6.at_.e
        by_cases hlt1 : j < es.length
        · obtain ⟨hgo1, hy1⟩ := hit1.1 j _ (List.getElem?_eq_getElem hlt1)
          refine .inr ⟨hgo1, fun H' => ∃ I6 accE q, LkAt K mg I1 H1 D0 accE I6 H' ∧ Same I5 I6 ∧ lcGo ag1 mt1 me (wipeE (setE (wipeE ρ vs) as) vs1) (es.drop (j + 1)) = .ok q ∧ accE ++ (q ++ r2) = out, fun H' hN => ⟨es.length - (j + 1), by omega, rfl, hlt1, hN⟩, fun x1 H7 y1 => ?_⟩
          obtain ⟨I7, s7, rx1⟩ := hy1 x1 H7 y1
          rw [List.drop_eq_getElem_cons hlt1] at hq
          unfold lcGo at hq
          obtain ⟨as1, ha1, hq⟩ := bind_ok hq
          have ha1 := calm_of ha1
          obtain ⟨b1, hb1, hq⟩ := bind_ok hq
          have hb1 := calm_of hb1
          refine sg1 x1 _ I7 H7 _ as1 _ s7.e rx1 ha1 fun us1 ar1 => ?_
          refine ⟨by rw [wipe_setS (slots_in ar1 (hv1 _ _ ha1)), wipe_wipe], ?_⟩
          have re7 : RE K mg I7 (setS (wipe (setS (wipe σ vs) us) vs1) us1) (setE (wipeE (setE (wipeE ρ vs) as) vs1) as1) := RE.setAll ar1 (((re4.mono s5.i).mono (k6.trans s7.i)).wipe vs1)
          have p7 := p6.step s7
          refine st1 _ I7 H7 _ _ re7 s7.e ?_
          rw [hb1]
          intro b2 I8 H8 s8 eb1
          have eb1 : b2 = b1 := eb1
          subst eb1
          have p8 := p7.step s8
          have k8 := (k6.trans s7.i).trans s8.i
          cases b2 with
          | false =>
            rw [if_neg (by decide)] at hq
            exact ⟨I8, accE, q, p8, k8, hq, ho2⟩
          | true =>
            rw [if_pos rfl] at hq
            obtain ⟨yd, hyd, hq⟩ := bind_ok hq
            have hyd := calm_of hyd
            obtain ⟨q', hq', hq⟩ := bind_ok hq
            cases hq
            show te _ H8 _
            refine se _ I8 H8 _ _ (re7.mono s8.i) s8.e ?_
            rw [hyd]
            intro yv I9 H9 s9 ry
            have hlen : accE.length < LIM := by
              have := congrArg List.length ho2
              rw [List.length_append, List.length_append, List.length_cons] at this
              omega
            obtain ⟨acc, h1, h2, p9⟩ := (p8.step s9).push hD ry hlen
            exact ⟨acc, h1, h2, I9, _, q', p9, k8.trans s9.i, hq', by rw [List.append_assoc]; exact ho2⟩
        · have e : j = es.length := by omega
          subst e
          rw [List.drop_length] at hq
          cases hq
          exact .inl ⟨hit1.2, I6, accE, r2, p6, hr2, ho2⟩
    · have e : i = ds.length := by omega
      subst e
      rw [List.drop_length] at hr
      cases hr
      obtain ⟨I', s', r'⟩ := p.at_.done hD
      rw [List.append_nil] at ho
      subst ho
      exact .inl ⟨hit.2, h.there s' r'⟩
end
section
variable {X : Cx} {E : Wh} {elt tg iter tg1 iter1 : Expr} {ifs ifs1 : List Expr} {scope : Scope} {own : List (Str × Nat)} {vs1 : List Nat} {pos : Pos} {wi wi1 : TI} {g g1 : TG} {tt tt1 : TT} {te : TE} {mi mi1 : Env → R (List D)} {ag ag1 : D → R As} {mt mt1 : Env → R Bool} {me : Env → R D}
theorem me_lc2 (hc : X.calm = true) (hN : X.N.Nodup) (hi : MI X E tg iter wi mi) (ok : BlkOk X.N X.env.scope scope own) (hw : ∀ i ∈ vs1, i ∈ own.map (·.2))
    (hg : ∀ (s : Shared) (H : Hp) (C : Addr) (cl : List (Str × Addr)) (fp : List Addr), MG (X.blk s H scope (compEnvC scope cl C X.env) fp) tg g ag) (ht : ∀ (s : Shared) (H : Hp) (C : Addr) (cl : List (Str × Addr)) (fp : List Addr), MTs (X.blk s H scope (compEnvC scope cl C X.env) fp) E.calm ifs tt mt)
    (hi1 : ∀ (s : Shared) (H : Hp) (C : Addr) (cl : List (Str × Addr)) (fp : List Addr), MI (X.blk s H scope (compEnvC scope cl C X.env) fp) E.calm tg1 iter1 wi1 mi1)
    (hg1 : ∀ (s : Shared) (H : Hp) (C : Addr) (cl : List (Str × Addr)) (fp : List Addr), MG (X.blk s H scope (compEnvC scope cl C X.env) fp) tg1 g1 ag1) (ht1 : ∀ (s : Shared) (H : Hp) (C : Addr) (cl : List (Str × Addr)) (fp : List Addr), MTs (X.blk s H scope (compEnvC scope cl C X.env) fp) E.calm ifs1 tt1 mt1)
    (he : ∀ (s : Shared) (H : Hp) (C : Addr) (cl : List (Str × Addr)) (fp : List Addr), ME (X.blk s H scope (compEnvC scope cl C X.env) fp) E.calm elt te me) (hv : AgIn ag (· ∈ own.map (·.2))) (hv1 : AgIn ag1 (· ∈ vs1)) (hs : ∀ x, foldedSetIterable iter X.env x = pure x := by intro _; rfl) (hs1 : ∀ env x, foldedSetIterable iter1 env x = pure x := by intro _ _; rfl) :
    ME X E (.ListComp elt [⟨tg, iter, ifs, 0⟩, ⟨tg1, iter1, ifs1, 0⟩] scope pos) (tLc2 wi g tt wi1 g1 tt1 te (own.map (·.2)) vs1) (lc2M (own.map (·.2)) vs1 mi ag mt mi1 ag1 mt1 me) :=
  ⟨pe_lc2 hc hN hi.pe ok hw (fun s H C cl fp => (hg s H C cl fp).pe) (fun s H C cl fp => (ht s H C cl fp).pe) (fun s H C cl fp => (hi1 s H C cl fp).pe) (fun s H C cl fp => (hg1 s H C cl fp).pe) (fun s H C cl fp => (ht1 s H C cl fp).pe) (fun s H C cl fp => (he s H C cl fp).pe) hs hs1,
    lc2_snd hi.sn ((hg X.s_0 X.H_0 0 [] []).sn _) (ht X.s_0 X.H_0 0 [] []).sn (hi1 X.s_0 X.H_0 0 [] []).sn ((hg1 X.s_0 X.H_0 0 [] []).sn _) (ht1 X.s_0 X.H_0 0 [] []).sn (he X.s_0 X.H_0 0 [] []).sn hv hv1⟩
end

/-! ### a comprehension stored at once -/
section
variable {X : Cx} {E : XK} {Mb M : List Nat} {elt tg iter tg1 iter1 : Expr} {ifs ifs1 : List Expr} {scope : Scope} {own : List (Str × Nat)} {vs1 : List Nat} {pos spos py : Pos} {y : Str} {wi wi1 : TI} {g g1 : TG} {tt tt1 : TT} {te : TE} {mi mi1 : Env → R (List D)} {ag ag1 : D → R As} {mt mt1 : Env → R Bool} {me : Env → R D}
theorem ms_setLc (i : Nat) (hc : X.calm = true) (hN : X.N.Nodup) (hi : MI X (kE E) tg iter wi mi) (ok : BlkOk X.N X.env.scope scope own)
    (hg : ∀ (s : Shared) (H : Hp) (C : Addr) (cl : List (Str × Addr)) (fp : List Addr), MG (X.blk s H scope (compEnvC scope cl C X.env) fp) tg g ag) (ht : ∀ (s : Shared) (H : Hp) (C : Addr) (cl : List (Str × Addr)) (fp : List Addr), MTs (X.blk s H scope (compEnvC scope cl C X.env) fp) (kE E).calm ifs tt mt)
    (he : ∀ (s : Shared) (H : Hp) (C : Addr) (cl : List (Str × Addr)) (fp : List Addr), ME (X.blk s H scope (compEnvC scope cl C X.env) fp) (kE E).calm elt te me) (hv : AgIn ag (· ∈ own.map (·.2)))
    (hsw : swapsWith (.ListComp elt [⟨tg, iter, ifs, 0⟩] scope pos) (some (.Name y py)) spos.line X.env = pure true) (hy : X.N[i]? = some y := by rfl) (hyl : X.env.scope.names.lookup y = some .local := by rfl) (hM : i ∉ M := by decide) (hs : ∀ x, foldedSetIterable iter X.env x = pure x := by intro _; rfl) :
    MS X E Mb M M (.Assign [.Name y py] (.ListComp elt [⟨tg, iter, ifs, 0⟩] scope pos) spos) (tAsg (tLc wi g tt te (own.map (·.2))) (gName i)) (fun ρ => asg i ρ (lcM (own.map (·.2)) mi ag mt me (wipeE ρ M))) :=
  ⟨ps_setLc hc hN hy hyl hsw hi.pe ok (fun s H C cl fp => (hg s H C cl fp).pe) (fun s H C cl fp => (ht s H C cl fp).pe) (fun s H C cl fp => (he s H C cl fp).pe) hs, fun Ie He σ I H ρ D0 s h =>
    (lc_snd hi.sn ((hg X.s_0 X.H_0 0 [] []).sn _) (ht X.s_0 X.H_0 0 [] []).sn (he X.s_0 X.H_0 0 [] []).sn hv).strong s h fun d v I1 H1 s1 t r q => q _ I1 H1 (s1.set hM r) t.i⟩
theorem ms_setLc2 (i : Nat) (hc : X.calm = true) (hN : X.N.Nodup) (hi : MI X (kE E) tg iter wi mi) (ok : BlkOk X.N X.env.scope scope own) (hw : ∀ i ∈ vs1, i ∈ own.map (·.2))
    (hg : ∀ (s : Shared) (H : Hp) (C : Addr) (cl : List (Str × Addr)) (fp : List Addr), MG (X.blk s H scope (compEnvC scope cl C X.env) fp) tg g ag) (ht : ∀ (s : Shared) (H : Hp) (C : Addr) (cl : List (Str × Addr)) (fp : List Addr), MTs (X.blk s H scope (compEnvC scope cl C X.env) fp) (kE E).calm ifs tt mt)
    (hi1 : ∀ (s : Shared) (H : Hp) (C : Addr) (cl : List (Str × Addr)) (fp : List Addr), MI (X.blk s H scope (compEnvC scope cl C X.env) fp) (kE E).calm tg1 iter1 wi1 mi1)
    (hg1 : ∀ (s : Shared) (H : Hp) (C : Addr) (cl : List (Str × Addr)) (fp : List Addr), MG (X.blk s H scope (compEnvC scope cl C X.env) fp) tg1 g1 ag1) (ht1 : ∀ (s : Shared) (H : Hp) (C : Addr) (cl : List (Str × Addr)) (fp : List Addr), MTs (X.blk s H scope (compEnvC scope cl C X.env) fp) (kE E).calm ifs1 tt1 mt1)
    (he : ∀ (s : Shared) (H : Hp) (C : Addr) (cl : List (Str × Addr)) (fp : List Addr), ME (X.blk s H scope (compEnvC scope cl C X.env) fp) (kE E).calm elt te me) (hv : AgIn ag (· ∈ own.map (·.2))) (hv1 : AgIn ag1 (· ∈ vs1))
    (hsw : swapsWith (.ListComp elt [⟨tg, iter, ifs, 0⟩, ⟨tg1, iter1, ifs1, 0⟩] scope pos) (some (.Name y py)) spos.line X.env = pure true) (hy : X.N[i]? = some y := by rfl) (hyl : X.env.scope.names.lookup y = some .local := by rfl) (hM : i ∉ M := by decide) (hs : ∀ x, foldedSetIterable iter X.env x = pure x := by intro _; rfl) (hs1 : ∀ env x, foldedSetIterable iter1 env x = pure x := by intro _ _; rfl) :
    MS X E Mb M M (.Assign [.Name y py] (.ListComp elt [⟨tg, iter, ifs, 0⟩, ⟨tg1, iter1, ifs1, 0⟩] scope pos) spos) (tAsg (tLc2 wi g tt wi1 g1 tt1 te (own.map (·.2)) vs1) (gName i)) (fun ρ => asg i ρ (lc2M (own.map (·.2)) vs1 mi ag mt mi1 ag1 mt1 me (wipeE ρ M))) :=
  ⟨ps_setLc2 hc hN hy hyl hsw hi.pe ok hw (fun s H C cl fp => (hg s H C cl fp).pe) (fun s H C cl fp => (ht s H C cl fp).pe) (fun s H C cl fp => (hi1 s H C cl fp).pe) (fun s H C cl fp => (hg1 s H C cl fp).pe) (fun s H C cl fp => (ht1 s H C cl fp).pe) (fun s H C cl fp => (he s H C cl fp).pe) hs hs1, fun Ie He σ I H ρ D0 s h =>
    (lc2_snd hi.sn ((hg X.s_0 X.H_0 0 [] []).sn _) (ht X.s_0 X.H_0 0 [] []).sn (hi1 X.s_0 X.H_0 0 [] []).sn ((hg1 X.s_0 X.H_0 0 [] []).sn _) (ht1 X.s_0 X.H_0 0 [] []).sn (he X.s_0 X.H_0 0 [] []).sn hv hv1).strong s h fun d v I1 H1 s1 t r q => q _ I1 H1 (s1.set hM r) t.i⟩
end
end DL
namespace DL
open PySem PySem.Spec L2

/-! ### new lists for slots of one's own -/
def OutN (K : PySem.W.Frag) (mg : Gm) (E : XK) (I H : Hp) (r : R (List D)) (Q : VK) : Prop := match r with
  | .ok ds => ∀ p vs I' H', Stp I H I' H' → I' p = none → H p = none → H' p = some (.lst vs) → Reps K mg I' vs ds → Q (.ref p) H'
  | .err nm ds => ∀ C od I' H', Stp I H I' H' → XRep K mg I' H' nm ds C od → E C od H'
  | .stuck => False
def SnN (K : PySem.W.Frag) (mg : Gm) (E : XK) (te : TE) (m : Env → R (List D)) : Prop :=
  ∀ (σ : L2.St) (I H : Hp) (ρ : Env) (Q : VK), RE K mg I σ ρ → Same I H → OutN K mg E I H (m ρ) Q → te σ H Q
structure MN (X : Cx) (E : XK) (e : Expr) (t : TE) (m : Env → R (List D)) : Prop where
  pe : PE X e t
  sn : SnN X.K (g0 X.mg) E t m
theorem OutN.mono {K : PySem.W.Frag} {mg : Gm} {E : XK} {I H I' H' : Hp} {r : R (List D)} {Q : VK} (s : Stp I H I' H') (h : OutN K mg E I H r Q) : OutN K mg E I' H' r Q := by
  cases r with
  | ok d => exact fun p vs I2 H2 t n1 n2 => h p vs I2 H2 (s.trans t) n1 (s.h.free n2)
  | err nm ds => exact fun C od I2 H2 t q => h C od I2 H2 (s.trans t) q
  | stuck => exact h
theorem Sn.runN {K : PySem.W.Frag} {mg : Gm} {E : XK} {I H : Hp} {σ : L2.St} {ρ : Env} {α β : Type} {rp : Hp → β → α → Prop} {te : L2.St → Hp → (β → Hp → Prop) → Prop} {m : Env → R α} {k : α → R (List D)} {P : β → Hp → Prop} {Q : VK} (h : Sn K mg (fun _ => E) rp te m) (re : RE K mg I σ ρ) (ex : Same I H) (hq : OutN K mg E I H (m ρ >>= k) Q)
    (hk : ∀ d v I' H', m ρ = .ok d → Stp I H I' H' → rp I' v d → OutN K mg E I' H' (k d) Q → P v H') : te σ H P := by
  refine h σ I H ρ P re ex ?_
  cases e : m ρ with
  | ok d =>
    rw [e] at hq
    exact fun v I' H' s q => hk d v I' H' e s q (OutN.mono s hq)
  | err nm ds =>
    rw [e] at hq
    exact hq
  | stuck =>
    rw [e] at hq
    exact hq
theorem OutN.new {K : PySem.W.Frag} {mg : Gm} {E : XK} {I H : Hp} {ds : List D} {vs : List V} {Q : VK} {p : Addr} (h : OutN K mg E I H (.ok ds) Q) (ex : Same I H) (hp : H p = none) (r : Reps K mg I vs ds) : Q (.ref p) (upd H p (.lst vs)) :=
  h p vs I _ (.side ex hp) (ex.free hp) hp upd_same r
theorem outN_if {K : PySem.W.Frag} {mg : Gm} {E : XK} {I H : Hp} {c : Prop} [Decidable c] {r : R (List D)} {Q : VK} (h : OutN K mg E I H (if c then r else .stuck) Q) : c ∧ OutN K mg E I H r Q := by
  by_cases hc : c
  · rw [if_pos hc] at h
    exact ⟨hc, h⟩
  · rw [if_neg hc] at h
    exact h.elim
def lenOk (ds : List D) : R (List D) := if ds.length ≤ LIM then .ok ds else .stuck
def unL : D → R (List D)
  | .lst ds => .ok ds
  | _ => .stuck
section
variable {X : Cx} {E : XK} {Mb M : List Nat} {a b e : Expr} {es : List Expr} {pos p : Pos} {x : Str} {ta tb te : TE} {tas : TA} {ma mb : Env → R D} {ms m : Env → R (List D)}
theorem mn_lst (h : MA X (kE E) es tas ms) : MN X E (.List es pos) (tLst tas) (fun ρ => dsp lenOk (ms ρ)) := by
  obtain ⟨pt, st⟩ := h
  refine ⟨pe_lst pt, fun σ I H ρ Q re ex h => ?_⟩
  refine st.runN re ex h fun ds vs I1 H1 _ s1 rx h => ?_
  obtain ⟨hl, h⟩ := outN_if h
  exact ⟨lim_ok (by rw [rx.len]; exact hl), fun p hp => h.new s1.e hp rx⟩
/-- list(xs) -/
def listL : List D → R (List D)
  | [.lst ds] => .ok ds
  | [.tup ds] => .ok ds
  | [.scr ns] => .ok (ns.map D.int)
  | _ => .stuck
theorem mn_list (hg : Gl X x) (hm : X.mg x = none) (hv : bootBuiltins x = some (.type "list")) (ha : MA X (kE E) (e :: es) tas ms) (hn : x ≠ "__name__" := by decide) (hdb : (x == ("__debug__" : Str)) = false := by decide)
    (he : starEach (e :: es) X.env = (false, eval e X.env) :: starEach es X.env := by rfl) (hpl : (backTo pos (starEach es X.env)).any (·.1) = false := by rfl) :
    MN X E (.Call (.Name x p) (e :: es) [] pos) (tCB (fun xs H Q => ∃ p ys, xs = [.ref p] ∧ (SqL X.K H p ys ∨ SqT X.K H p ys) ∧ ∀ l, H l = none → Q (.ref l) (upd H l (.lst ys))) tas) (fun ρ => dsp listL (ms ρ)) := by
  obtain ⟨pt, st⟩ := ha
  refine ⟨pe_callTy call_list_of hg hm hv pt hn hdb he hpl, fun σ I H ρ Q re ex h => ?_⟩
  refine st.runN re ex h fun ds vs I1 H1 _ s1 rs h => ?_
  unfold listL at h
  split at h
  · obtain ⟨v, rfl, r⟩ := reps1 rs
    cases r with
    | lst hh ra => exact ⟨_, _, rfl, .inl (SqL.of (s1.e _ _ hh)), fun p hp => h.new s1.e hp ra⟩
  · obtain ⟨v, rfl, r⟩ := reps1 rs
    cases r with
    | tup hh ra => exact ⟨_, _, rfl, .inr (SqT.of (s1.e _ _ hh)), fun p hp => h.new s1.e hp ra⟩
  · obtain ⟨v, rfl, r⟩ := reps1 rs
    cases r with
    | scr hh => exact ⟨_, _, rfl, .inl (s1.e.seq hh), fun p hp => h.new s1.e hp .ints⟩
  · exact h.elim
/-- list(range(a)), list(range(a, b)) -/
def rgL (i j : Int) : R (List D) := if -(2 ^ 62) ≤ i ∧ i < 2 ^ 62 ∧ -(2 ^ 62) ≤ j ∧ j < 2 ^ 62 ∧ (j - i).toNat ≤ LIM then .ok (rangeD i 1 (j - i).toNat) else .stuck
def rgL1 : List D → R (List D)
  | [.int j] => rgL 0 j
  | _ => .stuck
def rgL2 : List D → R (List D)
  | [.int i, .int j] => rgL i j
  | _ => .stuck
theorem rgV_reps {K : PySem.W.Frag} {mg : Gm} {I : Hp} (i j : Int) : Reps K mg I (rgV i j) (rangeD i 1 (j - i).toNat) := by
  unfold rgV rangeD
  generalize (j - i).toNat = n
  have key : ∀ l : List Nat, Reps K mg I (l.map fun k => V.int (i + (k : Nat))) (l.map fun k => D.int (i + (k : Nat) * 1)) := fun l => by
    induction l with
    | nil => exact .nil
    | cons k l ih =>
      refine .cons ?_ ih
      show Rep K mg I (V.int (i + (k : Nat))) (D.int (i + (k : Nat) * 1))
      rw [Int.mul_one]
      exact .int _
  exact key _
theorem mn_rg1 {p2 pos2 : Pos} (hc : X.calm = true) (hg : Gl X "list") (hm : X.mg "list" = none) (hg2 : Gl X "range") (hm2 : X.mg "range" = none) (ha : ME X (kE E) a ta ma) (na : starEach [a] X.env = (false, eval a X.env) :: starEach [] X.env := by rfl)
    (nb : starEach [.Call (.Name "range" p2) [a] [] pos2] X.env = (false, eval (.Call (.Name "range" p2) [a] [] pos2) X.env) :: starEach [] X.env := by rfl) :
    MN X E (.Call (.Name "list" p) [.Call (.Name "range" p2) [a] [] pos2] [] pos) (tLstRg (tRg1 ta)) (fun ρ => dsp rgL1 (acons (ma ρ) (.ok []))) := by
  obtain ⟨pt, st⟩ := ha
  refine ⟨pe_listRg hc hg hm (prg_1 hg2 hm2 pt na) nb, fun σ I H ρ Q re ex h => ?_⟩
  have h : OutN X.K (g0 X.mg) E I H (ma ρ >>= fun d => rgL1 [d]) Q := by
    have h : OutN X.K (g0 X.mg) E I H (dsp rgL1 (acons (ma ρ) (.ok []))) Q := h
    cases e : ma ρ with
    | ok d =>
      rw [e] at h
      exact h
    | err _ _ =>
      rw [e] at h
      exact h
    | stuck =>
      rw [e] at h
      exact h
  refine st.runN re ex h fun d v I1 H1 _ s1 rs h => ?_
  cases rs with
  | int j =>
    obtain ⟨⟨h1, h2, h3, h4, h5⟩, h⟩ := outN_if h
    exact ⟨j, rfl, ⟨h1, h2, h3, h4, Nat.le_trans h5 (by decide)⟩, fun q hq => h.new s1.e hq (rgV_reps 0 j)⟩
  | _ => exact h.elim
/-- sorted(xs) of ints -/
def sortedL (ds : List D) : R (List D) := sortedD ds >>= unL
theorem mn_sorted (hg : Gl X x) (hm : X.mg x = none) (hv : bootBuiltins x = some (.builtin "sorted")) (ha : MA X (kE E) (e :: es) tas ms) (hn : x ≠ "__name__" := by decide) (hdb : (x == ("__debug__" : Str)) = false := by decide)
    (he : starEach (e :: es) X.env = (false, eval e X.env) :: starEach es X.env := by rfl) (hpl : (backTo pos (starEach es X.env)).any (·.1) = false := by rfl) :
    MN X E (.Call (.Name x p) (e :: es) [] pos) (tCB (rSortedX X.K) tas) (fun ρ => dsp sortedL (ms ρ)) := by
  obtain ⟨pt, st⟩ := ha
  refine ⟨pe_callB cr_sortedX hg hm hv pt hn hdb he hpl, fun σ I H ρ Q re ex h => ?_⟩
  refine st.runN re ex h fun ds vs I1 H1 _ s1 rs h => ?_
  have fin : ∀ (a : Addr) (es : List D) (vs : List V), Reps X.K (g0 X.mg) I1 vs es → (SqL X.K H1 a vs ∨ SqT X.K H1 a vs) → OutN X.K (g0 X.mg) E I1 H1 ((match intsOf es with | some ns => R.ok (.lst ((sortI ns).map D.int)) | none => .stuck) >>= unL) Q → rSortedX X.K [.ref a] H1 Q := fun a es vs r hs h => by
    cases e : intsOf es with
    | none =>
      rw [e] at h
      exact h.elim
    | some ns =>
      rw [e] at h
      obtain ⟨rfl, _⟩ := reps_ints r e
      refine ⟨a, ns, rfl, hs, fun ns' p hp hs' hn => ?_⟩
      have e2 : ns' = sortI ns := srt_uniq (hp.trans (sortI_perm ns).symm) hs' (sortI_srt ns)
      subst e2
      exact OutN.new (ds := (sortI ns).map D.int) h s1.e hn .ints
  unfold sortedL sortedD at h
  split at h
  · obtain ⟨v, rfl, r⟩ := reps1 rs
    cases r with
    | lst hh ra => exact fin _ _ _ ra (.inl (SqL.of (s1.e _ _ hh))) h
  · obtain ⟨v, rfl, r⟩ := reps1 rs
    cases r with
    | tup hh ra => exact fin _ _ _ ra (.inr (SqT.of (s1.e _ _ hh))) h
  · exact h.elim
def scals (ds : List D) : Bool := ds.all D.scal
theorem Reps.scals {K : PySem.W.Frag} {mg : Gm} {I I' : Hp} : ∀ {vs : List V} {ds : List D}, Reps K mg I vs ds → DL.scals ds = true → Reps K mg I' vs ds
  | _, _, .nil, _ => .nil
  | _, _, .cons a r, h => by
    unfold DL.scals at h
    rw [List.all_cons, Bool.and_eq_true] at h
    exact .cons (a.scal h.1) (Reps.scals r h.2)
def ownS (i : Nat) (ρ : Env) (r : R (List D)) : R Fl := r >>= fun ds => .ok (.nx (ρ.set i (some (.lst ds))))
@[simp] theorem ownS_ok (i : Nat) (ρ : Env) (ds : List D) : ownS i ρ (.ok ds) = .ok (.nx (ρ.set i (some (.lst ds)))) := rfl
def ownSW (i : Nat) (ρ : Env) (r : R (List D)) : R Fl := r >>= fun ds => if scals ds = true then .ok (.nx (ρ.set i (some (.lst ds)))) else .stuck
@[simp] theorem ownSW_ok (i : Nat) (ρ : Env) (ds : List D) : ownSW i ρ (.ok ds) = if scals ds = true then .ok (.nx (ρ.set i (some (.lst ds)))) else .stuck := rfl
theorem ms_own (i : Nat) {px : Pos} (hN : X.N.Nodup) (he : MN X E e te m) (hi : X.N[i]? = some x := by rfl) (hx : Loc X.env.scope x := by first | exact .inl rfl | exact .inr rfl) (hM : i ∈ M := by decide) (hD : deep M i = false := by decide) (hs : swapsWith e (some (.Name x px)) pos.line X.env = pure false := by rfl) (hf : X.fn x = true ∨ X.env.scope.names.lookup x = some .local := by first | exact .inl rfl | exact .inr rfl) :
    MS X E Mb M M (.Assign [.Name x px] e pos) (tAsg te (gName i)) (fun ρ => ownS i ρ (m (wipeE ρ M))) :=
  ⟨ps_set hN hi hx he.pe hs hf, fun Ie He σ I H ρ D0 s h => he.sn σ I H _ _ s.re s.st.e (by
    have h : OutS X.K (g0 X.mg) E Mb M Ie He I D0 (ownS i ρ (m (wipeE ρ M))) := h
    cases q : m (wipeE ρ M) with
    | ok ds =>
      rw [q] at h
      exact fun p vs I1 H1 t n1 n2 hp r => h _ I1 H1 (s.own hM t n1 n2 hp r hD) t.i
    | err nm ds =>
      rw [q] at h
      exact fun C od I1 H1 t xr => h C od I1 H1 (s.st.trans t) xr
    | stuck =>
      rw [q] at h
      exact h)⟩
theorem ms_ownW (i : Nat) {px : Pos} (hN : X.N.Nodup) (he : MN X E e te m) (hi : X.N[i]? = some x := by rfl) (hx : Loc X.env.scope x := by first | exact .inl rfl | exact .inr rfl) (hM : i ∈ M := by decide) (hD : deep M i = false := by decide) (hs : swapsWith e (some (.Name x px)) pos.line X.env = pure false := by rfl) (hf : X.fn x = true ∨ X.env.scope.names.lookup x = some .local := by first | exact .inl rfl | exact .inr rfl) :
    MS X E Mb M M (.Assign [.Name x px] e pos) (tAsg te (gName i)) (fun ρ => ownSW i ρ (m ρ)) :=
  ⟨ps_set hN hi hx he.pe hs hf, fun Ie He σ I H ρ D0 s h => by
    obtain ⟨Ia, ka, sa⟩ := s.all
    refine he.sn σ Ia H _ _ (RE.of sa) sa.st.e ?_
    have h : OutS X.K (g0 X.mg) E Mb M Ie He I D0 (ownSW i ρ (m ρ)) := h
    cases q : m ρ with
    | ok ds =>
      rw [q] at h
      obtain ⟨hs, h⟩ := outS_if h
      intro p vs I1 H1 t n1 n2 hp r
      have n3 : I p = none := s.st.e.free n2
      have s1 := s.grow t.h
      have e1 : Same I H1 := s.st.e.trans t.h
      refine h _ I H1 ?_ (.refl _)
      exact s.own (I' := I) hM ⟨.refl _, t.h, e1, fun _ _ z => .inl z⟩ n3 n2 hp (r.scals hs) hD
    | err nm ds =>
      rw [q] at h
      exact fun C od I1 H1 t xr => h C od I1 H1 (sa.st.trans t) xr
    | stuck =>
      rw [q] at h
      exact h⟩
end

section
variable {X : Cx} {E : Wh} {Mb M : List Nat} {e k : Expr} {pos px pa pc pt : Pos} {x : Str} {te tk : TE} {m mk : Env → R D}
/-- a built-in class as a value -/
theorem me_bty {n : String} (hg : Gl X x) (hm : X.mg x = none) (hv : bootBuiltins x = some (.type n)) (hn : x ≠ "__name__" := by decide) (hd : (x == ("__debug__" : Str)) = false := by decide) : ME X E (.Name x pos) (tC (.ty n)) (fun _ => .ok (.ty n)) :=
  ⟨pe_bltn (v := .ty n) hg hm hv rfl hn hd, fun σ I H ρ Q re ex h => h.here ex (.ty n)⟩
/-- a constant of the module -/
theorem me_glb {v : V} {u : Value} {d : D} (hg : Gl X x) (hm : X.mg x = some u) (r : RelV v u) (rp : ∀ I, Rep X.K (gm X E) I v d) (hd : (x == ("__debug__" : Str)) = false := by decide) : ME X E (.Name x pos) (tC v) (fun _ => .ok d) :=
  ⟨pe_glob hg hm r hd, fun σ I H ρ Q re ex h => h.here ex (rp I)⟩
theorem pe_append (i : Nat) (he : PE X e te) (hi : X.N[i]? = some x := by rfl) (hv : Vis X.env.scope x := by first | exact Or.inl rfl | exact Or.inr (Or.inl rfl)) (hd : (x == ("__debug__" : Str)) = false := by decide) (hcd : (x == ("__classdict__" : Str)) = false := by decide)
    (pm : ∀ ta tx, PE X (.Name x px) ta → PA X [e] tx → PE X (.Call (.Attribute (.Name x px) "append" pa) [e] [] pc) (tBM X.K "list" rAppend ta tx) := by intro ta tx h1 h2; exact pe_bm PySem.F.plainAttrs_list PySem.F.slot_list_append PySem.F.type_list_append mt_append h1 h2)
    (ha : PA X [e] (tCons te tNil)) : PE X (.Call (.Attribute (.Name x px) "append" pa) [e] [] pc) (tBM X.K "list" rAppend (tVar i) (tCons te tNil)) := pm _ _ (pe_var (i := i) hi hv hd hcd) ha
end

/-! ### what is known of the text's own defs -/
structure FnAt (K : PySem.W.Frag) (mg : Str → Option Value) (x : Str) (st : Stmt) (ps : List Str) : Prop where
  ex : ∃ f fd, Fun K x x st f fd ∧ mg x = some (.ref f) ∧ Binds K fd ps []
/-- tuple(range(a)) -/
def rgT (i j : Int) : R D := if -(2 ^ 62) ≤ i ∧ i < 2 ^ 62 ∧ -(2 ^ 62) ≤ j ∧ j < 2 ^ 62 ∧ (j - i).toNat ≤ LIM then .ok (.tup (rangeD i 1 (j - i).toNat)) else .stuck
def rgT1 : List D → R D
  | [.int j] => rgT 0 j
  | _ => .stuck
def rgLv (i j : Int) : R D := if -(2 ^ 62) ≤ i ∧ i < 2 ^ 62 ∧ -(2 ^ 62) ≤ j ∧ j < 2 ^ 62 ∧ (j - i).toNat ≤ LIM then .ok (.lst (rangeD i 1 (j - i).toNat)) else .stuck
def rgLv1 : List D → R D
  | [.int j] => rgLv 0 j
  | _ => .stuck
section
variable {X : Cx} {E : Wh} {a : Expr} {ta : TE} {ma : Env → R D} {p p2 pos pos2 : Pos}
theorem acons_one {r : R D} {f : List D → R D} : dsp f (acons r (.ok [])) = (r >>= fun d => f [d]) := by
  cases r <;> rfl
theorem me_tupRg1 (hg : Gl X "tuple") (hm : X.mg "tuple" = none) (hg2 : Gl X "range") (hm2 : X.mg "range" = none) (ha : ME X E a ta ma) (hc : X.calm = true := by rfl) (na : starEach [a] X.env = (false, eval a X.env) :: starEach [] X.env := by rfl)
    (nb : starEach [.Call (.Name "range" p2) [a] [] pos2] X.env = (false, eval (.Call (.Name "range" p2) [a] [] pos2) X.env) :: starEach [] X.env := by rfl) :
    ME X E (.Call (.Name "tuple" p) [.Call (.Name "range" p2) [a] [] pos2] [] pos) (tTupRg (tRg1 ta)) (fun ρ => dsp rgT1 (acons (ma ρ) (.ok []))) := by
  obtain ⟨pt, st⟩ := ha
  refine ⟨pe_tupRg hc hg hm (prg_1 hg2 hm2 pt na) nb, fun σ I H ρ Q re ex h => ?_⟩
  have h : Out X.K (gm X E) (E.e σ) (Rep X.K (gm X E)) I H (dsp rgT1 (acons (ma ρ) (.ok []))) Q := h
  rw [acons_one] at h
  refine st.run re ex h fun d v I1 H1 _ s1 rs h => ?_
  cases rs with
  | int j =>
    obtain ⟨⟨h1, h2, h3, h4, h5⟩, h⟩ := out_if h
    exact ⟨j, rfl, ⟨h1, h2, h3, h4, Nat.le_trans h5 (by decide)⟩, fun q hq => h.there (.new s1.e hq) (new_tup s1.e hq (rgV_reps 0 j))⟩
  | _ => exact h.elim
theorem me_lstRg1 (hg : Gl X "list") (hm : X.mg "list" = none) (hg2 : Gl X "range") (hm2 : X.mg "range" = none) (ha : ME X E a ta ma) (hc : X.calm = true := by rfl) (na : starEach [a] X.env = (false, eval a X.env) :: starEach [] X.env := by rfl)
    (nb : starEach [.Call (.Name "range" p2) [a] [] pos2] X.env = (false, eval (.Call (.Name "range" p2) [a] [] pos2) X.env) :: starEach [] X.env := by rfl) :
    ME X E (.Call (.Name "list" p) [.Call (.Name "range" p2) [a] [] pos2] [] pos) (tLstRg (tRg1 ta)) (fun ρ => dsp rgLv1 (acons (ma ρ) (.ok []))) := by
  obtain ⟨pt, st⟩ := ha
  refine ⟨pe_listRg hc hg hm (prg_1 hg2 hm2 pt na) nb, fun σ I H ρ Q re ex h => ?_⟩
  have h : Out X.K (gm X E) (E.e σ) (Rep X.K (gm X E)) I H (dsp rgLv1 (acons (ma ρ) (.ok []))) Q := h
  rw [acons_one] at h
  refine st.run re ex h fun d v I1 H1 _ s1 rs h => ?_
  cases rs with
  | int j =>
    obtain ⟨⟨h1, h2, h3, h4, h5⟩, h⟩ := out_if h
    exact ⟨j, rfl, ⟨h1, h2, h3, h4, Nat.le_trans h5 (by decide)⟩, fun q hq => h.there (.new s1.e hq) (new_lst s1.e hq (rgV_reps 0 j))⟩
  | _ => exact h.elim
end
/-- the law's own promise -/
def spLaw (K : PySem.W.Frag) : Sp := fun vs H Q _ => ∃ (a : Addr) (ns : List Int), vs = [.ref a] ∧ SqL K H a (ns.map V.int) ∧ ns.length ≤ 63 ∧ ∀ H', Q (.bl true) H'
theorem law_of {P : Program} {w : World} {K : PySem.W.Frag} {mg : Str → Option Value} {base : Heap} {CX : CXT} {k : Nat} {f : Addr} {fd : FuncData} {ps : List Str} {g : List D → R D} (F : FnOk P w K mg base CX k f fd ps (spOf K (g0 mg) 1 g)) (h : ∀ ns : List Int, ns.length ≤ 63 → g [.scr ns] = .ok (.bl true)) :
    FnOk P w K mg base CX k f fd ps (spLaw K) := F.imp fun vs H Q E ⟨a, ns, e, hs, hl, q⟩ => by
  subst e
  refine ⟨H, [.scr ns], rfl, .refl _, .cons (.scr hs) .nil, ?_⟩
  rw [h ns hl]
  intro v I' H' _ r
  cases r
  exact q H'
end DL
namespace DL
open PySem PySem.Spec L2

theorem lexAt_shift (e r : Nat → Bool) (z : Bool) : ∀ (k i : Nat), Ob.lexAt e r z (i + 1) k = Ob.lexAt (fun j => e (j + 1)) (fun j => r (j + 1)) z i k
  | 0, _ => rfl
  | k + 1, i => by
    rw [Ob.lexAt_succ, Ob.lexAt_succ, lexAt_shift e r z k (i + 1)]
theorem lexAt_ge : ∀ ns ms : List Int, Ob.lexAt (fun j => decide (ns.getD j 0 = ms.getD j 0)) (fun j => decide (ms.getD j 0 ≤ ns.getD j 0)) (decide (ms.length ≤ ns.length)) 0 (min ns.length ms.length) = !HT.lexLt ns ms
  | [], [] => rfl
  | [], y :: ys => by
    show Ob.lexAt _ _ (decide (ys.length + 1 ≤ 0)) 0 (min 0 _) = !true
    rw [Nat.zero_min, Ob.lexAt_zero]
    rfl
  | x :: xs, [] => by
    show Ob.lexAt _ _ (decide (0 ≤ xs.length + 1)) 0 (min _ 0) = !false
    rw [Nat.min_zero, Ob.lexAt_zero]
    rfl
  | x :: xs, y :: ys => by
    have hm : min (x :: xs).length (y :: ys).length = min xs.length ys.length + 1 := by
      rw [List.length_cons, List.length_cons]
      omega
    rw [hm, Ob.lexAt_succ, lexAt_shift, HT.lexLt_cons]
    show (if decide (x = y) = true then Ob.lexAt (fun j => decide (xs.getD j 0 = ys.getD j 0)) (fun j => decide (ys.getD j 0 ≤ xs.getD j 0)) (decide (ys.length + 1 ≤ xs.length + 1)) 0 (min xs.length ys.length) else decide (y ≤ x)) = !if x = y then HT.lexLt xs ys else decide (x < y)
    by_cases e : x = y
    · rw [if_pos (decide_eq_true e), if_pos e, show decide (ys.length + 1 ≤ xs.length + 1) = decide (ys.length ≤ xs.length) by simp, lexAt_ge xs ys]
    · rw [if_neg (by simpa using e), if_neg e]
      by_cases h : y ≤ x
      · rw [decide_eq_true h, decide_eq_false (by omega)]
        rfl
      · rw [decide_eq_false h, decide_eq_true (by omega)]
        rfl
def rGeT (K : PySem.W.Frag) : R2 := fun x y H Q => ∃ (a b : Addr) (ns ms : List Int), x = .ref a ∧ y = .ref b ∧ SqT K H a (ns.map V.int) ∧ SqT K H b (ms.map V.int) ∧ Q (.bl (!HT.lexLt ns ms)) H
theorem op_geT {X : Cx} (hu : X.A.units < cLine) : OpR X (compareOp .GtE) (rGeT X.K) := by
  intro pins s σ H x y v u Q I rx ry h
  obtain ⟨a, b, ns, ms, rfl, rfl, ha, hb, q⟩ := h
  cases rx
  cases ry
  obtain ⟨its, r1, p1, _⟩ := I.tuple ha
  obtain ⟨its2, r2, p2, _⟩ := I.tuple hb
  have i1 : PyProof.Rows.IntsAre its ns := Vals.ints r1
  have i2 : PyProof.Rows.IntsAre its2 ms := Vals.ints r2
  have e1 : its.toArray.size = ns.length := by rw [List.size_toArray]; exact i1.length
  have e2 : its2.toArray.size = ms.length := by rw [List.size_toArray]; exact i2.length
  have at1 : ∀ j (h1 : j < its.toArray.size), ∃ t, its.toArray[j] = .int (ns.getD j 0) t := fun j h1 => PyProof.Rows.IntsAre.int_at i1 _ _ (by simp at h1; simp [h1])
  have at2 : ∀ j (h1 : j < its2.toArray.size), ∃ t, its2.toArray[j] = .int (ms.getD j 0) t := fun j h1 => PyProof.Rows.IntsAre.int_at i2 _ _ (by simp at h1; simp [h1])
  have R := Ob.RcOp.tuples_ge (A := X.A) (s := s) (e := fun j => decide (ns.getD j 0 = ms.getD j 0)) (r := fun j => decide (ms.getD j 0 ≤ ns.getD j 0)) p1 p2 hu (fun j h1 h2 => by
    obtain ⟨t, et⟩ := at1 j h1
    obtain ⟨t', et'⟩ := at2 j h2
    rw [et, et']
    have z : (ns.getD j 0 == ms.getD j 0) = decide (ns.getD j 0 = ms.getD j 0) := by
      by_cases q : ns.getD j 0 = ms.getD j 0
      · rw [decide_eq_true q]; exact beq_iff_eq.mpr q
      · rw [decide_eq_false q]; exact beq_eq_false_iff_ne.mpr q
    rw [← z]
    exact SeqAt.EqAt.int_int _ _ _ _) (fun j h1 h2 _ => by
    obtain ⟨t, et⟩ := at1 j h1
    obtain ⟨t', et'⟩ := at2 j h2
    rw [et, et']
    exact Ob.RcOp.ge_int _ _ _ _)
  rw [e1, e2] at R
  refine R _ _ _ _ ⟨.bl _, H, I, rfl, ?_⟩
  rw [← lexAt_ge] at q
  exact q
def geX : D → D → R D
  | .int i, .int j => .ok (.bl (decide (j ≤ i)))
  | .tup xs, .tup ys => match intsOf xs, intsOf ys with
    | some ns, some ms => .ok (.bl (!HT.lexLt ns ms))
    | _, _ => .stuck
  | _, _ => .stuck
def rGeX (K : PySem.W.Frag) : R2 := fun x y H Q => rI0 (fun i j => .bl (decide (j ≤ i))) x y H Q ∨ rGeT K x y H Q
theorem op_geX {X : Cx} {k : Nat} (hr : Room k X.A) : OpR X (compareOp .GtE) (rGeX X.K) := OpR.or op_ge (op_geT hr.units0)
theorem rs_geX {K : PySem.W.Frag} {mg : Gm} : RSn K mg (rGeX K) geX := by
  intro x y I H dx dy d Q ex rx ry h q
  cases rx with
  | int i =>
    cases ry with
    | int j =>
      cases h
      exact .inl ⟨i, j, rfl, rfl, q _ _ _ (.refl ex) (.bl _)⟩
    | _ => cases h
  | @tup a vs ds ha ra =>
    cases ry with
    | @tup b ws es hb rb =>
      have h : (match intsOf ds, intsOf es with | some ns, some ms => R.ok (.bl (!HT.lexLt ns ms)) | _, _ => .stuck) = R.ok d := h
      cases e1 : intsOf ds with
      | none =>
        rw [e1] at h
        cases h
      | some ns =>
        cases e2 : intsOf es with
        | none =>
          rw [e1, e2] at h
          cases h
        | some ms =>
          rw [e1, e2] at h
          cases h
          obtain ⟨rfl, _⟩ := reps_ints ra e1
          obtain ⟨rfl, _⟩ := reps_ints rb e2
          exact .inr ⟨a, b, ns, ms, rfl, rfl, SqT.of (ex _ _ ha), SqT.of (ex _ _ hb), q _ _ _ (.refl ex) (.bl _)⟩
    | _ => cases h
  | _ => cases h
end DL
namespace DL
open PySem PySem.Spec L2

/-! ### chained comparisons, bits, is, bit_length -/
def ch2 (f g : D → D → R D) (a b c : R D) : R D := a >>= fun x => b >>= fun y => calm (f x y) >>= asB >>= fun k => if k = true then (c >>= fun z => calm (g y z)) else .ok (.bl false)
section
variable {X : Cx} {E : Wh} {K : PySem.W.Frag} {mg : Gm} {I I' H H' : Hp} {σ : L2.St} {ρ : Env} {a b c e : Expr} {es : List Expr} {pos p : Pos} {ma mb mc m : Env → R D} {mt mu : Env → R Bool} {ms : Env → R (List D)} {x : Str} {ta tb tc t : TE} {tt tu : TT} {tas tr : TA} {tl th : TO}
theorem chain_sn {r r' : R2} {f g : D → D → R D} (hs : RSn X.K (gm X E) r f) (hs' : RSn X.K (gm X E) r' g) (sa : Sn X.K (gm X E) E.e (Rep X.K (gm X E)) ta ma) (sb : Sn X.K (gm X E) E.e (Rep X.K (gm X E)) tb mb) (sc : Sn X.K (gm X E) E.e (Rep X.K (gm X E)) tc mc) :
    Sn X.K (gm X E) E.e (Rep X.K (gm X E)) (tChain r r' ta tb tc) (fun ρ => ch2 f g (ma ρ) (mb ρ) (mc ρ)) := by
  intro σ I H ρ Q re ex h
  refine sa.run re ex h fun d v I1 H1 _ st rx h => ?_
  refine sb.run (re.mono st.i) st.e h fun d2 v2 I2 H2 _ st2 ry h => ?_
  cases hz : f d d2 with
  | err _ _ =>
    rw [hz] at h
    exact h.elim
  | stuck =>
    rw [hz] at h
    exact h.elim
  | ok z =>
    rw [hz] at h
    refine hs v v2 I2 H2 d d2 z _ st2.e (rx.mono st2.i) ry hz fun v3 I3 H3 st3 r3 => ?_
    cases r3 with
    | bl k =>
      refine ⟨k, rfl, ?_⟩
      cases k with
      | false => exact h.there st3 (.bl false)
      | true =>
        have h : Out X.K (gm X E) (E.e σ) (Rep X.K (gm X E)) I2 H2 (mc ρ >>= fun z => calm (g d2 z)) Q := h
        have re3 := ((re.mono st.i).mono st2.i).mono st3.i
        refine sc.run re3 st3.e (h.mono st3) fun d4 v4 I4 H4 _ st4 r4 h => ?_
        obtain ⟨z4, hz4, h⟩ := out_calm h
        exact hs' v2 v4 I4 H4 d2 d4 z4 Q st4.e ((ry.mono st3.i).mono st4.i) r4 hz4 h
    | _ => exact h.elim
/-- a < b < c -/
theorem me_chain {op op' : CmpOp} {r r' : R2} {f g : D → D → R D} (ho : OpR X (compareOp op) r) (hs : RSn X.K (gm X E) r f) (ho' : OpR X (compareOp op') r') (hs' : RSn X.K (gm X E) r' g) (ha : ME X E a ta ma) (hb : ME X E b tb mb) (hc : ME X E c tc mc) (hm : lastMarks [op, op'] [b, c] = false := by with_unfolding_all rfl) :
    ME X E (.Compare a [op, op'] [b, c] pos) (tChain r r' ta tb tc) (fun ρ => ch2 f g (ma ρ) (mb ρ) (mc ρ)) :=
  ⟨pe_chain ho ho' ha.pe hb.pe hc.pe hm, chain_sn hs hs' ha.sn hb.sn hc.sn⟩
theorem sn_test {te : TE} (h : Sn X.K (gm X E) E.e (Rep X.K (gm X E)) te m) : Sn X.K (gm X E) E.e rB (tTest te) (fun ρ => tst (m ρ)) := by
  intro σ I H ρ Q re ex q
  refine h.run re ex q fun d v I1 H1 _ st rx h => ?_
  cases rx with
  | bl k => exact ⟨k, rfl, h.here st.e rfl⟩
  | _ => exact h.elim
theorem mt_chain {op op' : CmpOp} {r r' : R2} {f g : D → D → R D} (ho : OpR X (compareOp op) r) (hs : RSn X.K (gm X E) r f) (ho' : OpR X (compareOp op') r') (hs' : RSn X.K (gm X E) r' g) (ha : ME X E a ta ma) (hb : ME X E b tb mb) (hc : ME X E c tc mc) (hm : lastMarks [op, op'] [b, c] = false := by with_unfolding_all rfl) :
    MT X E (.Compare a [op, op'] [b, c] pos) (tTest (tChain r r' ta tb tc)) (fun ρ => tst (ch2 f g (ma ρ) (mb ρ) (mc ρ))) :=
  ⟨pt_chain ho ho' ha.pe hb.pe hc.pe hm, sn_test (chain_sn hs hs' ha.sn hb.sn hc.sn)⟩
/-! bits -/
def andD : D → D → R D
  | .int i, .int j => .ok (.int (Builtin.bitAnd i j))
  | _, _ => .stuck
def orD : D → D → R D
  | .int i, .int j => .ok (.int (Builtin.bitOr i j))
  | _, _ => .stuck
def xorD : D → D → R D
  | .int i, .int j => .ok (.int (Builtin.bitXor i j))
  | _, _ => .stuck
def shlD : D → D → R D
  | .int i, .int j => gd (0 ≤ j ∧ j ≤ 1000000 ∧ i.natAbs < 2 ^ 64) (.int (i * 2 ^ j.toNat))
  | _, _ => .stuck
def shrD : D → D → R D
  | .int i, .int j => gd (0 ≤ j) (.int (i / 2 ^ j.toNat))
  | _, _ => .stuck
theorem rs_and : RSn K mg (rI0 fun i j => .int (Builtin.bitAnd i j)) andD := rs_I0 (gd' := fun i j => .int (Builtin.bitAnd i j)) (fun _ _ _ => .int _) (fun _ _ => rfl) fun dx dy d h => by
  cases dx <;> cases dy <;> first | exact ⟨_, _, rfl, rfl⟩ | cases h
theorem rs_or : RSn K mg (rI0 fun i j => .int (Builtin.bitOr i j)) orD := rs_I0 (gd' := fun i j => .int (Builtin.bitOr i j)) (fun _ _ _ => .int _) (fun _ _ => rfl) fun dx dy d h => by
  cases dx <;> cases dy <;> first | exact ⟨_, _, rfl, rfl⟩ | cases h
theorem rs_xor : RSn K mg (rI0 fun i j => .int (Builtin.bitXor i j)) xorD := rs_I0 (gd' := fun i j => .int (Builtin.bitXor i j)) (fun _ _ _ => .int _) (fun _ _ => rfl) fun dx dy d h => by
  cases dx <;> cases dy <;> first | exact ⟨_, _, rfl, rfl⟩ | cases h
theorem rs_shl : RSn K mg (rI CPow fun i j => .int (i * 2 ^ j.toNat)) shlD := rs_I (gd' := fun i j => .int (i * 2 ^ j.toNat)) (fun _ _ _ => .int _) (fun i j d h => (gd_of h).imp id Eq.symm) fun dx dy d h => by
  cases dx <;> cases dy <;> first | exact ⟨_, _, rfl, rfl⟩ | cases h
theorem rs_shr : RSn K mg (rI (fun _ j => 0 ≤ j) fun i j => .int (i / 2 ^ j.toNat)) shrD := rs_I (gd' := fun i j => .int (i / 2 ^ j.toNat)) (fun _ _ _ => .int _) (fun i j d h => (gd_of h).imp id Eq.symm) fun dx dy d h => by
  cases dx <;> cases dy <;> first | exact ⟨_, _, rfl, rfl⟩ | cases h
def bitsD : D → R D
  | .int i => .ok (.int (Builtin.Int.intBits i : Nat))
  | _ => .stuck
theorem me_bits {apos : Pos} (ha : ME X E a ta ma) (hbase : attributeBase a "bit_length" X.env (eval a X.env) = eval a X.env := by rfl) (hline : (apos.endLine == pos.line) = true := by rfl) : ME X E (.Call (.Attribute a "bit_length" apos) [] [] pos) (tBits ta) (fun ρ => o1 bitsD (ma ρ)) := by
  obtain ⟨pa, sa⟩ := ha
  refine ⟨pe_bits pa hbase hline, fun σ I H ρ Q re ex h => ?_⟩
  refine sa.run re ex h fun d v I1 H1 _ st rx h => ?_
  cases rx with
  | int i => exact ⟨i, rfl, h.here st.e (.int _)⟩
  | _ => exact h.elim
/-! x is None -/
def isND : D → D → R D
  | d, .non => .ok (.bl (match d with | .non => true | _ => false))
  | _, _ => .stuck
def notND : D → D → R D
  | d, .non => .ok (.bl (match d with | .non => false | _ => true))
  | _, _ => .stuck
theorem rs_isN : RSn K mg (fun x y H Q => y = .non ∧ Q (.bl (decide (x = .non))) H) isND := by
  intro x y I H dx dy d Q ex rx ry h q
  cases ry with
  | non =>
    refine ⟨rfl, ?_⟩
    cases rx <;> (have h := R.ok.inj h; subst h; exact q _ _ _ (.refl ex) (.bl _))
  | _ => cases dx <;> cases h
theorem rs_notN : RSn K mg (fun x y H Q => y = .non ∧ Q (.bl (!decide (x = .non))) H) notND := by
  intro x y I H dx dy d Q ex rx ry h q
  cases ry with
  | non =>
    refine ⟨rfl, ?_⟩
    cases rx <;> (have h := R.ok.inj h; subst h; exact q _ _ _ (.refl ex) (.bl _))
  | _ => cases dx <;> cases h
end
end DL
namespace DL
open PySem PySem.Spec L2

/-! ### enumerate of a list -/
def enumD : Nat → List D → List D
  | _, [] => []
  | k, d :: ds => .tup [.int (k : Int), d] :: enumD (k + 1) ds
theorem enumD_len : ∀ (k : Nat) (ds : List D), (enumD k ds).length = ds.length
  | _, [] => rfl
  | k, d :: ds => congrArg (· + 1) (enumD_len (k + 1) ds)
theorem enumD_get : ∀ (k : Nat) (ds : List D) (i : Nat) {x : D}, (enumD k ds)[i]? = some x → ∃ d, ds[i]? = some d ∧ x = .tup [.int ((k + i : Nat) : Int), d]
  | _, [], i, x, h => by simp [enumD] at h
  | k, d :: ds, 0, x, h => by
    have h : _ = _ := Option.some.inj h
    subst h
    exact ⟨d, rfl, rfl⟩
  | k, d :: ds, i + 1, x, h => by
    obtain ⟨d', h1, rfl⟩ := enumD_get (k + 1) ds i h
    exact ⟨d', h1, by rw [show k + 1 + i = k + (i + 1) from by omega]⟩
section
variable {X : Cx} {E : Wh} {K : PySem.W.Frag} {mg : Gm} {I I' H H' : Hp} {σ : L2.St} {ρ : Env} {a b c e tg : Expr} {es : List Expr} {pos p tpos : Pos} {m : Env → R D} {ms : Env → R (List D)} {t : TE} {tas : TA}
theorem it_enum {a : Addr} {vs : List V} {ds : List D} (h : SqL K I a vs) (r : Reps K mg I vs ds) : ItOk K mg I (Ite K a) (enumD 0 ds) := fun I1 H e1 e2 => ⟨fun i d hd => by
    obtain ⟨d', hd', rfl⟩ := enumD_get 0 ds i hd
    obtain ⟨v, hv, rv⟩ := r.get hd'
    refine ⟨⟨vs, v, (e1.trans e2).seq h, hv⟩, fun x H' y => ?_⟩
    obtain ⟨T, x', rfl, hn, rfl, hx⟩ := y
    have e := hx vs ((e1.trans e2).seq h)
    rw [hv] at e
    cases e
    refine ⟨_, .new e2 hn, ?_⟩
    rw [Nat.zero_add]
    exact new_tup e2 hn (.cons (.int _) (.cons (rv.mono e1) .nil)), ⟨vs, (e1.trans e2).seq h, by rw [enumD_len]; exact Nat.le_of_eq r.len⟩⟩
def enum1 : List D → R (List D)
  | [.lst ds] => .ok (enumD 0 ds)
  | [.scr ns] => .ok (enumD 0 (ns.map D.int))
  | _ => .stuck
theorem mi_enum {elts : List Expr} {kk : Nat} (hg : Gl X "enumerate") (hm : X.mg "enumerate" = none) (ha : MA X E [e] tas ms) (hs : starEach [e] X.env = [(false, eval e X.env)] := by rfl) :
    MI X E (.Tuple elts kk tpos) (.Call (.Name "enumerate" p) [e] [] pos) (iEnum X.K tas) (fun ρ => dsp enum1 (ms ρ)) := by
  obtain ⟨pt, st⟩ := ha
  refine ⟨pi_enum hg hm pt hs, fun σ I H ρ Q re ex h => ?_⟩
  refine st.run re ex h fun ds vs I1 H1 _ s1 rs h => ?_
  unfold enum1 at h
  split at h
  · obtain ⟨v, rfl, r⟩ := reps1 rs
    cases r with
    | lst hh ra => exact ⟨_, _, rfl, SqL.of (s1.e _ _ hh), h.here s1.e (it_enum (SqL.of hh) ra)⟩
  · obtain ⟨v, rfl, r⟩ := reps1 rs
    cases r with
    | scr hh => exact ⟨_, _, rfl, s1.e.seq hh, h.here s1.e (it_enum hh .ints)⟩
  · exact h.elim
/-! ### sum, max, min of a list of ints -/
def sumD : List D → R D
  | [.lst ds] => match intsOf ds with
    | some ns => .ok (.int ns.sum)
    | none => .stuck
  | [.scr ns] => .ok (.int ns.sum)
  | _ => .stuck
def maxI : List Int → Int
  | [] => 0
  | [x] => x
  | x :: xs => max x (maxI xs)
def minI : List Int → Int
  | [] => 0
  | [x] => x
  | x :: xs => min x (minI xs)
theorem maxI_mem : ∀ {xs : List Int}, xs ≠ [] → maxI xs ∈ xs ∧ ∀ y ∈ xs, y ≤ maxI xs
  | [x], _ => ⟨by simp [maxI], by simp [maxI]⟩
  | x :: y :: xs, _ => by
    obtain ⟨h1, h2⟩ := maxI_mem (xs := y :: xs) (by simp)
    have e : maxI (x :: y :: xs) = max x (maxI (y :: xs)) := rfl
    rw [e]
    by_cases h : x ≤ maxI (y :: xs)
    · rw [Int.max_eq_right h]
      exact ⟨List.mem_cons_of_mem _ h1, fun z hz => by
        rcases List.mem_cons.mp hz with rfl | hz
        · exact h
        · exact h2 z hz⟩
    · rw [Int.max_eq_left (by omega)]
      exact ⟨List.mem_cons_self, fun z hz => by
        rcases List.mem_cons.mp hz with rfl | hz
        · omega
        · have := h2 z hz
          omega⟩
theorem minI_mem : ∀ {xs : List Int}, xs ≠ [] → minI xs ∈ xs ∧ ∀ y ∈ xs, minI xs ≤ y
  | [x], _ => ⟨by simp [minI], by simp [minI]⟩
  | x :: y :: xs, _ => by
    obtain ⟨h1, h2⟩ := minI_mem (xs := y :: xs) (by simp)
    have e : minI (x :: y :: xs) = min x (minI (y :: xs)) := rfl
    rw [e]
    by_cases h : minI (y :: xs) ≤ x
    · rw [Int.min_eq_right h]
      exact ⟨List.mem_cons_of_mem _ h1, fun z hz => by
        rcases List.mem_cons.mp hz with rfl | hz
        · exact h
        · exact h2 z hz⟩
    · rw [Int.min_eq_left (by omega)]
      exact ⟨List.mem_cons_self, fun z hz => by
        rcases List.mem_cons.mp hz with rfl | hz
        · omega
        · have := h2 z hz
          omega⟩
def maxD : List D → R D
  | [.lst ds] => match intsOf ds with
    | some (n :: ns) => .ok (.int (maxI (n :: ns)))
    | _ => .stuck
  | _ => .stuck
def minD : List D → R D
  | [.lst ds] => match intsOf ds with
    | some (n :: ns) => .ok (.int (minI (n :: ns)))
    | _ => .stuck
  | _ => .stuck
theorem cs_sum : CSn K mg (rSum K) sumD := by
  intro xs I H ds d Q ex rs h q
  unfold sumD at h
  split at h
  · rename_i es
    obtain ⟨v, rfl, r⟩ := reps1 rs
    cases e : intsOf es with
    | none =>
      rw [e] at h
      cases h
    | some ns =>
      rw [e] at h
      cases h
      cases r with
      | lst hh ra =>
        obtain ⟨rfl, _⟩ := reps_ints ra e
        exact ⟨_, ns, rfl, SqL.of (ex _ _ hh), q _ _ _ (.refl ex) (.int _)⟩
  · obtain ⟨v, rfl, r⟩ := reps1 rs
    cases h
    cases r with
    | scr hh => exact ⟨_, _, rfl, ex.seq hh, q _ _ _ (.refl ex) (.int _)⟩
  · cases h
theorem cs_max : CSn K mg (rMax K) maxD := by
  intro xs I H ds d Q ex rs h q
  unfold maxD at h
  split at h
  · rename_i es
    obtain ⟨v, rfl, r⟩ := reps1 rs
    cases e : intsOf es with
    | none =>
      rw [e] at h
      cases h
    | some ns =>
      rw [e] at h
      cases ns with
      | nil => cases h
      | cons n ns =>
        cases h
        cases r with
        | lst hh ra =>
          obtain ⟨rfl, _⟩ := reps_ints ra e
          refine ⟨_, n :: ns, rfl, SqL.of (ex _ _ hh), Nat.succ_pos _, fun m hm hy => ?_⟩
          obtain ⟨h1, h2⟩ := maxI_mem (xs := n :: ns) (by simp)
          have : m = maxI (n :: ns) := Int.le_antisymm (h2 m hm) (hy _ h1)
          subst this
          exact q _ _ _ (.refl ex) (.int _)
  · cases h
theorem cs_min : CSn K mg (rMin K) minD := by
  intro xs I H ds d Q ex rs h q
  unfold minD at h
  split at h
  · rename_i es
    obtain ⟨v, rfl, r⟩ := reps1 rs
    cases e : intsOf es with
    | none =>
      rw [e] at h
      cases h
    | some ns =>
      rw [e] at h
      cases ns with
      | nil => cases h
      | cons n ns =>
        cases h
        cases r with
        | lst hh ra =>
          obtain ⟨rfl, _⟩ := reps_ints ra e
          refine ⟨_, n :: ns, rfl, SqL.of (ex _ _ hh), Nat.succ_pos _, fun m hm hy => ?_⟩
          obtain ⟨h1, h2⟩ := minI_mem (xs := n :: ns) (by simp)
          have : m = minI (n :: ns) := Int.le_antisymm (hy _ h1) (h2 m hm)
          subst this
          exact q _ _ _ (.refl ex) (.int _)
  · cases h
end
end DL
namespace DL
open PySem PySem.Spec L2

section
variable {K : PySem.W.Frag} {mg : Gm} {I J : Hp}
/-- J is I without things whose kinds are not in the data -/
structure Less (J I : Hp) (bad : Nat → Prop) : Prop where
  same : ∀ a o, I a = some o → J a = some o ∨ (bad (HO.kd o) ∧ HO.kd o < 4)
mutual
theorem Rep.less {bad : Nat → Prop} (l : Less J I bad) : ∀ {v : V} {d : D}, Rep K mg I v d → (∀ k, bad k → d.has k = false) → Rep K mg J v d
  | _, _, .non, _ => .non
  | _, _, .bl b, _ => .bl b
  | _, _, .int i, _ => .int i
  | _, _, .str x, _ => .str x
  | _, _, .ty n, _ => .ty n
  | _, _, .cls h, _ => .cls h
  | _, _, .rng h, _ => (l.same _ _ h).elim .rng fun z => absurd z.2 (by show ¬ 4 < 4; decide)
  | _, _, .lst h r, q => (l.same _ _ h).elim (fun h => .lst h (Reps.less l r fun k hk => by
      have := q k hk
      rw [D.has, Bool.or_eq_false_iff] at this
      exact this.2)) fun z => by
      have := q 0 z.1
      rw [D.has] at this
      cases this
  | _, _, .tup h r, q => (l.same _ _ h).elim (fun h => .tup h (Reps.less l r fun k hk => by
      have := q k hk
      rw [D.has] at this
      exact this)) fun z => absurd z.2 (by show ¬ 4 < 4; decide)
  | _, _, .obj h c r, q => (l.same _ _ h).elim (fun h => .obj h c (Reps.less l r fun k hk => by
      have := q k hk
      rw [D.has, Bool.or_eq_false_iff] at this
      exact this.2)) fun z => by
      have := q 3 z.1
      rw [D.has] at this
      cases this
  | _, _, .dk (.inr ⟨u, h⟩) r, q => (l.same _ _ h).elim (fun h => .dk (.inr ⟨u, h⟩) (Reps.less l r fun k hk => by
      have := q k hk
      rw [D.has, Bool.or_eq_false_iff] at this
      exact this.2)) fun z => absurd z.2 (by show ¬ 4 < 4; decide)
  | _, _, .dk (.inl h) r, q => (l.same _ _ h).elim (fun h => .dk (.inl h) (Reps.less l r fun k hk => by
      have := q k hk
      rw [D.has, Bool.or_eq_false_iff] at this
      exact this.2)) fun z => by
      have := q 1 z.1
      rw [D.has] at this
      cases this
  | _, _, .dt (.inr ⟨u, h⟩) r, q => (l.same _ _ h).elim (fun h => .dt (.inr ⟨u, h⟩) (Reps.less l r fun k hk => by
      have := q k hk
      rw [D.has, Bool.or_eq_false_iff] at this
      exact this.2)) fun z => absurd z.2 (by show ¬ 4 < 4; decide)
  | _, _, .dt (.inl h) r, q => (l.same _ _ h).elim (fun h => .dt (.inl h) (Reps.less l r fun k hk => by
      have := q k hk
      rw [D.has, Bool.or_eq_false_iff] at this
      exact this.2)) fun z => by
      have := q 2 z.1
      rw [D.has] at this
      cases this
  | _, _, .exc x n h r, q => (l.same _ _ h).elim (fun h => .exc x n h (Reps.less l r fun k hk => by
      have := q k hk
      rw [D.has] at this
      exact this)) fun z => absurd z.2 (by show ¬ 4 < 4; decide)
  | _, _, .scr h, q => by
      refine .scr ?_
      rcases h with (h | ⟨o, h⟩) | h
      · rcases l.same _ _ h with h | z
        · exact .inl (.inl h)
        · have := q 0 z.1
          cases this
      · rcases l.same _ _ h with h | z
        · exact .inl (.inr ⟨o, h⟩)
        · exact absurd z.2 (by show ¬ 4 < 4; decide)
      · exact .inr h
theorem Reps.less {bad : Nat → Prop} (l : Less J I bad) : ∀ {vs : List V} {ds : List D}, Reps K mg I vs ds → (∀ k, bad k → D.hasAny k ds = false) → Reps K mg J vs ds
  | _, _, .nil, _ => .nil
  | _, _, .cons h r, q => .cons (Rep.less l h fun k hk => by
      have := q k hk
      rw [D.hasAny, Bool.or_eq_false_iff] at this
      exact this.1) (Reps.less l r fun k hk => by
      have := q k hk
      rw [D.hasAny, Bool.or_eq_false_iff] at this
      exact this.2)
end
/-- what is known of a value that may be kept -/
theorem keepOk_of {M : List Nat} {ρ : Env} {d d0 : D} {i : Nat} (h : keepOk M ρ d = true) (hi : i ∈ M) (q : ρ[i]? = some (some d0)) : d.has d0.kind = false ∧ (deep M i = true → d.has 0 = false) := by
  have := List.all_eq_true.mp h i hi
  rw [q] at this
  simp at this
  refine ⟨this.1, fun z => ?_⟩
  rcases this.2 with y | y
  · rw [z] at y
    cases y
  · exact y
end
section
variable {K : PySem.W.Frag} {mg : Gm} {E : XK} {Mb M M' M1 : List Nat} {Ie : Hp × Addr} {He I H I' H' : Hp} {σ : L2.St} {ρ : Env} {D0 : Ends} {I0 : Hp}
/-- all slots may be read; what comes back may be kept if nothing in it is of the kind of a thing of one's own -/
theorem Sn.mild {te : L2.St → Hp → (V → Hp → Prop) → Prop} {m : Env → R D} {k : D → R Fl} {P : V → Hp → Prop} (h : Sn K mg (fun _ => E) (Rep K mg) te m) (s : SE K mg M Ie He σ I H ρ) (hq : OutS K mg E Mb M' Ie He I0 D0 (m ρ >>= fun d => if keepOk M ρ d = true then k d else .stuck))
    (hk : ∀ d v I' H', SE K mg M Ie He σ I' H' ρ → Stp I H I' H' → Rep K mg I' v d → OutS K mg E Mb M' Ie He I0 D0 (k d) → P v H') : te σ H P := by
  obtain ⟨I1, k1, s1, f1⟩ := s.all2
  refine h σ I1 H _ P (RE.of s1) s1.st.e (Out.of s1.st hq fun d _ q v I2 H2 t r => ?_)
  by_cases hd : keepOk M ρ d = true
  · rw [if_pos hd] at q
    classical
    let J : Hp := fun a => if I a = none ∧ I1 a ≠ none then none else I2 a
    have ji : Same I J := fun a o z => by
      show (if I a = none ∧ I1 a ≠ none then none else I2 a) = some o
      rw [if_neg (fun w => by rw [z] at w; cases w.1)]
      exact t.i _ _ (k1 _ _ z)
    have jh : Same J H2 := fun a o z => by
      have z : (if I a = none ∧ I1 a ≠ none then none else I2 a) = some o := z
      split at z
      · cases z
      · exact t.e _ _ z
    have jf : ∀ a o, J a = some o → I a = some o ∨ Fr H a o := fun a o z => by
      have z : (if I a = none ∧ I1 a ≠ none then none else I2 a) = some o := z
      split at z
      · cases z
      · rename_i w
        rcases t.f _ _ z with y | y
        · cases e : I a with
          | none => exact absurd ⟨e, by rw [y]; exact fun w => by cases w⟩ w
          | some o' =>
            have := k1 _ _ e
            rw [y] at this
            cases this
            exact .inl rfl
        · exact .inr y
    have st : Stp I H J H2 := ⟨ji, t.h, jh, jf⟩
    have less : Less J I2 (fun kd => ∃ i ∈ M, ∃ d0, ρ[i]? = some (some d0) ∧ (kd = d0.kind ∨ (deep M i = true ∧ kd = 0))) := ⟨fun a o z => by
      by_cases w : I a = none ∧ I1 a ≠ none
      · cases e : I1 a with
        | none => exact absurd e w.2
        | some o' =>
          have z2 := t.i _ _ e
          rw [z] at z2
          cases z2
          rcases f1 a o e with y | ⟨i, hi, d0, q1, q2, q3⟩
          · rw [w.1] at y
            cases y
          · exact .inr ⟨⟨i, hi, d0, q1, q2⟩, q3⟩
      · refine .inl ?_
        show (if I a = none ∧ I1 a ≠ none then none else I2 a) = some o
        rw [if_neg w]
        exact z⟩
    exact hk d v J H2 (s.step st) st (r.less less fun kd ⟨i, hi, d0, q1, q2⟩ => by
      obtain ⟨k1, k2⟩ := keepOk_of hd hi q1
      rcases q2 with rfl | ⟨y, rfl⟩
      · exact k1
      · exact k2 y) q
  · rw [if_neg hd] at q
    exact q.elim
end
def asgV (M : List Nat) (i : Nat) (ρ : Env) (a : R D) : R Fl := a >>= fun d => if keepOk M ρ d = true then .ok (.nx (ρ.set i (some d))) else .stuck
section
variable {X : Cx} {E : XK} {Mb M M' M1 : List Nat} {s : Stmt} {ss : List Stmt} {t u : TS} {ms mr : Env → R Fl} {e c : Expr} {te : TE} {m : Env → R D} {pos : Pos} {x : Str} {tt : TT} {mt : Env → R Bool}
theorem ms_setV (i : Nat) {px : Pos} (hN : X.N.Nodup) (he : ME X (kE E) e te m) (hi : X.N[i]? = some x := by rfl) (hx : Loc X.env.scope x := by first | exact .inl rfl | exact .inr rfl) (hM : i ∉ M := by decide) (hs : swapsWith e (some (.Name x px)) pos.line X.env = pure false := by rfl) (hf : X.fn x = true ∨ X.env.scope.names.lookup x = some .local := by first | exact .inl rfl | exact .inr rfl) :
    MS X E Mb M M (.Assign [.Name x px] e pos) (tAsg te (gName i)) (fun ρ => asgV M i ρ (m ρ)) :=
  ⟨ps_set hN hi hx he.pe hs hf, fun Ie He σ I H ρ D0 s h => he.sn.mild s h fun d v I1 H1 s1 t r q => q _ I1 H1 (s1.set hM r) t.i⟩
end
end DL
namespace DL
open PySem PySem.Spec L2

/-! ### attributes -/
def getF (f : Str) : List Str → List D → Option D
  | k :: ks, d :: ds => if f = k then some d else getF f ks ds
  | _, _ => none
section
variable {K : PySem.W.Frag} {mg : Gm} {I : Hp}
theorem getF_rep {f : Str} : ∀ {fs : List (Str × V)} {ds : List D} {d : D}, Reps K mg I (fs.map (·.2)) ds → getF f (fs.map (·.1)) ds = some d → ∃ v, fs.lookup f = some v ∧ Rep K mg I v d
  | [], _, _, _, h => by
    simp [getF] at h
  | (g, v) :: fs, e :: ds, d, .cons h r, q => by
    have q : (if f = g then some e else getF f (fs.map (·.1)) ds) = some d := q
    by_cases hf : f = g
    · subst hf
      rw [if_pos rfl] at q
      cases q
      exact ⟨v, by rw [List.lookup_cons]; simp, h⟩
    · rw [if_neg hf] at q
      obtain ⟨v', a, b⟩ := getF_rep r q
      refine ⟨v', ?_, b⟩
      rw [List.lookup_cons, show (f == g) = false from by rw [beq_eq_false_iff_ne]; exact hf]
      exact a
end
def fldD (ns : List Str) (f : Str) : D → R D
  | .obj n ks ds => if n ∈ ns then (match getF f ks ds with | some d => .ok d | none => .stuck) else .stuck
  | _ => .stuck
/-- what is known of the classes whose objects have the attribute -/
def ClF (K : PySem.W.Frag) (mg : Gm) (ns : List Str) (f : Str) : Prop := ∀ n ∈ ns, ∀ C, mg n = some (.ref C) → Cls K C ∧ NoAttr K C f
/-! ### keys -/
def keyD : D → Option Key
  | .int i => some (.inl i)
  | .str x => some (.inr x)
  | _ => none
def keysD : List D → Option (List Key)
  | [] => some []
  | d :: ds => match keyD d, keysD ds with
    | some k, some ks => some (k :: ks)
    | _, _ => none
def getK {κ : Type} [DecidableEq κ] (k : κ) : List κ → List D → Option D
  | k' :: ks, d :: ds => if k' = k then some d else getK k ks ds
  | _, _ => none
/-- what stands in the dict at the key: none: no such question -/
def lookD : D → D → Option (Option D)
  | .dk ks ds, d => (keyD d).map fun k => getK k ks ds
  | .dt ks ds, .tup es => (keysD es).map fun k => getK k ks ds
  | _, _ => none
section
variable {K : PySem.W.Frag} {mg : Gm} {I H : Hp}
theorem keyD_v {v : V} {d : D} {k : Key} (r : Rep K mg I v d) (h : keyD d = some k) : v = kV k := by
  cases r <;> first | (cases h; done) | (cases h; rfl)
theorem keysD_v : ∀ {vs : List V} {ds : List D} {ks : List Key}, Reps K mg I vs ds → keysD ds = some ks → vs = ks.map kV
  | _, _, _, .nil, h => by
    cases h
    rfl
  | _, _, ks, .cons (d := d) (ds := ds) a r, h => by
    unfold keysD at h
    cases e1 : keyD d with
    | none =>
      rw [e1] at h
      cases h
    | some k =>
      cases e2 : keysD ds with
      | none =>
        rw [e1, e2] at h
        cases h
      | some ks' =>
        rw [e1, e2] at h
        cases h
        rw [keyD_v a e1, keysD_v r e2]
        rfl
theorem getK_rep {κ : Type} [DecidableEq κ] {k : κ} : ∀ {kvs : List (κ × V)} {ds : List D}, Reps K mg I (kvs.map (·.2)) ds →
    (∃ v d, valV kvs k = some v ∧ getK k (kvs.map (·.1)) ds = some d ∧ Rep K mg I v d) ∨ (valV kvs k = none ∧ getK k (kvs.map (·.1)) ds = none)
  | [], _, _ => .inr ⟨rfl, by simp [getK]⟩
  | (g, v) :: kvs, e :: ds, .cons h r => by
    show (∃ v' d, valV ((g, v) :: kvs) k = some v' ∧ (if g = k then some e else getK k (kvs.map (·.1)) ds) = some d ∧ Rep K mg I v' d) ∨ (valV ((g, v) :: kvs) k = none ∧ (if g = k then some e else getK k (kvs.map (·.1)) ds) = none)
    by_cases hg : g = k
    · rw [if_pos hg, valV_pos (p := (g, v)) hg]
      exact .inl ⟨v, e, rfl, rfl, h⟩
    · have e1 : valV ((g, v) :: kvs) k = valV kvs k := by simp [valV, List.find?_cons, hg]
      rw [if_neg hg, e1]
      exact getK_rep r
theorem look_rep {x y : V} {dd d : D} {o : Option D} (ex : Same I H) (rx : Rep K mg I x dd) (ry : Rep K mg I y d) (h : lookD dd d = some o) : ∃ a r, x = .ref a ∧ IsD H a ∧ DGet H a y r ∧ ((∃ v d', r = some v ∧ o = some d' ∧ Rep K mg I v d') ∨ (r = none ∧ o = none)) := by
  cases rx with
  | @dk a kvs ds ha ra =>
    cases e : keyD d with
    | none =>
      have h : (keyD d).map (fun k => getK k (kvs.map (·.1)) ds) = some o := h
      rw [e] at h
      cases h
    | some k =>
      have h : (keyD d).map (fun k => getK k (kvs.map (·.1)) ds) = some o := h
      rw [e] at h
      cases h
      have := keyD_v ry e
      subst this
      refine ⟨a, _, rfl, .inl ⟨kvs, same_rd ex ha⟩, .inl ⟨kvs, k, same_rd ex ha, rfl, rfl⟩, ?_⟩
      rcases getK_rep (k := k) ra with ⟨v, d', h1, h2, h3⟩ | ⟨h1, h2⟩
      · exact .inl ⟨v, d', h1, h2, h3⟩
      · exact .inr ⟨h1, h2⟩
  | @dt a kvs ds ha ra =>
    cases ry with
    | @tup b vs es hb rb =>
      have h : (keysD es).map (fun k => getK k (kvs.map (·.1)) ds) = some o := h
      cases e : keysD es with
      | none =>
        rw [e] at h
        cases h
      | some k =>
        rw [e] at h
        cases h
        have := keysD_v rb e
        subst this
        refine ⟨a, _, rfl, .inr ⟨kvs, same_rd ex ha⟩, .inr ⟨kvs, k, b, same_rd ex ha, rfl, ex _ _ hb, rfl⟩, ?_⟩
        rcases getK_rep (k := k) ra with ⟨v, d', h1, h2, h3⟩ | ⟨h1, h2⟩
        · exact .inl ⟨v, d', h1, h2, h3⟩
        · exact .inr ⟨h1, h2⟩
    | _ => cases h
  | _ => cases h
end
def dgetD (dd d : D) : R D := match lookD dd d with
  | some (some e) => .ok e
  | _ => .stuck
def dinD (d dd : D) : R D := match lookD dd d with
  | some o => .ok (.bl o.isSome)
  | none => .stuck
def dninD (d dd : D) : R D := match lookD dd d with
  | some o => .ok (.bl (!o.isSome))
  | none => .stuck
def dget2D : List D → R D
  | [dd, d, e] => match lookD dd d with
    | some o => .ok (o.getD e)
    | none => .stuck
  | _ => .stuck
section
variable {X : Cx} {E : Wh} {K : PySem.W.Frag} {mg : Gm} {I I' H H' : Hp} {σ : L2.St} {ρ : Env} {a b c e f : Expr} {es : List Expr} {pos p : Pos} {ma mb mc m : Env → R D} {x : Str} {ta tb tc t : TE}
/-- e.f -/
theorem me_fld (ns : List Str) {g : Str} (hT : ClF X.K (gm X E) ns g) (ha : ME X E a ta ma) (hb : attributeBase a g X.env (eval a X.env) = eval a X.env := by rfl) : ME X E (.Attribute a g pos) (tFld X.K ta g) (fun ρ => o1 (fldD ns g) (ma ρ)) := by
  obtain ⟨pa, sa⟩ := ha
  refine ⟨pe_fld pa hb, fun σ I H ρ Q re ex h => ?_⟩
  refine sa.run re ex h fun d v I1 H1 _ st rx h => ?_
  obtain ⟨z, hz, h9⟩ := out_calm h
  cases rx with
  | @obj a0 C dx n fs ds ha hc ra =>
    have hz : (if n ∈ ns then (match getF g (fs.map (·.1)) ds with | some d => R.ok d | none => .stuck) else .stuck) = R.ok z := hz
    by_cases hn : n ∈ ns
    · rw [if_pos hn] at hz
      cases e : getF g (fs.map (·.1)) ds with
      | none =>
        rw [e] at hz
        cases hz
      | some d' =>
        rw [e] at hz
        cases hz
        obtain ⟨v', h1, h2⟩ := getF_rep ra e
        obtain ⟨k1, k2⟩ := hT n hn C hc
        exact ⟨a0, C, dx, fs, v', rfl, st.e _ _ ha, k1, k2, h1, h9 _ _ _ (.refl st.e) h2⟩
    · rw [if_neg hn] at hz
      cases hz
  | _ => cases hz
/-- d[k] of a dict -/
theorem me_dget (hu : X.A.units + 1 < cLine) (ha : ME X E a ta ma) (hb : ME X E b tb mb) (hs : NoSl b := by exact fun _ _ => rfl) : ME X E (.Subscript a b pos) (tDGet ta tb) (fun ρ => o2 dgetD (ma ρ) (mb ρ)) := by
  obtain ⟨pa, sa⟩ := ha
  obtain ⟨pb, sb⟩ := hb
  refine ⟨pe_dget hu pa pb hs, fun σ I H ρ Q re ex h => ?_⟩
  refine sa.run re ex h fun d v I1 H1 _ st rx h => ?_
  refine sb.run (re.mono st.i) st.e h fun d2 v2 I2 H2 _ st2 ry h => ?_
  obtain ⟨z, hz, h⟩ := out_calm h
  unfold dgetD at hz
  cases e : lookD d d2 with
  | none =>
    rw [e] at hz
    cases hz
  | some o =>
    cases o with
    | none =>
      rw [e] at hz
      cases hz
    | some z' =>
      rw [e] at hz
      cases hz
      obtain ⟨a0, r, rfl, _, hg, hr⟩ := look_rep st2.e (rx.mono st2.i) ry e
      rcases hr with ⟨v', d', rfl, h1, h2⟩ | ⟨_, h1⟩
      · cases h1
        exact ⟨a0, v', rfl, hg, h _ _ _ (.refl st2.e) h2⟩
      · cases h1
/-- k in d, k not in d -/
theorem me_din (hu : X.A.units + 1 < cLine) (ha : ME X E a ta ma) (hb : ME X E b tb mb) (h1 : behindInMarks .In b = false := by rfl) : ME X E (.Compare a [.In] [b] pos) (tDIn ta tb) (fun ρ => o2 dinD (ma ρ) (mb ρ)) := by
  obtain ⟨pa, sa⟩ := ha
  obtain ⟨pb, sb⟩ := hb
  refine ⟨pe_cmp (pc_din hu pa pb) h1, fun σ I H ρ Q re ex h => ?_⟩
  refine sa.run re ex h fun d v I1 H1 _ st rx h => ?_
  refine sb.run (re.mono st.i) st.e h fun d2 v2 I2 H2 _ st2 ry h => ?_
  obtain ⟨z, hz, h⟩ := out_calm h
  unfold dinD at hz
  cases e : lookD d2 d with
  | none =>
    rw [e] at hz
    cases hz
  | some o =>
    rw [e] at hz
    cases hz
    obtain ⟨a0, r, rfl, _, hg, hr⟩ := look_rep st2.e ry (rx.mono st2.i) e
    refine ⟨a0, r, rfl, hg, ?_⟩
    rcases hr with ⟨v', d', rfl, rfl, _⟩ | ⟨rfl, rfl⟩
    · exact h _ _ _ (.refl st2.e) (.bl _)
    · exact h _ _ _ (.refl st2.e) (.bl _)
theorem me_dnin (hu : X.A.units + 1 < cLine) (ha : ME X E a ta ma) (hb : ME X E b tb mb) (h1 : behindInMarks .NotIn b = false := by rfl) : ME X E (.Compare a [.NotIn] [b] pos) (tDNotIn ta tb) (fun ρ => o2 dninD (ma ρ) (mb ρ)) := by
  obtain ⟨pa, sa⟩ := ha
  obtain ⟨pb, sb⟩ := hb
  refine ⟨pe_cmp (pc_dnotin hu pa pb) h1, fun σ I H ρ Q re ex h => ?_⟩
  refine sa.run re ex h fun d v I1 H1 _ st rx h => ?_
  refine sb.run (re.mono st.i) st.e h fun d2 v2 I2 H2 _ st2 ry h => ?_
  obtain ⟨z, hz, h⟩ := out_calm h
  unfold dninD at hz
  cases e : lookD d2 d with
  | none =>
    rw [e] at hz
    cases hz
  | some o =>
    rw [e] at hz
    cases hz
    obtain ⟨a0, r, rfl, _, hg, hr⟩ := look_rep st2.e ry (rx.mono st2.i) e
    refine ⟨a0, r, rfl, hg, ?_⟩
    rcases hr with ⟨v', d', rfl, rfl, _⟩ | ⟨rfl, rfl⟩
    · exact h _ _ _ (.refl st2.e) (.bl _)
    · exact h _ _ _ (.refl st2.e) (.bl _)
end
end DL
namespace DL
open PySem PySem.Spec L2

/-! ### an own object's attribute, an own dict's pair -/
def putNs (f : Str) : List Str → List Str
  | [] => [f]
  | g :: ks => if g = f then g :: ks else g :: putNs f ks
def putDs (f : Str) (d : D) : List Str → List D → List D
  | g :: ks, e :: ds => if g = f then d :: ds else e :: putDs f d ks ds
  | _, _ => [d]
def putKs {κ : Type} [DecidableEq κ] (k : κ) (ks : List κ) : List κ := if k ∈ ks then ks else ks ++ [k]
def repK {κ : Type} [DecidableEq κ] (k : κ) (d : D) : List κ → List D → List D
  | k' :: ks, e :: ds => (if k' = k then d else e) :: repK k d ks ds
  | _, _ => []
def putKd {κ : Type} [DecidableEq κ] (k : κ) (d : D) (ks : List κ) (ds : List D) : List D := if k ∈ ks then repK k d ks ds else ds ++ [d]
section
variable {K : PySem.W.Frag} {mg : Gm} {I : Hp}
theorem putF_ns {f : Str} {v : V} : ∀ fs : List (Str × V), (putF f v fs).map (·.1) = putNs f (fs.map (·.1))
  | [] => rfl
  | (g, x) :: fs => by
    show (if g = f then (g, v) :: fs else (g, x) :: putF f v fs).map (·.1) = if g = f then g :: fs.map (·.1) else g :: putNs f (fs.map (·.1))
    by_cases h : g = f
    · rw [if_pos h, if_pos h]
      rfl
    · rw [if_neg h, if_neg h, ← putF_ns fs]
      rfl
theorem putF_ds {f : Str} {v : V} {d : D} (r : Rep K mg I v d) : ∀ {fs : List (Str × V)} {ds : List D}, Reps K mg I (fs.map (·.2)) ds → Reps K mg I ((putF f v fs).map (·.2)) (putDs f d (fs.map (·.1)) ds)
  | [], _, .nil => .cons r .nil
  | (g, x) :: fs, e :: ds, .cons h t => by
    show Reps K mg I ((if g = f then (g, v) :: fs else (g, x) :: putF f v fs).map (·.2)) (if g = f then d :: ds else e :: putDs f d (fs.map (·.1)) ds)
    by_cases h0 : g = f
    · rw [if_pos h0, if_pos h0]
      exact .cons r t
    · rw [if_neg h0, if_neg h0]
      exact .cons h (putF_ds r t)
theorem putK_ks {κ : Type} [DecidableEq κ] {k : κ} {v : V} (kvs : List (κ × V)) : (putK kvs k v).map (·.1) = putKs k (kvs.map (·.1)) := by
  unfold putK putKs
  by_cases h : (kvs.any fun kv => decide (kv.1 = k)) = true
  · have hm : k ∈ kvs.map (·.1) := by
      obtain ⟨p, hp, e⟩ := List.any_eq_true.mp h
      exact List.mem_map.mpr ⟨p, hp, of_decide_eq_true e⟩
    rw [if_pos h, if_pos hm, List.map_map]
    refine List.map_congr_left fun p _ => ?_
    show (if p.1 = k then (p.1, v) else p).1 = p.1
    split <;> rfl
  · have hm : ¬ k ∈ kvs.map (·.1) := fun z => by
      obtain ⟨p, hp, e⟩ := List.mem_map.mp z
      exact h (List.any_eq_true.mpr ⟨p, hp, decide_eq_true e⟩)
    rw [if_neg h, if_neg hm, List.map_append]
    rfl
theorem repK_rep {κ : Type} [DecidableEq κ] {k : κ} {v : V} {d : D} (r : Rep K mg I v d) : ∀ {kvs : List (κ × V)} {ds : List D}, Reps K mg I (kvs.map (·.2)) ds → Reps K mg I ((kvs.map fun kv => if kv.1 = k then (kv.1, v) else kv).map (·.2)) (repK k d (kvs.map (·.1)) ds)
  | [], _, .nil => .nil
  | (g, x) :: kvs, e :: ds, .cons h t => by
    show Reps K mg I ((if g = k then (g, v) else (g, x)).2 :: (kvs.map fun kv => if kv.1 = k then (kv.1, v) else kv).map (·.2)) ((if g = k then d else e) :: repK k d (kvs.map (·.1)) ds)
    refine .cons ?_ (repK_rep r t)
    by_cases h0 : g = k
    · rw [if_pos h0, if_pos h0]
      exact r
    · rw [if_neg h0, if_neg h0]
      exact h
theorem putK_ds {κ : Type} [DecidableEq κ] {k : κ} {v : V} {d : D} {kvs : List (κ × V)} {ds : List D} (r : Rep K mg I v d) (t : Reps K mg I (kvs.map (·.2)) ds) : Reps K mg I ((putK kvs k v).map (·.2)) (putKd k d (kvs.map (·.1)) ds) := by
  unfold putK putKd
  by_cases h : (kvs.any fun kv => decide (kv.1 = k)) = true
  · have hm : k ∈ kvs.map (·.1) := by
      obtain ⟨p, hp, e⟩ := List.any_eq_true.mp h
      exact List.mem_map.mpr ⟨p, hp, of_decide_eq_true e⟩
    rw [if_pos h, if_pos hm]
    exact repK_rep r t
  · have hm : ¬ k ∈ kvs.map (·.1) := fun z => by
      obtain ⟨p, hp, e⟩ := List.mem_map.mp z
      exact h (List.any_eq_true.mpr ⟨p, hp, decide_eq_true e⟩)
    rw [if_neg h, if_neg hm, List.map_append]
    exact t.app (.cons r .nil)
end
def fldG (i : Nat) (n f : Str) (ρ : Env) (d : D) : R Fl := match ρ[i]? with
  | some (some (.obj n' ks ds)) => if n' = n ∧ ks.length < 900 then .ok (.nx (ρ.set i (some (.obj n (putNs f ks) (putDs f d ks ds))))) else .stuck
  | _ => .stuck
def fldS (M : List Nat) (i : Nat) (n f : Str) (ρ : Env) (a : R D) : R Fl := a >>= fun d => if keepOk M ρ d = true then fldG i n f ρ d else .stuck
def dputG (i : Nat) (ρ : Env) (d : D) : D → D → R Fl
  | .dk ks ds, kd => match keyD kd with
    | some k => if ks.length < LIM then .ok (.nx (ρ.set i (some (.dk (putKs k ks) (putKd k d ks ds))))) else .stuck
    | none => .stuck
  | .dt ks ds, .tup es => match keysD es with
    | some k => if ks.length < LIM then .ok (.nx (ρ.set i (some (.dt (putKs k ks) (putKd k d ks ds))))) else .stuck
    | none => .stuck
  | _, _ => .stuck
def dputS (M : List Nat) (i : Nat) (ρ : Env) (a k : R D) : R Fl := a >>= fun d => if keepOk M ρ d = true then (calm (get ρ i) >>= fun d0 => k >>= dputG i ρ d d0) else .stuck
theorem get_of {ρ : Env} {i : Nat} {d : D} (h : get ρ i = .ok d) : ρ[i]? = some (some d) := by
  unfold get at h
  split at h
  · cases h
    assumption
  · cases h
section
variable {X : Cx} {E : XK} {Mb M M' M1 : List Nat} {s : Stmt} {ss : List Stmt} {t u : TS} {ms mr : Env → R Fl} {e c : Expr} {te : TE} {m : Env → R D} {pos pos' : Pos} {x : Str}
/-- self.f = e, self one's own -/
theorem ms_fldV (i : Nat) (n : Str) {g : Str} {px : Pos} (hT : ∀ C, X.mg n = some (.ref C) → Cls X.K C ∧ NoAttr X.K C g) (he : ME X (kE E) e te m) (hi : X.N[i]? = some x := by rfl) (hv : Vis X.env.scope x := by first | exact Or.inl rfl | exact Or.inr (Or.inl rfl)) (hM : i ∈ M := by decide) (hD : deep M i = false := by decide)
    (hd : (x == ("__debug__" : Str)) = false := by decide) (hcd : (x == ("__classdict__" : Str)) = false := by decide) (hs : swapsWith e (some (.Attribute (.Name x px) g pos')) pos.line X.env = pure false := by rfl) :
    MS X E Mb M M (.Assign [.Attribute (.Name x px) g pos'] e pos) (sFld X.K (tVar i) te g) (fun ρ => fldS M i n g ρ (m ρ)) :=
  ⟨ps_fld (pe_var (i := i) hi hv hd hcd) he.pe hs, fun Ie He σ I H ρ D0 s h => he.sn.mild s h fun d v I1 H1 s1 t r q => by
    unfold fldG at q
    split at q
    · rename_i n' ks ds q0
      obtain ⟨⟨rfl, hl⟩, q⟩ := outS_if q
      obtain ⟨p, o, h2, h3, h4, h5, h6⟩ := s1.own_ i _ hM q0
      have h6 := h6.of hD
      cases h6 with
      | @ins C dx _ fs _ hc ra =>
        obtain ⟨k1, k2⟩ := hT C hc
        rw [List.length_map] at hl
        refine ⟨_, h2, p, C, dx, fs, rfl, h5, k1, k2, by omega, ?_⟩
        have := s1.putO hM q0 h2 (OwnR.ins (dx := dx) hc (putF_ds (f := g) r ra)) (fun _ => rfl) hD
        rw [putF_ns] at this
        exact q _ I1 _ this t.i
    · exact q.elim⟩
/-- d[k] = e, d one's own -/
theorem ms_dputV (i : Nat) {px : Pos} {k : Expr} {tk : TE} {mk : Env → R D} (hu : X.A.units + 1 < cLine) (he : ME X (kE E) e te m) (hk : ME X (kE E) k tk mk) (hi : X.N[i]? = some x := by rfl) (hv : Vis X.env.scope x := by first | exact Or.inl rfl | exact Or.inr (Or.inl rfl)) (hM : i ∈ M := by decide) (hD : deep M i = false := by decide)
    (hd : (x == ("__debug__" : Str)) = false := by decide) (hcd : (x == ("__classdict__" : Str)) = false := by decide) (hs : swapsWith e (some (.Subscript (.Name x px) k pos')) pos.line X.env = pure false := by rfl) :
    MS X E Mb M M (.Assign [.Subscript (.Name x px) k pos'] e pos) (sDPut (tVar i) tk te) (fun ρ => dputS M i ρ (m ρ) (mk ρ)) :=
  ⟨ps_dput hu (pe_var (i := i) hi hv hd hcd) hk.pe he.pe hs, fun Ie He σ I H ρ D0 s h => he.sn.mild (k := fun d => calm (get ρ i) >>= fun d0 => mk ρ >>= dputG i ρ d d0) s h fun d v I1 H1 s1 t r q => by
    obtain ⟨d0, hg, q⟩ := outS_calm q
    have q0 := get_of hg
    obtain ⟨p, o, h2, h3, h4, h5, h6⟩ := s1.own_ i _ hM q0
    have h6 := h6.of hD
    refine ⟨_, h2, hk.sn.weak s1 (q.mono t.i) fun kd vk I2 H2 s2 t2 rk q => ?_⟩
    obtain ⟨p', o', g2, g3, g4, g5, g6⟩ := s2.own_ i _ hM q0
    rw [h2] at g2
    cases g2
    have g9 := g6.of hD
    cases g9 with
    | @dk kvs ds ra =>
      have q : OutS X.K (g0 X.mg) E Mb M Ie He I1 D0 (match keyD kd with
        | some k => if (kvs.map (·.1)).length < LIM then .ok (.nx (ρ.set i (some (.dk (putKs k (kvs.map (·.1))) (putKd k d (kvs.map (·.1)) ds))))) else .stuck
        | none => .stuck) := q
      cases e : keyD kd with
      | none =>
        rw [e] at q
        exact q.elim
      | some k =>
        rw [e] at q
        obtain ⟨hl, q⟩ := outS_if q
        rw [List.length_map] at hl
        have := keyD_v rk e
        subst this
        have st := s2.putO hM q0 h2 (OwnR.dk (putK_ds (k := k) r ra)) (fun h => by cases h) hD
        rw [putK_ks] at st
        exact ⟨p, _, rfl, DPut.k g5 (lim_lt (Nat.le_of_lt hl)), q _ I1 _ st (.refl _)⟩
    | @dt kvs ds ra =>
      cases rk with
      | @tup b vs es hb rb =>
        have q : OutS X.K (g0 X.mg) E Mb M Ie He I1 D0 (match keysD es with
          | some k => if (kvs.map (·.1)).length < LIM then .ok (.nx (ρ.set i (some (.dt (putKs k (kvs.map (·.1))) (putKd k d (kvs.map (·.1)) ds))))) else .stuck
          | none => .stuck) := q
        cases e : keysD es with
        | none =>
          rw [e] at q
          exact q.elim
        | some k =>
          rw [e] at q
          obtain ⟨hl, q⟩ := outS_if q
          rw [List.length_map] at hl
          have := keysD_v rb e
          subst this
          have st := s2.putO hM q0 h2 (OwnR.dt (putK_ds (k := k) r ra)) (fun h => by cases h) hD
          rw [putK_ks] at st
          exact ⟨p, _, rfl, DPut.t g5 (t2.e _ _ hb) (lim_lt (Nat.le_of_lt hl)), q _ I1 _ st (.refl _)⟩
      | _ => exact q.elim
    | lst _ => exact q.elim
    | ins _ _ => exact q.elim⟩
/-- x = {} -/
theorem ms_newK (i : Nat) {px : Pos} (hN : X.N.Nodup) (hi : X.N[i]? = some x := by rfl) (hx : Loc X.env.scope x := by first | exact .inl rfl | exact .inr rfl) (hM : i ∈ M := by decide) (hD : deep M i = false := by decide) (hs : swapsWith (.Dict [] [] pos') (some (.Name x px)) pos.line X.env = pure false := by rfl) (hf : X.fn x = true ∨ X.env.scope.names.lookup x = some .local := by first | exact .inl rfl | exact .inr rfl) :
    MS X E Mb M M (.Assign [.Name x px] (.Dict [] [] pos') pos) (tAsg tDNewK (gName i)) (fun ρ => .ok (.nx (ρ.set i (some (.dk [] []))))) :=
  ⟨ps_set hN hi hx pe_dnewK hs hf, fun Ie He σ I H ρ D0 s h p hp => by
    have t : Stp I H I (upd H p (.dK [])) := .side s.st.e hp
    exact h _ I _ (s.ownO (d9 := .dk [] []) hM t (s.st.e.free hp) hp upd_same (OwnR.dk (kvs := []) .nil) (fun h => by cases h) hD) (.refl _)⟩
theorem ms_newT (i : Nat) {px : Pos} (hN : X.N.Nodup) (hi : X.N[i]? = some x := by rfl) (hx : Loc X.env.scope x := by first | exact .inl rfl | exact .inr rfl) (hM : i ∈ M := by decide) (hD : deep M i = false := by decide) (hs : swapsWith (.Dict [] [] pos') (some (.Name x px)) pos.line X.env = pure false := by rfl) (hf : X.fn x = true ∨ X.env.scope.names.lookup x = some .local := by first | exact .inl rfl | exact .inr rfl) :
    MS X E Mb M M (.Assign [.Name x px] (.Dict [] [] pos') pos) (tAsg tDNewT (gName i)) (fun ρ => .ok (.nx (ρ.set i (some (.dt [] []))))) :=
  ⟨ps_set hN hi hx pe_dnewT hs hf, fun Ie He σ I H ρ D0 s h p hp => by
    have t : Stp I H I (upd H p (.dT [])) := .side s.st.e hp
    exact h _ I _ (s.ownO (d9 := .dt [] []) hM t (s.st.e.free hp) hp upd_same (OwnR.dt (kvs := []) .nil) (fun h => by cases h) hD) (.refl _)⟩
end
end DL
namespace DL
open PySem PySem.Spec L2

/-! ### a subscript, a membership: of a dict or of what has places -/
def ixA : D → D → R D
  | .dk ks ds, k => dgetD (.dk ks ds) k
  | .dt ks ds, k => dgetD (.dt ks ds) k
  | d, k => ixD d k
def inA (d : D) : D → R D
  | .dk ks ds => dinD d (.dk ks ds)
  | .dt ks ds => dinD d (.dt ks ds)
  | e => inD d e
def ninA (d : D) : D → R D
  | .dk ks ds => dninD d (.dk ks ds)
  | .dt ks ds => dninD d (.dt ks ds)
  | e => notInD d e
theorem PE.or {X : Cx} {e : Expr} {t t' : TE} (h : PE X e t) (h' : PE X e t') : PE X e (fun σ H Q => t σ H Q ∨ t' σ H Q) := ⟨fun pins s σ H Q I q => by
  rcases q with q | q
  · exact h.run pins s σ H Q I q
  · exact h'.run pins s σ H Q I q⟩
theorem PT.or {X : Cx} {e : Expr} {t t' : TT} (h : PT X e t) (h' : PT X e t') : PT X e (fun σ H Q => t σ H Q ∨ t' σ H Q) := ⟨fun pins s σ H Q I q => by
  rcases q with q | q
  · exact h.run pins s σ H Q I q
  · exact h'.run pins s σ H Q I q⟩
theorem sn_or {K : PySem.W.Frag} {mg : Gm} {E : XS} {α β : Type} {rp : Hp → β → α → Prop} {t t' : L2.St → Hp → (β → Hp → Prop) → Prop} {m m' mm : Env → R α} (h : Sn K mg E rp t m) (h' : Sn K mg E rp t' m') (hc : ∀ ρ, mm ρ = m ρ ∨ mm ρ = m' ρ) : Sn K mg E rp (fun σ H Q => t σ H Q ∨ t' σ H Q) mm := by
  intro σ I H ρ Q re ex q
  rcases hc ρ with e | e
  · rw [e] at q
    exact .inl (h σ I H ρ Q re ex q)
  · rw [e] at q
    exact .inr (h' σ I H ρ Q re ex q)
theorem o2_l {f g h : D → D → R D} (hf : ∀ x, (∀ y, f x y = g x y) ∨ (∀ y, f x y = h x y)) (a b : R D) : o2 f a b = o2 g a b ∨ o2 f a b = o2 h a b := by
  cases a with
  | ok x =>
    rcases hf x with e | e
    · refine .inl ?_
      show (b >>= fun y => calm (f x y)) = b >>= fun y => calm (g x y)
      congr 1
      funext y
      rw [e]
    · refine .inr ?_
      show (b >>= fun y => calm (f x y)) = b >>= fun y => calm (h x y)
      congr 1
      funext y
      rw [e]
  | err _ _ => exact .inl rfl
  | stuck => exact .inl rfl
theorem o2_r {f g h : D → D → R D} (hf : ∀ y, (∀ x, f x y = g x y) ∨ (∀ x, f x y = h x y)) (a b : R D) : o2 f a b = o2 g a b ∨ o2 f a b = o2 h a b := by
  cases b with
  | ok y =>
    rcases hf y with e | e
    · refine .inl ?_
      show (a >>= fun x => calm (f x y)) = a >>= fun x => calm (g x y)
      congr 1
      funext x
      rw [e]
    · refine .inr ?_
      show (a >>= fun x => calm (f x y)) = a >>= fun x => calm (h x y)
      congr 1
      funext x
      rw [e]
  | err _ _ => exact .inl rfl
  | stuck => exact .inl rfl
theorem ixA_or (x : D) : (∀ y, ixA x y = dgetD x y) ∨ (∀ y, ixA x y = ixD x y) := by
  cases x <;> first | exact .inl fun _ => rfl | exact .inr fun _ => rfl
theorem inA_or (y : D) : (∀ x, inA x y = dinD x y) ∨ (∀ x, inA x y = inD x y) := by
  cases y <;> first | exact .inl fun _ => rfl | exact .inr fun _ => rfl
theorem ninA_or (y : D) : (∀ x, ninA x y = dninD x y) ∨ (∀ x, ninA x y = notInD x y) := by
  cases y <;> first | exact .inl fun _ => rfl | exact .inr fun _ => rfl
section
variable {X : Cx} {E : Wh} {a b : Expr} {pos : Pos} {ma mb : Env → R D} {ta tb : TE}
theorem me_ixA (K : PySem.W.Frag) (hu : X.A.units + 1 < cLine) (ha : ME X E a ta ma) (hb : ME X E b tb mb) (hs : NoSl b := by exact fun _ _ => rfl) (hp : PlainIx b := by exact fun _ _ => rfl) (hK : X.K = K := by rfl) : ME X E (.Subscript a b pos) (fun σ H Q => tDGet ta tb σ H Q ∨ tOp (rIx K) ta tb σ H Q) (fun ρ => o2 ixA (ma ρ) (mb ρ)) := by
  subst hK
  have h1 : ME X E (.Subscript a b pos) _ _ := me_dget hu ha hb hs
  have h2 : ME X E (.Subscript a b pos) _ _ := me_ix (r := rIx X.K) ix_seq rs_ix ha hb hp
  exact ⟨PE.or h1.pe h2.pe, sn_or h1.sn h2.sn fun ρ => o2_l ixA_or _ _⟩
theorem me_inA (K : PySem.W.Frag) (hu : X.A.units + 1 < cLine) (ha : ME X E a ta ma) (hb : ME X E b tb mb) (hm : behindInMarks .In b = false := by rfl) (hK : X.K = K := by rfl) : ME X E (.Compare a [.In] [b] pos) (fun σ H Q => tDIn ta tb σ H Q ∨ tOp (rInX K) ta tb σ H Q) (fun ρ => o2 inA (ma ρ) (mb ρ)) := by
  subst hK
  have h1 : ME X E (.Compare a [.In] [b] pos) _ _ := me_din hu ha hb hm
  have h2 : ME X E (.Compare a [.In] [b] pos) _ _ := me_cmp (r := rInX X.K) op_inX rs_in ha hb hm
  exact ⟨PE.or h1.pe h2.pe, sn_or h1.sn h2.sn fun ρ => o2_r inA_or _ _⟩
theorem me_ninA (K : PySem.W.Frag) (hu : X.A.units + 1 < cLine) (ha : ME X E a ta ma) (hb : ME X E b tb mb) (hm : behindInMarks .NotIn b = false := by rfl) (hK : X.K = K := by rfl) : ME X E (.Compare a [.NotIn] [b] pos) (fun σ H Q => tDNotIn ta tb σ H Q ∨ tOp (rNinX K) ta tb σ H Q) (fun ρ => o2 ninA (ma ρ) (mb ρ)) := by
  subst hK
  have h1 : ME X E (.Compare a [.NotIn] [b] pos) _ _ := me_dnin hu ha hb hm
  have h2 : ME X E (.Compare a [.NotIn] [b] pos) _ _ := me_cmp (r := rNinX X.K) op_ninX rs_notIn ha hb hm
  exact ⟨PE.or h1.pe h2.pe, sn_or h1.sn h2.sn fun ρ => o2_r ninA_or _ _⟩
theorem sn_tB {K : PySem.W.Frag} {mg : Gm} {E : XS} {te : TE} {m : Env → R D} (h : Sn K mg E (Rep K mg) te m) : Sn K mg E rB (tB te) (fun ρ => tst (m ρ)) := by
  intro σ I H ρ Q re ex q
  refine h.run re ex q fun d v I1 H1 _ st rx h => ?_
  cases rx with
  | bl k => exact ⟨k, rfl, h.here st.e rfl⟩
  | _ => exact h.elim
theorem tst_or {m m' mm : R D} (h : mm = m ∨ mm = m') : tst mm = tst m ∨ tst mm = tst m' := h.imp (congrArg tst) (congrArg tst)
theorem mt_inA (K : PySem.W.Frag) (hu : X.A.units + 1 < cLine) (ha : ME X E a ta ma) (hb : ME X E b tb mb) (hm : behindInMarks .In b = false := by rfl) (hK : X.K = K := by rfl) : MT X E (.Compare a [.In] [b] pos) (fun σ H Q => tB (tDIn ta tb) σ H Q ∨ tTest (tOp (rInX K) ta tb) σ H Q) (fun ρ => tst (o2 inA (ma ρ) (mb ρ))) := by
  subst hK
  have h1 : ME X E (.Compare a [.In] [b] pos) _ _ := me_din hu ha hb hm
  have h2 : MT X E (.Compare a [.In] [b] pos) _ _ := mt_cmp (r := rInX X.K) op_inX rs_in ha hb hm
  exact ⟨PT.or (pt_cmp (pc_din hu ha.pe hb.pe) hm) h2.pe, sn_or (sn_tB h1.sn) h2.sn fun ρ => tst_or (o2_r inA_or _ _)⟩
theorem mt_ninA (K : PySem.W.Frag) (hu : X.A.units + 1 < cLine) (ha : ME X E a ta ma) (hb : ME X E b tb mb) (hm : behindInMarks .NotIn b = false := by rfl) (hK : X.K = K := by rfl) : MT X E (.Compare a [.NotIn] [b] pos) (fun σ H Q => tB (tDNotIn ta tb) σ H Q ∨ tTest (tOp (rNinX K) ta tb) σ H Q) (fun ρ => tst (o2 ninA (ma ρ) (mb ρ))) := by
  subst hK
  have h1 : ME X E (.Compare a [.NotIn] [b] pos) _ _ := me_dnin hu ha hb hm
  have h2 : MT X E (.Compare a [.NotIn] [b] pos) _ _ := mt_cmp (r := rNinX X.K) op_ninX rs_notIn ha hb hm
  exact ⟨PT.or (pt_cmp (pc_dnotin hu ha.pe hb.pe) hm) h2.pe, sn_or (sn_tB h1.sn) h2.sn fun ρ => tst_or (o2_r ninA_or _ _)⟩
/-! ### d.get(k, e) -/
def isDct : D → Bool
  | .dk _ _ => true
  | .dt _ _ => true
  | _ => false
def og2 (f : D → D → D → R D) (a b c : R D) : R D := a >>= fun d => if isDct d = true then (b >>= fun k => c >>= fun e => calm (f d k e)) else .stuck
def dgetE (d k e : D) : R D := match lookD d k with
  | some o => .ok (o.getD e)
  | none => .stuck
theorem isDct_rep {K : PySem.W.Frag} {mg : Gm} {I H : Hp} {v : V} {d : D} (ex : Same I H) (r : Rep K mg I v d) (h : isDct d = true) : ∃ a, v = .ref a ∧ IsD H a := by
  cases r with
  | dk ha _ => exact ⟨_, rfl, .inl ⟨_, same_rd ex ha⟩⟩
  | dt ha _ => exact ⟨_, rfl, .inr ⟨_, same_rd ex ha⟩⟩
  | _ => cases h
theorem me_get2 {c : Expr} {mc : Env → R D} {tc : TE} {apos : Pos} (hu : X.A.units + 1 < cLine) (ha : ME X E a ta ma) (hb : ME X E b tb mb) (hc : ME X E c tc mc) (hm : M2 X a "get" apos b c pos := by exact ⟨rfl, rfl, rfl, rfl⟩) :
    ME X E (.Call (.Attribute a "get" apos) [b, c] [] pos) (tDGet2 ta tb tc) (fun ρ => og2 dgetE (ma ρ) (mb ρ) (mc ρ)) := by
  obtain ⟨pa, sa⟩ := ha
  obtain ⟨pb, sb⟩ := hb
  obtain ⟨pc, sc⟩ := hc
  refine ⟨pe_dget2 hu pa pb pc hm, fun σ I H ρ Q re ex h => ?_⟩
  refine sa.run re ex h fun d v I1 H1 _ st rx h => ?_
  obtain ⟨hd, h⟩ := out_if h
  obtain ⟨a0, rfl, hi⟩ := isDct_rep st.e rx hd
  refine ⟨a0, rfl, hi, ?_⟩
  refine sb.run (re.mono st.i) st.e h fun d2 v2 I2 H2 _ st2 ry h => ?_
  refine sc.run ((re.mono st.i).mono st2.i) st2.e h fun d3 v3 I3 H3 _ st3 rz h => ?_
  obtain ⟨z, hz, h⟩ := out_calm h
  unfold dgetE at hz
  cases e : lookD d d2 with
  | none =>
    rw [e] at hz
    cases hz
  | some o =>
    rw [e] at hz
    cases hz
    obtain ⟨a1, r, ea, _, hg, hr⟩ := look_rep st3.e ((rx.mono st2.i).mono st3.i) (ry.mono st3.i) e
    cases ea
    refine ⟨r, hg, ?_⟩
    rcases hr with ⟨v', d', rfl, rfl, h2⟩ | ⟨rfl, rfl⟩
    · exact h _ _ _ (.refl st3.e) h2
    · exact h _ _ _ (.refl st3.e) rz
end
end DL
namespace DL
open PySem PySem.Spec L2

/-! ### len(set(row)) -/
def ded : List Int → List Int
  | [] => []
  | x :: xs => if x ∈ xs then ded xs else x :: ded xs
theorem ded_mem : ∀ (xs : List Int) (y : Int), y ∈ ded xs ↔ y ∈ xs
  | [], y => Iff.rfl
  | x :: xs, y => by
    unfold ded
    by_cases h : x ∈ xs
    · rw [if_pos h, ded_mem xs y, List.mem_cons]
      exact ⟨.inr, fun z => z.elim (fun e => e ▸ h) id⟩
    · rw [if_neg h, List.mem_cons, List.mem_cons, ded_mem xs y]
theorem ded_nodup : ∀ xs : List Int, (ded xs).Nodup
  | [] => .nil
  | x :: xs => by
    unfold ded
    by_cases h : x ∈ xs
    · rw [if_pos h]
      exact ded_nodup xs
    · rw [if_neg h]
      exact List.nodup_cons.mpr ⟨fun z => h ((ded_mem xs x).mp z), ded_nodup xs⟩
theorem ded_self {xs : List Int} (h : xs.Nodup) : ded xs = xs := by
  induction xs with
  | nil => rfl
  | cons x xs ih =>
    have h2 := List.nodup_cons.mp h
    unfold ded
    rw [if_neg h2.1, ih h2.2]
theorem ded_le : ∀ xs : List Int, (ded xs).length ≤ xs.length
  | [] => Nat.le_refl _
  | x :: xs => by
    unfold ded
    have := ded_le xs
    split
    · show _ ≤ xs.length + 1
      omega
    · show (ded xs).length + 1 ≤ xs.length + 1
      omega
theorem ded_lt {xs : List Int} (h : ¬ xs.Nodup) : (ded xs).length < xs.length := by
  induction xs with
  | nil => exact absurd .nil h
  | cons x xs ih =>
    unfold ded
    by_cases hx : x ∈ xs
    · rw [if_pos hx]
      have := ded_le xs
      show _ < xs.length + 1
      omega
    · rw [if_neg hx]
      have : ¬ xs.Nodup := fun z => h (List.nodup_cons.mpr ⟨hx, z⟩)
      have := ih this
      show (ded xs).length + 1 < xs.length + 1
      omega
theorem len_ded {l xs : List Int} (hn : l.Nodup) (hm : ∀ k, k ∈ l ↔ k ∈ xs) : l.length = (ded xs).length :=
  ((List.perm_ext_iff_of_nodup hn (ded_nodup xs)).mpr fun k => (hm k).trans (ded_mem xs k).symm).length_eq
open PyProof.Rows in
theorem fold_dedup : ∀ (xs acc : List Int), acc.Nodup → (xs.foldl step_dedup acc).Nodup ∧ ∀ k, k ∈ xs.foldl step_dedup acc ↔ k ∈ acc ∨ k ∈ xs
  | [], acc, h => ⟨h, fun k => by simp⟩
  | x :: xs, acc, h => by
    have hs : (step_dedup acc x).Nodup ∧ ∀ k, k ∈ step_dedup acc x ↔ k ∈ acc ∨ k = x := by
      unfold step_dedup
      by_cases hx : acc.any (· == x) = true
      · rw [if_pos hx]
        have hm : x ∈ acc := by
          obtain ⟨y, hy, e⟩ := List.any_eq_true.mp hx
          rw [beq_iff_eq.mp e] at hy
          exact hy
        exact ⟨h, fun k => ⟨.inl, fun z => z.elim id fun e => e ▸ hm⟩⟩
      · rw [if_neg hx]
        have hm : x ∉ acc := fun z => hx (List.any_eq_true.mpr ⟨x, z, beq_self_eq_true x⟩)
        refine ⟨List.nodup_append.mpr ⟨h, List.pairwise_singleton _ _, fun a ha b hb e => ?_⟩, fun k => by simp⟩
        rw [List.mem_singleton.mp hb] at e
        exact hm (e ▸ ha)
    obtain ⟨a, b⟩ := fold_dedup xs (step_dedup acc x) hs.1
    refine ⟨a, fun k => ?_⟩
    rw [List.foldl_cons, b k, hs.2 k, List.mem_cons, or_assoc]
open PyProof.Rows in
theorem firstMet_ded (ns : List Int) : (firstMet (fun i => ns.getD i 0) ns.length).length = (ded ns).length := by
  have e : (List.range ns.length).map (fun i => ns.getD i 0) = ns := by
    refine List.ext_getElem? fun i => ?_
    rw [List.getElem?_map]
    by_cases h : i < ns.length
    · rw [List.getElem?_range h, List.getElem?_eq_getElem h]
      show some (ns.getD i 0) = _
      rw [List.getD_eq_getElem?_getD, List.getElem?_eq_getElem h]
      rfl
    · rw [List.getElem?_eq_none (by rw [List.length_range]; omega), List.getElem?_eq_none (by omega)]
      rfl
  unfold firstMet
  rw [e]
  obtain ⟨a, b⟩ := fold_dedup ns [] .nil
  exact len_ded a fun k => (b k).trans (by simp)
def tLenSetA (K : PySem.W.Frag) (ta : TE) : TE := fun σ H Q => ta σ H fun x H1 => ∃ (l : Addr) (ns : List Int), x = V.ref l ∧ (SqL K H1 l (ns.map V.int) ∨ SqT K H1 l (ns.map V.int)) ∧ ns.length ≤ 1000 ∧ Q (.int ((ded ns).length : Nat)) H1
section
variable {X : Cx} {E : Wh} {a : Expr} {ta : TE} {ma : Env → R D} {p p2 q pos : Pos}
open PyProof.Rows in
theorem pe_lenSetA (hc : X.calm = true) (hg : Gl X "len") (hm : X.mg "len" = none) (hg2 : Gl X "set") (hm2 : X.mg "set" = none) (ha : PE X a ta)
    (na : starEach [a] X.env = [(false, eval a X.env)] := by rfl) : PE X (.Call (.Name "len" p) [.Call (.Name "set" p2) [a] [] q] [] pos) (tLenSetA X.K ta) := by
  constructor
  intro pins s σ H Q I h
  refine Call_ (ld_blt I hg hm PySem.boot_len (PyProof.Rows.callWith_builtin1 (PyProof.Rows.args_cons ?_ rfl) rfl rfl))
  refine Call_ (ld_blt I hg2 hm2 PyProof.Rows.boot_set (PyProof.Rows.callWith_type1 (PyProof.Rows.args_cons (thn (ha.run pins s σ H _ I h) fun v s1 ⟨x, H1, I1, r1, q1⟩ => PyProof.Rows.args_nil ?_) na) na rfl))
  obtain ⟨l, ns, ex, hq, hz, q1⟩ := q1
  subst ex
  cases r1
  have hd := I1.ok.hd hc
  have hle := ded_le ns
  rcases hq with hq | hq
  · obtain ⟨its, r, pl, _⟩ := I1.list hq
    have hl : its.toArray.size = ns.length := by rw [List.size_toArray, ← r.length, List.length_map]
    refine call_set_list hd pl.isList (ns := ns) (by simpa using r.ints) (by unfold scanBound; omega) fun h' tk hS hk => PyProof.Rows.args_nil ?_
    rw [hl, firstMet_ded] at hS
    obtain ⟨o, es, ep, t, ho, hex, hdt, _, _, _, hf, hn⟩ := hS
    have I2 : Inv X pins σ H1 { s1 with heap := h', toks := tk } := I1.kept fun b o e => hk b o (Heap.lt_size e) e
    exact call_len_set ho hex hdt hf (by omega) ⟨.int ((ded ns).length : Nat), H1, I2.tok _, ⟨_, by rw [hn]⟩, q1⟩
  · obtain ⟨its, rv, pt, _⟩ := I1.tuple hq
    have hi : IntsAre its.toArray.toList ns := ints_of_vals rv
    refine call_set_tupI ns hd (show s1.heap.IsTuple l its.toArray from pt) hi (by unfold scanBound; omega) fun h' tk c R1 hcn k => PyProof.Rows.args_nil ?_
    obtain ⟨o, es, ep, t, ho, hex, hdt, g, nd, hm3, hb, hf, hn, _, _⟩ := R1
    have e := len_ded nd fun k => (hm3 k).symm.trans decide_eq_true_iff
    rw [List.length_map, Array.length_toList] at e
    have I2 : Inv X pins σ H1 { s1 with heap := h', toks := tk } := I1.kept k
    exact call_len_set ho hex hdt hf (by omega) ⟨.int ((ded ns).length : Nat), H1, I2.tok _, ⟨_, by rw [e]⟩, q1⟩
def lenSetD : D → R D
  | .lst ds => match intsOf ds with
    | some ns => if ns.length ≤ 1000 then .ok (.int ((ded ns).length : Nat)) else .stuck
    | none => .stuck
  | .tup ds => match intsOf ds with
    | some ns => if ns.length ≤ 1000 then .ok (.int ((ded ns).length : Nat)) else .stuck
    | none => .stuck
  | .scr ns => if ns.length ≤ 1000 then .ok (.int ((ded ns).length : Nat)) else .stuck
  | _ => .stuck
theorem me_lenSet (hc : X.calm = true) (hg : Gl X "len") (hm : X.mg "len" = none) (hg2 : Gl X "set") (hm2 : X.mg "set" = none) (ha : ME X E a ta ma) (na : starEach [a] X.env = [(false, eval a X.env)] := by rfl) :
    ME X E (.Call (.Name "len" p) [.Call (.Name "set" p2) [a] [] q] [] pos) (tLenSetA X.K ta) (fun ρ => o1 lenSetD (ma ρ)) := by
  obtain ⟨pa, sa⟩ := ha
  refine ⟨pe_lenSetA hc hg hm hg2 hm2 pa na, fun σ I H ρ Q re ex h => ?_⟩
  refine sa.run re ex h fun d v I1 H1 _ st rx h9 => ?_
  obtain ⟨z, hz, h9⟩ := out_calm h9
  have fin : ∀ (ds : List D) (vs : List V) (l : Addr), v = .ref l → Reps X.K (gm X E) I1 vs ds → (SqL X.K H1 l vs ∨ SqT X.K H1 l vs) → (match intsOf ds with
    | some ns => if ns.length ≤ 1000 then R.ok (.int ((ded ns).length : Nat)) else .stuck
    | none => .stuck) = R.ok z → ∃ (l : Addr) (ns : List Int), v = V.ref l ∧ (SqL X.K H1 l (ns.map V.int) ∨ SqT X.K H1 l (ns.map V.int)) ∧ ns.length ≤ 1000 ∧ Q (.int ((ded ns).length : Nat)) H1 := fun ds vs l e r hs hz => by
    cases e1 : intsOf ds with
    | none =>
      rw [e1] at hz
      cases hz
    | some ns =>
      rw [e1] at hz
      have hz : (if ns.length ≤ 1000 then R.ok (D.int ((ded ns).length : Nat)) else .stuck) = R.ok z := hz
      by_cases hl : ns.length ≤ 1000
      · rw [if_pos hl] at hz
        cases hz
        obtain ⟨rfl, _⟩ := reps_ints r e1
        exact ⟨l, ns, e, hs, hl, h9 _ _ _ (.refl st.e) (.int _)⟩
      · rw [if_neg hl] at hz
        cases hz
  cases rx with
  | lst hh ra => exact fin _ _ _ rfl ra (.inl (SqL.of (st.e _ _ hh))) hz
  | tup hh ra => exact fin _ _ _ rfl ra (.inr (SqT.of (st.e _ _ hh))) hz
  | @scr a0 ns hh =>
    have hz : (if ns.length ≤ 1000 then R.ok (D.int ((ded ns).length : Nat)) else .stuck) = R.ok z := hz
    by_cases hl : ns.length ≤ 1000
    · rw [if_pos hl] at hz
      cases hz
      exact ⟨a0, ns, rfl, .inl (st.e.seq hh), hl, h9 _ _ _ (.refl st.e) (.int _)⟩
    · rw [if_neg hl] at hz
      cases hz
  | _ => cases hz
end
end DL
namespace DL
open PySem PySem.Spec L2

/-! ### exceptions: a class with an __init__ of its own that keeps its arguments -/
/-- what __init__ promises: the arguments under these names, the last one first -/
def spXI (C : Addr) (fs : List Str) : Sp := fun vs H Q _ => ∃ (a : Addr) (args : List V) (H1 : Hp), vs = .ref a :: args ∧ args.length = fs.length ∧ H1 a = none ∧ H = upd H1 a (exo a C none) ∧
  ∀ d H2, H1 d = none → d ≠ a → H2 a = some (exo a C (some d)) → H2 d = some (exd d (fs.zip args).reverse) → (∀ b, b ≠ a → b ≠ d → H2 b = H1 b) → Q .non H2
/-- its body: self.f = f, .. -/
def tX (K : PySem.W.Frag) : Nat → List Str → TS
  | _, [] => tNext
  | i, [f] => tOst K f (tVar 0) (tVar i)
  | i, f :: fs => tSeq (tOst K f (tVar 0) (tVar i)) (tX K (i + 1) fs)
structure ClX (K : PySem.W.Frag) (C : Addr) (fs : List Str) : Prop where
  t : OexC K C
  n : ∀ f ∈ fs, PySem.W.findIn K (.ref C) f = some none
theorem tX_rest {K : PySem.W.Frag} {C a d : Addr} {all : List Str} (T : ClX K C all) : ∀ (fs : List Str) (args : List V) (i : Nat) (σ : L2.St) (done : List (Str × V)) (H : Hp) (D0 : Ends), fs ≠ [] → (∀ f ∈ fs, f ∈ all) → σ[0]? = some (some (.ref a)) → args.length = fs.length → (∀ j v, args[j]? = some v → σ[i + j]? = some (some v)) →
    d ≠ a → H a = some (exo a C (some d)) → H d = some (exd d done) → done.length + fs.length ≤ 900 →
    (∀ H2, H2 a = some (exo a C (some d)) → H2 d = some (exd d ((fs.zip args).reverse ++ done)) → (∀ b, b ≠ a → b ≠ d → H2 b = H b) → D0.nx σ H2) → tX K i fs D0 σ H
  | [], _, _, _, _, _, _, h, _, _, _, _, _, _, _, _, _ => absurd rfl h
  | [f], [v], i, σ, done, H, D0, _, hf, h0, _, hv, hd, ha, hx, hl, q => by
    refine ⟨v, hv 0 v rfl, .ref a, h0, a, C, rfl, T.t, T.n f (hf f (by simp)), .inr ⟨d, done, ha, hx, by simp at hl; omega, ?_⟩⟩
    refine q _ ?_ upd_same fun b h1 h2 => upd_ne h2
    rw [upd_ne (Ne.symm hd)]
    exact ha
  | f :: g :: fs, v :: args, i, σ, done, H, D0, _, hf, h0, hlen, hv, hd, ha, hx, hl, q => by
    refine ⟨v, hv 0 v rfl, .ref a, h0, a, C, rfl, T.t, T.n f (hf f (by simp)), .inr ⟨d, done, ha, hx, by simp at hl; omega, ?_⟩⟩
    refine tX_rest T (g :: fs) args (i + 1) σ ((f, v) :: done) _ _ (by simp) (fun x hx => hf x (List.mem_cons_of_mem _ hx)) h0 (by simpa using hlen) (fun j v h => ?_) hd (by rw [upd_ne (Ne.symm hd)]; exact ha) upd_same (by simp at hl ⊢; omega) fun H2 e1 e2 e3 => ?_
    · rw [show i + 1 + j = i + (j + 1) from by omega]
      exact hv (j + 1) v h
    · refine q H2 e1 ?_ fun b h1 h2 => (e3 b h1 h2).trans (upd_ne h2)
      rw [e2]
      simp
  | [f], [], _, _, _, _, _, _, _, _, h, _, _, _, _, _, _ => by simp at h
  | [f], _ :: _ :: _, _, _, _, _, _, _, _, _, h, _, _, _, _, _, _ => by simp at h
  | _ :: _ :: _, [], _, _, _, _, _, _, _, _, h, _, _, _, _, _, _ => by simp at h
theorem tX_all {K : PySem.W.Frag} {C a : Addr} {all : List Str} (T : ClX K C all) (args : List V) (σ : L2.St) (H1 : Hp) (D0 : Ends) (hne : all ≠ []) (h0 : σ[0]? = some (some (.ref a))) (hlen : args.length = all.length) (hv : ∀ j v, args[j]? = some v → σ[1 + j]? = some (some v)) (hn : H1 a = none) (hl : all.length ≤ 900)
    (q : ∀ d H2, H1 d = none → d ≠ a → H2 a = some (exo a C (some d)) → H2 d = some (exd d (all.zip args).reverse) → (∀ b, b ≠ a → b ≠ d → H2 b = H1 b) → D0.nx σ H2) : tX K 1 all D0 σ (upd H1 a (exo a C none)) := by
  cases all with
  | nil => exact absurd rfl hne
  | cons f fs =>
    cases args with
    | nil => simp at hlen
    | cons v args =>
      have hd1 : ∀ d, (upd H1 a (exo a C none)) d = none → d ≠ a → H1 d = none := fun d e n => by
        rw [upd_ne n] at e
        exact e
      have key : ∀ (D1 : Ends), (∀ d, H1 d = none → d ≠ a → D1.nx σ (upd (upd (upd H1 a (exo a C none)) d (exd d [(f, v)])) a (exo a C (some d)))) → tOst K f (tVar 0) (tVar 1) D1 σ (upd H1 a (exo a C none)) := fun D1 k =>
        ⟨v, hv 0 v rfl, .ref a, h0, a, C, rfl, T.t, T.n f List.mem_cons_self, .inl ⟨upd_same, fun d e n => k d (hd1 d e n) n⟩⟩
      have other : ∀ d b, b ≠ a → b ≠ d → (upd (upd (upd H1 a (exo a C none)) d (exd d [(f, v)])) a (exo a C (some d))) b = H1 b := fun d b h1 h2 => by
        rw [upd_ne h1, upd_ne h2, upd_ne h1]
      cases fs with
      | nil =>
        have ea : args = [] := by
          cases args with
          | nil => rfl
          | cons _ _ => simp at hlen
        subst ea
        exact key D0 fun d e n => q d _ e n upd_same (by rw [upd_ne n, upd_same]; rfl) (other d)
      | cons g fs =>
        refine key _ fun d e n => ?_
        refine tX_rest T (g :: fs) args 2 σ [(f, v)] _ D0 (by simp) (fun x hx => List.mem_cons_of_mem _ hx) h0 (by simpa using hlen) (fun j v h => ?_) n upd_same (by rw [upd_ne n, upd_same]) (by simp at hl ⊢; omega) fun H2 e1 e2 e3 => ?_
        · rw [show 2 + j = 1 + (j + 1) from by omega]
          exact hv (j + 1) v h
        · refine q d H2 e n e1 ?_ fun b h1 h2 => (e3 b h1 h2).trans (other d b h1 h2)
          rw [e2]
          simp
theorem start_at {N : List Str} {vs : List V} {j : Nat} {v : V} (h : vs[j]? = some v) : (start N vs)[j]? = some (some v) := by
  have hl := (List.getElem?_eq_some_iff.mp h).1
  unfold L2.start
  rw [List.getElem?_append_left (by rw [List.length_map]; exact hl), List.getElem?_map, h]
  rfl
theorem fn_xi {P : Program} {w : World} {K : PySem.W.Frag} {mg : Str → Option Value} {base : Heap} {x qual : Str} {st : Stmt} {f C : Addr} {fd : FuncData} {N ps fs : List Str} {k : Nat} (F : Fun K x qual st f fd) (S : FnScope N ps (defScope st)) (hps : ps.length = fs.length + 1) (T : ClX K C fs) (hne : fs ≠ []) (hl : fs.length ≤ 900)
    (hb : ∀ (cdv : Value) (A : Around) (outer : List PySem.Env) (s : Shared) (H : Hp) (E : XK), PSs (cxOf CX0 P w K mg base N qual (defScope st) f cdv A outer s H E).nox (defBody st) (tX K 1 fs)) : FnOk P w K mg base CX0 (k + 1) f fd ps (spXI C fs) := by
  refine F.ok S (fun vs H Q E h => ?_) (fun cdv A outer s H vs Q E hr h => ?_)
  · obtain ⟨a, args, H1, rfl, hl, _⟩ := h
    rw [hps, List.length_cons, hl]
  · obtain ⟨a, args, H1, rfl, hlen, hn, rfl, q⟩ := h
    refine ⟨_, hb cdv A outer s _ E, tX_all T args _ H1 _ hne (start_at rfl) hlen (fun j v h => start_at ?_) hn hl fun d H2 e n e1 e2 e3 => q d H2 e n e1 e2 e3⟩
    rw [Nat.add_comm]
    exact h
/-- raise X(e, ..) -/
def raiseS (n : Str) (fs : List Str) (r : R (List D)) : R Fl := r >>= fun ds => if ds.length = fs.length ∧ fs.length ≤ 900 then .err n [.obj n fs.reverse ds.reverse] else .stuck
theorem zip_fst {args : List V} : ∀ {fs : List Str}, args.length = fs.length → (fs.zip args).reverse.map (·.1) = fs.reverse := fun {fs} h => by
  rw [List.map_reverse, List.map_fst_zip (by omega)]
theorem zip_snd {args : List V} : ∀ {fs : List Str}, args.length = fs.length → (fs.zip args).reverse.map (·.2) = args.reverse := fun {fs} h => by
  rw [List.map_reverse, List.map_snd_zip (by omega)]
theorem ms_raise {X : Cx} {E : XK} {Mb M M' : List Nat} {CX' : CXT} {x : Str} {C fI : Addr} {k : Nat} {fd : FuncData} {ps fs : List Str} {e : Expr} {es : List Expr} {tas : TA} {ms : Env → R (List D)} {p pos pos' : Pos} (hc : X.calm = true) (tk : Takes X (fun cls d _ H => E cls d H)) (T : ClX X.K C fs) (iC : PySem.W.findIn X.K (.ref C) "__init__" = some (some (.ref fI))) (tI : PySem.W.typeIn X.K (.ref fI) = some (.type "function"))
    (F1 : FnOk X.prog X.w X.K X.mg X.base CX' k fI fd ps (spXI C fs)) (hr : Room (k + 1) X.A) (hb : Binds X.K fd ps []) (hx : Passes CX' X (fun _ _ _ => False)) (hg : Gl X x) (hm : X.mg x = some (.ref C)) (ha : MA X (kE E) (e :: es) tas ms)
    (hdb : (x == ("__debug__" : Str)) = false := by decide) (he : starEach (e :: es) X.env = (false, eval e X.env) :: starEach es X.env := by rfl) (hpl : (backTo pos (starEach es X.env)).any (·.1) = false := by rfl) :
    MS X E Mb M M' (.Raise (some (.Call (.Name x p) (e :: es) [] pos)) none pos') (fun _ σ H => tMkO C (spXI C fs) [] tas σ H fun cls d H' => E cls d H') (fun ρ => raiseS x fs (ms ρ)) :=
  ⟨ps_raise hc tk (pmk_oex T.t iC tI F1 hr hb .nil hx hg hm ha.pe hdb he hpl), fun Ie He σ I H ρ D0 s h => ha.sn.weak (k := fun ds => if ds.length = fs.length ∧ fs.length ≤ 900 then .err x [.obj x fs.reverse ds.reverse] else .stuck) s h fun ds vs I1 H1 s1 st r q => by
    obtain ⟨⟨hl, hl9⟩, q⟩ := outS_if q
    have hvl : vs.length = fs.length := r.len.trans hl
    refine ⟨by omega, fun a hn => ⟨a, vs, H1, by rw [List.append_nil], hvl, hn, rfl, fun d H2 hd hne e1 e2 e3 => ⟨rfl, d, _, e1, e2, hd, ?_⟩⟩⟩
    have k1 : ∀ b o, H1 b = some o → (upd (del H2 a) d (.xd (fs.zip vs).reverse)) b = some o := fun b o hb => by
      have n1 : b ≠ a := fun z => by subst z; rw [hn] at hb; cases hb
      have n2 : b ≠ d := fun z => by subst z; rw [hd] at hb; cases hb
      rw [upd_ne n2, del_ne n1, e3 b n1 n2]
      exact hb
    have k2 : Same I1 (upd I1 d (.xd (fs.zip vs).reverse)) := fun b o hb => by
      rw [upd_ne (fun z => by subst z; rw [st.e _ _ hb] at hd; cases hd)]
      exact hb
    have q : ∀ C od I H, Stp Ie.1 He I H → XRep X.K (g0 X.mg) I H x [.obj x fs.reverse ds.reverse] C od → E C od H := q
    refine q (.ref C) (some d) (upd I1 d (.xd (fs.zip vs).reverse)) _ ⟨st.i.trans k2, fun b o hb => k1 b o (st.h b o hb), fun b o hb => ?_, fun b o hb => ?_⟩ ⟨⟨hm, C, rfl⟩, d, _, ds.reverse, rfl, upd_same, by rw [zip_fst hvl], ?_⟩
    · by_cases z : b = d
      · subst z
        rw [upd_same] at hb ⊢
        exact hb
      · rw [upd_ne z] at hb
        exact k1 b o (st.e b o hb)
    · by_cases z : b = d
      · subst z
        cases y : He b with
        | none => exact .inr (.inl y)
        | some o =>
          rw [st.h _ _ y] at hd
          cases hd
      · rw [upd_ne z] at hb
        exact st.f b o hb
    · rw [zip_snd hvl]
      exact r.rev.mono k2⟩
end DL
namespace DL
open PySem PySem.Spec L2

/-! ### defs that may raise: an error goes out -/
def runX (n : Nat) (ms : Env → R Fl) (ds : List D) : R D := ms (startE n ds) >>= endD
theorem runX_rt {n : Nat} {ms : Env → R Fl} {ds : List D} {d : D} (h : ms (startE n ds) = .ok (.rt d)) : runX n ms ds = .ok d := by
  unfold runX
  rw [h]
  rfl
theorem runX_err {n : Nat} {ms : Env → R Fl} {ds : List D} {x : Str} {es : List D} (h : ms (startE n ds) = .err x es) : runX n ms ds = .err x es := by
  unfold runX
  rw [h]
  rfl
/-- a new list of one's own is data from now on -/
theorem stp_put {K : PySem.W.Frag} {mg : Gm} {I0 H0 I H : Hp} {p : Addr} {vs : List V} {ds : List D} (s : Stp I0 H0 I H) (n : I p = none) (n0 : H0 p = none) (hp : H p = some (.lst vs)) (r : Reps K mg I vs ds) : Stp I0 H0 (upd I p (.lst vs)) H ∧ Rep K mg (upd I p (.lst vs)) (.ref p) (.lst ds) := by
  have k : Same I (upd I p (.lst vs)) := fun a o h => by
    rw [upd_ne (fun z => by subst z; rw [n] at h; cases h)]
    exact h
  refine ⟨⟨s.i.trans k, s.h, fun a o h => ?_, fun a o h => ?_⟩, .lst upd_same (r.mono k)⟩
  · by_cases z : a = p
    · subst z
      rw [upd_same] at h
      cases h
      exact hp
    · rw [upd_ne z] at h
      exact s.e a o h
  · by_cases z : a = p
    · subst z
      exact .inr (.inl n0)
    · rw [upd_ne z] at h
      exact s.f a o h
theorem fn_mirX {P : Program} {w : World} {K : PySem.W.Frag} {mg : Str → Option Value} {base : Heap} {x qual : Str} {st : Stmt} {f : Addr} {fd : FuncData} {N ps : List Str} {k : Nat} {M M' : List Nat} {ms : Env → R Fl} (F : Fun K x qual st f fd) (S : FnScope N ps (defScope st)) (hM : ∀ i ∈ M, ps.length ≤ i)
    (hb : ∀ (cdv : Value) (A : Around) (outer : List PySem.Env) (s : Shared) (H : Hp) (E : XK), Room k (A.deeper (PyProof.Rows.envOfC qual (defScope st) s.heap.objs.size f cdv)) →
      ∃ ts, MSs (cxOf (L2.CX P w) P w K mg base N qual (defScope st) f cdv A outer s H E) E [] M M' (defBody st) ts ms) : FnOk P w K mg base (L2.CX P w) (k + 1) f fd ps (spOf K (g0 mg) ps.length (runX N.length ms)) := by
  refine F.okX S (fun vs H Q E h => spOf.len h) (fun cdv A outer s H vs Q E hr h => ?_)
  obtain ⟨I, ds, hl, ex, rs, h⟩ := h
  obtain ⟨ts, hp⟩ := hb cdv A outer s H E hr
  refine ⟨ts, hp.pe, hp.sn (I, 0) H _ I H _ _ (start_SE ex rs (by rw [hl]; exact hM)) ?_⟩
  unfold runX at h
  cases e : ms (startE N.length ds) with
  | err nm es =>
    rw [e] at h
    exact h
  | stuck =>
    rw [e] at h
    exact h.elim
  | ok fl =>
    rw [e] at h
    cases fl with
    | nx ρ => exact fun σ I1 H1 s1 _ => h .non I1 H1 s1.st .non
    | rt d => exact fun v I1 H1 s1 r => h v I1 H1 s1 r
    | bk ρ => exact h.elim
    | rf es =>
      intro p vs I1 H1 s1 n1 n2 hp r
      obtain ⟨s2, r2⟩ := stp_put s1 n1 n2 hp r
      exact h _ _ H1 s2 r2
    | ct ρ => exact h.elim
structure KnX (P : Program) (w : World) (K : PySem.W.Frag) (mg : Str → Option Value) (base : Heap) (x : Str) (k n : Nat) (g : List D → R D) : Prop where
  ex : ∃ f fd ps, FnOk P w K mg base (L2.CX P w) k f fd ps (spOf K (g0 mg) n g) ∧ mg x = some (.ref f) ∧ PySem.W.keepIn K (.ref f) = true ∧ Binds K fd ps []
theorem KnX.mk' {P : Program} {w : World} {K : PySem.W.Frag} {mg : Str → Option Value} {base : Heap} {x : Str} {st : Stmt} {N ps : List Str} {k : Nat} {M M' : List Nat} {ms : Env → R Fl} (F : FnAt K mg x st ps) (S : FnScope N ps (defScope st)) (hM : ∀ i ∈ M, ps.length ≤ i)
    (hb : ∀ (f : Addr) (cdv : Value) (A : Around) (outer : List PySem.Env) (s : Shared) (H : Hp) (E : XK), Room k (A.deeper (PyProof.Rows.envOfC x (defScope st) s.heap.objs.size f cdv)) →
      ∃ ts, MSs (cxOf (L2.CX P w) P w K mg base N x (defScope st) f cdv A outer s H E) E [] M M' (defBody st) ts ms) : KnX P w K mg base x (k + 1) ps.length (runX N.length ms) := by
  obtain ⟨f, fd, F, g, b⟩ := F.ex
  exact ⟨f, fd, ps, fn_mirX F S hM (hb f), g, F.kp, b⟩
/-- nothing is known -/
theorem KnX.stuck {P : Program} {w : World} {K : PySem.W.Frag} {mg : Str → Option Value} {base : Heap} {x : Str} {st : Stmt} {ps : List Str} {k n : Nat} (F : FnAt K mg x st ps) : KnX P w K mg base x k n (fun _ => .stuck) := by
  obtain ⟨f, fd, F, g, b⟩ := F.ex
  refine ⟨f, fd, ps, ⟨fun vs H Q E h => ?_, fun A outer s H args us vs Q E _ _ _ _ h => ?_⟩, g, F.kp, b⟩
  · obtain ⟨_, _, _, _, _, h⟩ := h
    exact h.elim
  · obtain ⟨_, _, _, _, _, h⟩ := h
    exact h.elim
/-- a call: what the callee lets out goes the same way -/
theorem me_callX {X : Cx} {E : Wh} {P : Program} {w : World} {K : PySem.W.Frag} {mg : Str → Option Value} {base : Heap} {k j n : Nat} {g : List D → R D} {x : Str} {p pos : Pos} {e : Expr} {es : List Expr} {tas : TA} {ms : Env → R (List D)} (F : KnX P w K mg base x k n g) (hr : Room j X.A) (hx : ∀ σ, PassesAt (L2.CX X.prog X.w) X σ (E.e σ)) (hg : Gl X x) (ha : MA X E (e :: es) tas ms) (h0 : E.x = fun _ => none := by rfl) (hj : k ≤ j := by first | decide | omega)
    (hP : X.prog = P := by rfl) (hw : X.w = w := by rfl) (hK : X.K = K := by rfl) (hm : X.mg = mg := by rfl) (hb : X.base = base := by rfl)
    (hdb : (x == ("__debug__" : Str)) = false := by decide) (he : starEach (e :: es) X.env = (false, eval e X.env) :: starEach es X.env := by rfl) (hpl : (backTo pos (starEach es X.env)).any (·.1) = false := by rfl) :
    ME X E (.Call (.Name x p) (e :: es) [] pos) (tCallS (spOf K (g0 mg) n g) E.e tas) (fun ρ => call_ n g (ms ρ)) := by
  subst hP hw hK hm hb
  obtain ⟨f, fd, ps, F, hm, hk, hb⟩ := F.ex
  exact me_call F (hr.mono hj) hg hm hk hb hx h0 ha hdb he hpl
theorem px {X : Cx} {E : XK} (tk : Takes X (fun cls d _ H => E cls d H)) : ∀ σ, PassesAt (L2.CX X.prog X.w) X σ ((kE E).e σ) := fun σ => passAt (W := fun cls d _ H => E cls d H) tk σ
/-- within a comprehension -/
theorem pxL {X : Cx} {E : Wh} : ∀ σ, PassesAt (L2.CX X.prog X.w) X σ (E.calm.e σ) := fun σ pins H s e s' I c => passL pins σ H s e s' I c
theorem cx_no {P : Program} {w : World} {outer : List PySem.Env} {H : Hp} {s s' : Shared} {e : Value} (h : L2.CX P w outer H s (fun _ _ _ => False) e s') : False := by
  obtain ⟨_, _, _, _, _, _, _, _, _, _, _, _, z⟩ := h
  exact z
/-- an exception class of the text's own -/
structure XcAt (P : Program) (w : World) (K : PySem.W.Frag) (mg : Str → Option Value) (base : Heap) (x : Str) (C : Addr) (fs : List Str) : Prop where
  m : mg x = some (.ref C)
  c : ClX K C fs
  ex : ∃ fI fd ps, PySem.W.findIn K (.ref C) "__init__" = some (some (.ref fI)) ∧ PySem.W.typeIn K (.ref fI) = some (.type "function") ∧ FnOk P w K mg base CX0 1 fI fd ps (spXI C fs) ∧ Binds K fd ps []
theorem ms_raiseX {X : Cx} {E : XK} {Mb M M' : List Nat} {P : Program} {w : World} {K : PySem.W.Frag} {mg : Str → Option Value} {base : Heap} {x : Str} {C : Addr} {j : Nat} {fs : List Str} {e : Expr} {es : List Expr} {tas : TA} {ms : Env → R (List D)} {p pos pos' : Pos} (T : XcAt P w K mg base x C fs) (tk : Takes X (fun cls d _ H => E cls d H)) (hr : Room j X.A) (hg : Gl X x) (ha : MA X (kE E) (e :: es) tas ms) (hc : X.calm = true := by rfl) (hj : 2 ≤ j := by decide)
    (hP : X.prog = P := by rfl) (hw : X.w = w := by rfl) (hK : X.K = K := by rfl) (hm : X.mg = mg := by rfl) (hb : X.base = base := by rfl)
    (hdb : (x == ("__debug__" : Str)) = false := by decide) (he : starEach (e :: es) X.env = (false, eval e X.env) :: starEach es X.env := by rfl) (hpl : (backTo pos (starEach es X.env)).any (·.1) = false := by rfl) :
    MS X E Mb M M' (.Raise (some (.Call (.Name x p) (e :: es) [] pos)) none pos') (fun _ σ H => tMkO C (spXI C fs) [] tas σ H fun cls d H' => E cls d H') (fun ρ => raiseS x fs (ms ρ)) := by
  subst hP hw hK hm hb
  obtain ⟨fI, fd, ps, h1, h2, h3, h4⟩ := T.ex
  exact ms_raise hc tk T.c h1 h2 h3 (hr.mono hj) h4 pass0 hg T.m ha hdb he hpl
end DL
namespace DL
open PySem PySem.Spec L2

/-! ### a class of one's own: what __init__ makes of a new object -/
def endI : Fl → R D
  | .nx ρ => match (ρ : List (Option D))[0]? with
    | some (some (D.obj n ks ds)) => .ok (.obj n ks ds)
    | _ => .stuck
  | _ => .stuck
theorem endI_nx (ρ : Env) : (∃ n ks ds, endI (.nx ρ) = .ok (.obj n ks ds) ∧ (ρ : List (Option D))[0]? = some (some (.obj n ks ds))) ∨ endI (.nx ρ) = .stuck := by
  cases q : (ρ : List (Option D))[0]? with
  | none => exact .inr (by simp only [endI, q])
  | some o =>
    cases o with
    | none => exact .inr (by simp only [endI, q])
    | some d =>
      cases d with
      | obj n ks ds => exact .inl ⟨n, ks, ds, by simp only [endI, q], rfl⟩
      | _ => exact .inr (by simp only [endI, q])
def runI (n : Nat) (nm : Str) (ms : Env → R Fl) (ds : List D) : R D := ms (some (.obj nm [] []) :: startE (n - 1) ds) >>= endI
def spMk (K : PySem.W.Frag) (mg : Str → Option Value) (nm : Str) (n : Nat) (g : List D → R D) : Sp := fun vs H Q E => ∃ (I H0 : Hp) (x dx C : Addr) (ws : List V) (ds : List D), vs = .ref x :: ws ∧ ds.length = n ∧ mg nm = some (.ref C) ∧ H0 x = none ∧ H0 dx = none ∧ dx ≠ x ∧
  H = upd (upd H0 dx (.own x)) x (.ins C dx []) ∧ Same I H0 ∧ Reps K (g0 mg) I ws ds ∧ Out K (g0 mg) E (fun I' (v : V) d => v = .non ∧ Rep K (g0 mg) I' (.ref x) d) I H0 (g ds) Q
theorem startE_get {n : Nat} {ds : List D} {i : Nat} {d : D} (q : (startE n ds)[i]? = some (some d)) : i < ds.length ∧ ds[i]? = some d := by
  unfold startE at q
  by_cases hi : i < ds.length
  · rw [List.getElem?_append_left (by rw [List.length_map]; exact hi), List.getElem?_map] at q
    refine ⟨hi, ?_⟩
    cases z : ds[i]? with
    | none =>
      rw [z] at q
      cases q
    | some e =>
      rw [z] at q
      cases q
      rfl
  · rw [List.getElem?_append_right (by rw [List.length_map]; omega), List.getElem?_replicate] at q
    split at q <;> cases q
theorem start_SEI {K : PySem.W.Frag} {mg : Gm} {M : List Nat} {I H0 : Hp} {N : List Str} {ws : List V} {ds : List D} {x dx C : Addr} {nm : Str} (ex : Same I H0) (rs : Reps K mg I ws ds) (hM : ∀ i ∈ M, i = 0 ∨ ds.length + 1 ≤ i) (h0 : 0 ∈ M) (hD0 : deep M 0 = false) (hc : mg nm = some (.ref C)) (n1 : H0 x = none) (n2 : H0 dx = none) (hd : dx ≠ x) :
    SE K mg M (I, x) H0 (start N (.ref x :: ws)) I (upd (upd H0 dx (.own x)) x (.ins C dx [])) (some (.obj nm [] []) :: startE (N.length - 1) ds) := by
  have k : Same H0 (upd (upd H0 dx (.own x)) x (.ins C dx [])) := fun b o hb => by
    rw [upd_ne (fun z => by subst z; rw [n1] at hb; cases hb), upd_ne (fun z => by subst z; rw [n2] at hb; cases hb)]
    exact hb
  have own0 : ∀ (i : Nat) (d : D), i ∈ M → (some (D.obj nm [] []) :: startE (N.length - 1) ds)[i]? = some (some d) → i = 0 ∧ d = .obj nm [] [] := fun i d hi q => by
    cases i with
    | zero =>
      cases q
      exact ⟨rfl, rfl⟩
    | succ j =>
      have := (startE_get (show (startE (N.length - 1) ds)[j]? = some (some d) from q)).1
      rcases hM _ hi with z | z
      · cases z
      · omega
  have s0 : (start N (V.ref x :: ws))[0]? = some (some (.ref x)) := start_at rfl
  refine ⟨⟨.refl _, k, ex.trans k, fun _ _ z => .inl z⟩, ?_, fun i d hi q => ?_, fun i d hi q => ?_, fun i j p p9 d e hi hj hne q1 q2 => ?_, fun i d p hi q g _ => ?_⟩
  · unfold L2.start startE
    rw [List.length_append, List.length_map, List.length_replicate, List.length_cons, List.length_cons, List.length_append, List.length_map, List.length_replicate, rs.len]
    omega
  · cases i with
    | zero => exact absurd h0 hi
    | succ j =>
      obtain ⟨_, hd⟩ := startE_get (show (startE (N.length - 1) ds)[j]? = some (some d) from q)
      obtain ⟨v, hv, r⟩ := rs.get hd
      exact ⟨v, start_at hv, r⟩
  · obtain ⟨rfl, rfl⟩ := own0 i d hi q
    exact ⟨x, _, s0, ex.free n1, n1, upd_same, .mk (OwnR.ins (fs := []) hc .nil) hD0⟩
  · obtain ⟨rfl, _⟩ := own0 i d hi q1
    obtain ⟨rfl, _⟩ := own0 j e hj q2
    exact absurd rfl hne
  · obtain ⟨rfl, _⟩ := own0 i d hi q
    rw [s0] at g
    cases g
    rfl
theorem fn_mirI {P : Program} {w : World} {K : PySem.W.Frag} {mg : Str → Option Value} {base : Heap} {x qual nm : Str} {st : Stmt} {f : Addr} {fd : FuncData} {N ps : List Str} {k n : Nat} {M : List Nat} {ms : Env → R Fl} (F : Fun K x qual st f fd) (S : FnScope N ps (defScope st)) (hp : ps.length = n + 1) (hM : ∀ i ∈ M, i = 0 ∨ n + 1 ≤ i) (h0 : 0 ∈ M) (hD0 : deep M 0 = false)
    (hb : ∀ (cdv : Value) (A : Around) (outer : List PySem.Env) (s : Shared) (H : Hp) (E : XK), Room k (A.deeper (PyProof.Rows.envOfC qual (defScope st) s.heap.objs.size f cdv)) →
      ∃ ts, MSs (cxOf (L2.CX P w) P w K mg base N qual (defScope st) f cdv A outer s H E) E [] M M (defBody st) ts ms) : FnOk P w K mg base (L2.CX P w) (k + 1) f fd ps (spMk K mg nm n (runI N.length nm ms)) := by
  refine F.okX S (fun vs H Q E h => ?_) (fun cdv A outer s H vs Q E hr h => ?_)
  · obtain ⟨I, H0, x, dx, C, ws, ds, rfl, hl, _, _, _, _, _, _, rs, _⟩ := h
    rw [hp, List.length_cons, rs.len, hl]
  · obtain ⟨I, H0, x, dx, C, ws, ds, rfl, hl, hc, n1, n2, hd, rfl, ex, rs, h⟩ := h
    obtain ⟨ts, hq⟩ := hb cdv A outer s _ E hr
    refine ⟨ts, hq.pe, hq.sn (I, x) H0 _ I _ _ _ (start_SEI (nm := nm) ex rs (by rw [hl]; exact hM) h0 hD0 hc n1 n2 hd) ?_⟩
    unfold runI at h
    cases e : ms (some (.obj nm [] []) :: startE (N.length - 1) ds) with
    | err em es =>
      rw [e] at h
      exact h
    | stuck =>
      rw [e] at h
      exact h.elim
    | ok fl =>
      rw [e] at h
      cases fl with
      | nx ρ =>
        intro σ I1 H1 s1 _
        have h : Out K (g0 mg) E (fun I' (v : V) d => v = .non ∧ Rep K (g0 mg) I' (.ref x) d) I H0 (endI (.nx ρ)) Q := h
        rcases endI_nx ρ with ⟨m, ks, es, e2, q⟩ | e2
        · rw [e2] at h
          obtain ⟨p, o, g2, _⟩ := s1.own_ 0 _ h0 q
          have hp : p = x := s1.slf 0 _ p h0 q g2 rfl
          obtain ⟨I2, _, s2⟩ := s1.all
          obtain ⟨v, g3, r⟩ := s2.imm 0 _ (by simp) q
          rw [g2] at g3
          cases g3
          subst hp
          exact h .non I2 H1 s2.st ⟨rfl, r⟩
        · rw [e2] at h
          exact h.elim
      | rt d => exact h.elim
      | bk ρ => exact h.elim
      | rf ds => exact h.elim
      | ct ρ => exact h.elim
/-- a class of the text's own as it stands under its name -/
structure CkAt (P : Program) (w : World) (K : PySem.W.Frag) (mg : Str → Option Value) (base : Heap) (x : Str) (C : Addr) (k n : Nat) (g : List D → R D) : Prop where
  m : mg x = some (.ref C)
  ex : ∃ fI fd ps, Mk K C fI ∧ FnOk P w K mg base (L2.CX P w) k fI fd ps (spMk K mg x n g) ∧ Binds K fd ps []
/-- X(e, ..) where the wish goes by the slots -/
theorem run_makeS {X : Cx} {CX : CXT} {k : Nat} {f C : Addr} {fd : FuncData} {ps : List Str} {sp : Sp} {E : XK} {pins : List (Addr × Obj)} {σ : L2.St} {H : Hp} {s : Shared} {Q : VK} {us : List Value} {vs : List V} (M : Mk X.K C f) (F : FnOk X.prog X.w X.K X.mg X.base CX k f fd ps sp) (hr : Room (k + 1) X.A) (hb : Binds X.K fd ps []) (hx : PassesAt CX X σ E) (I : L2.Inv X pins σ H s) (r : Vals vs us)
    (h : ∀ x dx, H x = none → H dx = none → dx ≠ x → sp (.ref x :: vs) (upd (upd H dx (.own x)) x (.ins C dx [])) (fun v H2 => v = .non ∧ Q (.ref x) H2) E) : wpAny (model X.prog X.w) X.A (call (.ref C) us) (EP X pins σ Q) X.xe s := by
  have hq := h (s.heap.objs.size + 1) s.heap.objs.size (HOk.fresh I.hok (Nat.le_succ _)) (HOk.fresh I.hok (Nat.le_refl _)) (Nat.ne_of_lt (Nat.lt_succ_self _))
  have I2 := Inv.made (C := C) I
  have r2 : Vals (.ref (s.heap.objs.size + 1) :: vs) (.ref (s.heap.objs.size + 1) :: us) := Paired.cons rfl r
  have hl : (Value.ref (s.heap.objs.size + 1) :: us).length = ps.length := by
    rw [← Vals.length r2]
    exact F.len _ _ _ _ hq
  refine wpAny_call (make_map (Inv.kIn I) M.makes M.init (beq_iff_eq.mp M.fn) (codeAny_mono (F.run _ X.stack _ _ ⟨.ref (s.heap.objs.size + 1) :: us, []⟩ _ _ _ E (Room.make hr C us []) (Env0.make (Inv.env0 I2) C us []) (hb _ _ (Inv.kIn I2) (by rw [List.append_nil]; exact hl)) (by rw [List.append_nil]; exact r2) hq) fun r s' hq' => ?_))
  cases r with
  | error e => exact hx pins _ _ e s' I2 hq'
  | ok fl =>
    cases fl with
    | ret u =>
      obtain ⟨v, H', I3, rv, ev, q3⟩ := Inv.after I2 hq'
      subst ev
      exact ⟨rv, V.ref (s.heap.objs.size + 1), H', I3, rfl, q3⟩
    | _ => exact hq'.elim
def tMakeS (C : Addr) (sp : Sp) (E : XS) (t : TA) : TE := fun σ H Q => t σ H fun vs H1 => ∀ x dx, H1 x = none → H1 dx = none → dx ≠ x → sp (.ref x :: vs) (upd (upd H1 dx (.own x)) x (.ins C dx [])) (fun v H2 => v = .non ∧ Q (.ref x) H2) (E σ)
theorem pe_makeS {X : Cx} {CX : CXT} {k : Nat} {f C : Addr} {fd : FuncData} {ps : List Str} {sp : Sp} {E : XS} {x : Str} {p pos : Pos} {e : Expr} {es : List Expr} {t : TA} (M : Mk X.K C f) (F : FnOk X.prog X.w X.K X.mg X.base CX k f fd ps sp) (hr : Room (k + 1) X.A) (hg : Gl X x) (hm : X.mg x = some (.ref C)) (hb : Binds X.K fd ps []) (hx : ∀ σ, PassesAt CX X σ (E σ)) (ha : PA X (e :: es) t)
    (hdb : (x == ("__debug__" : Str)) = false := by decide) (he : starEach (e :: es) X.env = (false, eval e X.env) :: starEach es X.env := by rfl) (hpl : (backTo pos (starEach es X.env)).any (·.1) = false := by rfl) : PE X (.Call (.Name x p) (e :: es) [] pos) (tMakeS C sp E t) :=
  ⟨fun pins s σ H Q I h => by
    refine wpAny_Call_Name_kw (ld_glob I hg hm ?_ hdb)
    refine PySem.W.callWith_K (h₀ := X.base) I.ok.mod.kin M.kp (thn (ha.run pos pins s σ H _ I h) fun us s1 hh => ?_) he hpl
    obtain ⟨vs, H1, I1, r, q⟩ := hh
    exact ⟨I1.kIn, run_makeS M F hr hb (hx σ) I1 r q⟩⟩
/-- X(e, ..) -/
theorem me_make {X : Cx} {E : Wh} {P : Program} {w : World} {K : PySem.W.Frag} {mg : Str → Option Value} {base : Heap} {C : Addr} {k j n : Nat} {g : List D → R D} {x : Str} {p pos : Pos} {e : Expr} {es : List Expr} {tas : TA} {ms : Env → R (List D)} (F : CkAt P w K mg base x C k n g) (hr : Room j X.A) (hx : ∀ σ, PassesAt (L2.CX X.prog X.w) X σ (E.e σ)) (hg : Gl X x) (ha : MA X E (e :: es) tas ms) (h0 : E.x = fun _ => none := by rfl) (hj : k + 1 ≤ j := by decide)
    (hP : X.prog = P := by rfl) (hw : X.w = w := by rfl) (hK : X.K = K := by rfl) (hm : X.mg = mg := by rfl) (hb : X.base = base := by rfl)
    (hdb : (x == ("__debug__" : Str)) = false := by decide) (he : starEach (e :: es) X.env = (false, eval e X.env) :: starEach es X.env := by rfl) (hpl : (backTo pos (starEach es X.env)).any (·.1) = false := by rfl) :
    ME X E (.Call (.Name x p) (e :: es) [] pos) (tMakeS C (spMk K mg x n g) E.e tas) (fun ρ => call_ n g (ms ρ)) := by
  subst hP hw hK hm hb
  obtain ⟨E1, E2⟩ := E
  have h0 : E2 = fun _ => none := h0
  subst h0
  obtain ⟨fI, fd, ps, M, F1, hb⟩ := F.ex
  obtain ⟨pt, st⟩ := ha
  refine ⟨pe_makeS M F1 (hr.mono hj) hg F.m hb hx pt hdb he hpl, fun σ I H ρ Q re ex h => ?_⟩
  refine st.run re ex h fun ds vs I1 H1 _ s1 rs h => ?_
  obtain ⟨hl, h⟩ := out_if h
  intro x0 dx n1 n2 hd
  refine ⟨I1, H1, x0, dx, C, vs, ds, rfl, hl, F.m, n1, n2, hd, rfl, s1.e, rs, ?_⟩
  cases e1 : g ds with
  | ok d =>
    rw [e1] at h
    intro v I' H' t ⟨hv, r⟩
    exact ⟨hv, h _ I' H' t r⟩
  | err em es =>
    rw [e1] at h
    exact h
  | stuck =>
    rw [e1] at h
    exact h.elim
end DL
namespace DL
open PySem PySem.Spec L2

/-! ### several clauses, each with a name -/
/-- the suites' ends: the name's slot is empty behind them -/
def endsAs (i : Nat) (D : Ends) : Ends := { nx := fun σ' H' => D.nx (σ'.set i none) H', rt := D.rt, bk := fun σ' H' => D.bk (σ'.set i none) H', ct := fun σ' H' => D.ct (σ'.set i none) H' }
def wAss (K : PySem.W.Frag) (Wout : WX) (D : Ends) : List (Nat × Value × (Addr → Value → Option Addr → TS)) → WX
  | [] => Wout
  | (i, c, ts) :: r => fun cls d σ H => ∃ b, PySem.W.exmOne K cls c = some b ∧ (b = true → ∀ a, H a = none → ts a cls d (endsAs i D) (σ.set i (some (.ref a))) H) ∧ (b = false → wAss K Wout D r cls d σ H)
inductive AsOk (X : Cx) : List ExceptHandler → List (Nat × Value × (Addr → Value → Option Addr → TS)) → Prop
  | nil : AsOk X [] []
  | cons {x n : Str} {c : Value} {i : Nat} {ts : Addr → Value → Option Addr → TS} {b₀ : Stmt} {suite : List Stmt} {np pos' : Pos} {hds : List ExceptHandler} {l : List (Nat × Value × (Addr → Value → Option Addr → TS))} (hc : Names X x c) (hi : X.N[i]? = some n) (hln : X.env.kindOf n = some .local)
      (hsu : ∀ (a : Addr) (oe : Obj) (cls : Value) (d : Option Addr) (pn : List (Addr × Obj)), Zc cls d oe → (∃ vs, oe.data = .fields vs) → PSs (X.suite a ((a, oe) :: pn)) (b₀ :: suite) (ts a cls d)) (r : AsOk X hds l) :
      AsOk X (.ExceptHandler (some (.Name x np)) (some n) (b₀ :: suite) pos' :: hds) ((i, c, ts) :: l)
theorem ps_try_ass {X : Cx} {body : List Stmt} {h₀ : ExceptHandler} {hds : List ExceptHandler} {l : List (Nat × Value × (Addr → Value → Option Addr → TS))} {pos : Pos} {tb : WX → TS} {Wout : WX} (hs : X.stack = X.env :: X.outer) (hf : X.env.frame = some X.env.locals) (hN : X.N.Nodup) (tk : Takes X Wout)
    (hb : ∀ (W : WX) (pn : List (Addr × Obj)) (xe : Value → Shared → Prop), Takes (X.tr pn xe) W → PassesOwn (model X.prog X.w) X.A X.env xe → PSs (X.tr pn xe) body (tb W)) (hh : AsOk X (h₀ :: hds) l) :
    PS X (.Try body (h₀ :: hds) [] [] pos) (fun D σ H => tb (wAss X.K Wout D l) D σ H) := by
  refine ⟨fun pins s σ H D I h => ?_⟩
  have ok := I.ok
  have hfr := ok.frames
  rw [hs] at hfr
  refine wpAny_Try_except (wpAny_mono ((hb (wAss X.K Wout D l) (X.pn ++ pins) (fun e s₁ => wpAny (model X.prog X.w) X.A (noteFrame e X.env) (fun _ s₂ => wpAny (model X.prog X.w) X.A (setFlight e none) (fun _ s₃ => wpAny (model X.prog X.w) X.A (handleBy e X.env (h₀ :: hds)) (SP X pins D) X.xe s₃) X.xe s₂) X.xe s₁) (fun u s' xx => ?_) PassesOwn.looking).run [] s σ H D (Inv.toTry I _) h) (fun f s1 hsp => ?_) (fun e s1 he => he))
  · obtain ⟨a, B, sI, pins', σ', H', cls, d, rfl, J', nb, up, sky, na, os, ag, w⟩ := xx
    have J := Inv.ofTry J' ok
    have sky' := sky
    rw [show (X.tr (X.pn ++ pins) _).stack = X.stack from rfl, hs] at sky'
    refine Sky.land Zc.steady hfr hf sky' fun h3 fl3 up3 => ?_
    have J3 : L2.Inv X pins σ' H' { heap := h3, gens := s'.gens, drawn := s'.drawn, toks := s'.toks, os := s'.os } := Inv.landed J nb fl3.left (Heap.UpToSlots.trans up up3) os ag
    obtain ⟨oe3, vs3, he3, hz3, hd3⟩ := HandSPX.FlyingZ.there fl3
    have nfr : ∀ L ∈ List.filterMap (fun e : PySem.Env => e.frame) (X.env :: X.outer), L ≠ a := fun L hL z => by
      obtain ⟨_, o', e', hnf⟩ := Heap.FunFrames.mem fl3.right.right.left hL
      rw [z, he3] at e'
      cases e'
      exact hnf vs3 hd3
    have nL : a ≠ X.env.locals := fun z => nfr _ (List.mem_filterMap.mpr ⟨X.env, List.mem_cons_self, hf⟩) z.symm
    have nF : a ∉ X.fs := fun hm => by
      obtain ⟨e, he, q⟩ := List.mem_filterMap.mp hm
      exact nfr a (List.mem_filterMap.mpr ⟨e, List.mem_cons_of_mem _ he, q⟩) rfl
    have S3 := Inv.suite J3 he3 hd3 na nL nF
    have go : ∀ {hds' : List ExceptHandler} {l' : List (Nat × Value × (Addr → Value → Option Addr → TS))}, AsOk X hds' l' → wAss X.K Wout D l' cls d σ' H' →
        wpAny (model X.prog X.w) X.A (handleBy (Value.ref a) X.env hds') (SP X pins D) X.xe { heap := h3, gens := s'.gens, drawn := s'.drawn, toks := s'.toks, os := s'.os } := by
      intro hds' l' hk
      induction hk with
      | nil =>
        intro w
        refine wpAny_handleBy_nil ?_
        obtain ⟨k1, k2, k3, oe, vs, T, oT, ts', he, hz, hd, h1, hr⟩ := id fl3
        refine wpAny_bind (wpAny_field he hd h1 ?_)
        rw [if_neg (by simp)]
        refine wpAny_bind ?_
        rw [hf]
        refine HandSPX.setFlight_upZ fl3 fun h4 hh4 up4 => wpAny_throw (tk (Value.ref a) _ ?_)
        refine ⟨a, B, sI, pins, σ', H', cls, d, rfl, J, nb, Heap.UpToSlots.trans (Heap.UpToSlots.trans up up3) up4, .inr (.inr ?_), na, os, ag, w⟩
        rw [hs]
        exact hh4
      | @cons x n c i ts b₀ suite np pos' hds2 l2 hc hi hln hsu r ih =>
        rintro ⟨b, hb1, hyes, hno⟩
        refine wpAny_handleBy_cons (codeAny_handlers_test ?_) (fun q => by cases q)
        have LT : PySem.W.Looks (model X.prog X.w) h3 (typeOf (Value.ref a)) cls := fun A Q E s k q => wpAny_typeOf_ref (k a oe3 he3) (by rw [hz3.left]; exact q)
        have LM := PySem.W.exm_one (M := model X.prog X.w) (Inv.kIn J3) LT hb1
        obtain ⟨hg, hdbg, hcc⟩ := hc
        have test : ∀ {Q : Value → Shared → Prop} {E : Value → Shared → Prop}, Q c { heap := h3, gens := s'.gens, drawn := s'.drawn, toks := s'.toks, os := s'.os } → wpAny (model X.prog X.w) (X.A.mark (some (Value.ref a))) (eval (.Name x np) X.env) Q E { heap := h3, gens := s'.gens, drawn := s'.drawn, toks := s'.toks, os := s'.os } := fun q => by
          rcases hcc with hm | ⟨hm, hv, hnn⟩
          · exact ld_glob S3 hg hm q hdbg
          · exact ld_blt S3 hg hm hv q hnn hdbg
        refine test (PySem.W.Looks.here LM ?_)
        cases b with
        | false => exact ih (hno rfl)
        | true =>
          refine codeAny_handlers_suite_as (HandSPX.lands_againZ fl3 fun h4 fl4 up4 => ?_)
          have J4 : L2.Inv X pins σ' H' { heap := h4, gens := s'.gens, drawn := s'.drawn, toks := s'.toks, os := s'.os } := Inv.landed J nb fl4.left (Heap.UpToSlots.trans (Heap.UpToSlots.trans up up3) up4) os ag
          obtain ⟨oe4, vs4, he4, hz4, hd4⟩ := HandSPX.FlyingZ.there fl4
          have S4 := Inv.suite J4 he4 hd4 na nL nF
          refine store_ok (X := X.suite a ((a, oe4) :: (X.pn ++ pins))) (v := .ref a) S4 hN hi (.inl hln) rfl (fun s5 S5 => ?_) (.inr hln)
          refine wpAny_mono ((hsu a oe4 cls d (X.pn ++ pins) hz4 ⟨vs4, hd4⟩).run [] s5 _ H' _ S5 (hyes rfl a na)) (fun f s6 hsp => ?_) (fun _ _ z => z.elim)
          have end_ : ∀ {σ6 : L2.St} {H6 : Hp} {Q : Unit → Shared → Prop}, L2.Inv (X.suite a ((a, oe4) :: (X.pn ++ pins))) [] σ6 H6 s6 → (∀ s7, L2.Inv X pins (σ6.set i none) H6 s7 → Q () s7) → wpAny (model X.prog X.w) X.A (do bindName X.env n Value.none; unbindBehindTheSuite X.env n pos') Q X.xe s6 := fun S6 hq => gone_ok (Inv.unsuite S6 ok) hN hi hln hq
          cases f with
          | ret v =>
            obtain ⟨v6, σ6, H6, S6, r6, q6⟩ := hsp
            exact end_ S6 fun s7 J7 => ⟨v6, σ6.set i none, H6, J7, r6, q6⟩
          | _ =>
            obtain ⟨σ6, H6, S6, q6⟩ := hsp
            exact end_ S6 fun s7 J7 => ⟨σ6.set i none, H6, J7, q6⟩
    exact go hh w
  · cases f with
    | next =>
      obtain ⟨σ', H', J', q⟩ := hsp
      exact wpAny_execs_nil ⟨σ', H', Inv.ofTry J' ok, q⟩
    | ret v =>
      obtain ⟨v', σ', H', J', r, q⟩ := hsp
      exact ⟨v', σ', H', Inv.ofTry J' ok, r, q⟩
    | _ =>
      obtain ⟨σ', H', J', q⟩ := hsp
      exact ⟨σ', H', Inv.ofTry J' ok, q⟩
end DL
namespace DL
open PySem PySem.Spec L2

/-! ### errors that are caught -/
mutual
def D.noX : D → Bool
  | .exc _ _ _ => false
  | .lst ds => D.noXs ds
  | .tup ds => D.noXs ds
  | .obj _ _ ds => D.noXs ds
  | .dk _ ds => D.noXs ds
  | .dt _ ds => D.noXs ds
  | _ => true
def D.noXs : List D → Bool
  | [] => true
  | d :: ds => D.noX d && D.noXs ds
end
section
variable {K : PySem.W.Frag} {m : Str → Option Value} {x y : Addr → Option (Addr × Addr)} {I : Hp}
mutual
/-- no error in it: the errors that are held do not matter -/
theorem Rep.noX : ∀ {v : V} {d : D}, Rep K ⟨m, x⟩ I v d → d.noX = true → Rep K ⟨m, y⟩ I v d
  | _, _, .non, _ => .non
  | _, _, .bl b, _ => .bl b
  | _, _, .int i, _ => .int i
  | _, _, .str x, _ => .str x
  | _, _, .lst h r, q => .lst h (Reps.noX r q)
  | _, _, .tup h r, q => .tup h (Reps.noX r q)
  | _, _, .scr h, _ => .scr h
  | _, _, .rng h, _ => .rng h
  | _, _, .ty n, _ => .ty n
  | _, _, .cls h, _ => .cls h
  | _, _, .obj h c r, q => .obj h c (Reps.noX r q)
  | _, _, .dk h r, q => .dk h (Reps.noX r q)
  | _, _, .dt h r, q => .dt h (Reps.noX r q)
  | _, _, .exc _ _ _ _, q => nomatch q
theorem Reps.noX : ∀ {vs : List V} {ds : List D}, Reps K ⟨m, x⟩ I vs ds → D.noXs ds = true → Reps K ⟨m, y⟩ I vs ds
  | _, _, .nil, _ => .nil
  | _, _, .cons h r, q => by
    rw [D.noXs, Bool.and_eq_true] at q
    exact .cons (Rep.noX h q.1) (Reps.noX r q.2)
end
mutual
/-- data in which no error is held -/
theorem Rep.more : ∀ {v : V} {d : D}, Rep K (g0 m) I v d → Rep K ⟨m, y⟩ I v d
  | _, _, .non => .non
  | _, _, .bl b => .bl b
  | _, _, .int i => .int i
  | _, _, .str x => .str x
  | _, _, .lst h r => .lst h (Reps.more r)
  | _, _, .tup h r => .tup h (Reps.more r)
  | _, _, .scr h => .scr h
  | _, _, .rng h => .rng h
  | _, _, .ty n => .ty n
  | _, _, .cls h => .cls h
  | _, _, .obj h c r => .obj h c (Reps.more r)
  | _, _, .dk h r => .dk h (Reps.more r)
  | _, _, .dt h r => .dt h (Reps.more r)
  | _, _, .exc h _ _ _ => nomatch h
theorem Reps.more : ∀ {vs : List V} {ds : List D}, Reps K (g0 m) I vs ds → Reps K ⟨m, y⟩ I vs ds
  | _, _, .nil => .nil
  | _, _, .cons h r => .cons (Rep.more h) (Reps.more r)
end
end
/-- the error that the suite holds: at a, of class cls, its dict d -/
def xcV (a : Addr) (cls : Value) (d : Option Addr) : Addr → Option (Addr × Addr) := fun b => if b = a then (match cls, d with | .ref C, some e => some (C, e) | _, _ => none) else none
theorem xcV_of {a b C e : Addr} {cls : Value} {d : Option Addr} (h : xcV a cls d b = some (C, e)) : b = a ∧ cls = .ref C ∧ d = some e := by
  unfold xcV at h
  by_cases z : b = a
  · rw [if_pos z] at h
    split at h
    · cases h
      exact ⟨z, rfl, rfl⟩
    · cases h
  · rw [if_neg z] at h
    cases h
theorem xcV_at {a C e : Addr} : xcV a (.ref C) (some e) a = some (C, e) := if_pos rfl

/-! #### suites -/
def OutH (K : PySem.W.Frag) (gm : Gm) (I H : Hp) (σ : L2.St) (D0 : Ends) (r : R Fl) : Prop := match r with
  | .ok (.nx _) => ∀ I' H', Stp I H I' H' → D0.nx σ H'
  | .ok (.rt d) => ∀ v I' H', Stp I H I' H' → Rep K gm I' v d → D0.rt v H'
  | _ => False
def SnH (K : PySem.W.Frag) (gm : Gm) (ts : TS) (mh : Env → R Fl) : Prop := ∀ (σ : L2.St) (I H : Hp) (ρ : Env) (D0 : Ends), RE K gm I σ ρ → Same I H → OutH K gm I H σ D0 (mh ρ) → ts D0 σ H
structure MH (X : Cx) (x : Addr → Option (Addr × Addr)) (s : Stmt) (ts : TS) (mh : Env → R Fl) : Prop where
  pe : PS X s ts
  sn : SnH X.K ⟨X.mg, x⟩ ts mh
structure MHs (X : Cx) (x : Addr → Option (Addr × Addr)) (s : List Stmt) (ts : TS) (mh : Env → R Fl) : Prop where
  pe : PSs X s ts
  sn : SnH X.K ⟨X.mg, x⟩ ts mh
abbrev hE (x : Addr → Option (Addr × Addr)) : Wh := ⟨fun _ => E0, x⟩
theorem OutH.mono {K : PySem.W.Frag} {gm : Gm} {I H I' H' : Hp} {σ : L2.St} {D0 : Ends} {r : R Fl} (s : Stp I H I' H') (h : OutH K gm I H σ D0 r) : OutH K gm I' H' σ D0 r := by
  cases r with
  | ok f =>
    cases f with
    | nx ρ => exact fun I2 H2 t => h I2 H2 (s.trans t)
    | rt d => exact fun v I2 H2 t q => h v I2 H2 (s.trans t) q
    | _ => exact h
  | _ => exact h
/-- a value's reading in a suite -/
theorem SnH.of {K : PySem.W.Frag} {gm : Gm} {α β : Type} {rp : Hp → β → α → Prop} {te : L2.St → Hp → (β → Hp → Prop) → Prop} {m : Env → R α} {k : α → R Fl} {P : β → Hp → Prop} {I H : Hp} {σ : L2.St} {ρ : Env} {D0 : Ends} (h : Sn K gm (fun _ => E0) rp te m) (re : RE K gm I σ ρ) (ex : Same I H) (hq : OutH K gm I H σ D0 (m ρ >>= k))
    (hk : ∀ d v I' H', Stp I H I' H' → rp I' v d → OutH K gm I' H' σ D0 (k d) → P v H') : te σ H P := by
  refine h σ I H ρ P re ex ?_
  cases e : m ρ with
  | ok d =>
    rw [e] at hq
    exact fun v I' H' s q => hk d v I' H' s q (OutH.mono s hq)
  | err nm ds =>
    rw [e] at hq
    exact hq.elim
  | stuck =>
    rw [e] at hq
    exact hq.elim
section
variable {X : Cx} {x : Addr → Option (Addr × Addr)} {s : Stmt} {ss : List Stmt} {t u : TS} {e c : Expr} {te : TE} {tt : TT} {m : Env → R D} {mt : Env → R Bool} {ma mb mh mr : Env → R Fl} {pos : Pos} {a b : List Stmt}
theorem mhs_nil : MHs X x [] tNext (fun ρ => .ok (.nx ρ)) := ⟨pss_nil, fun σ I H ρ D0 re ex h => h I H (.refl ex)⟩
theorem mhs_one (h : MH X x s t mh) : MHs X x [s] t mh := ⟨pss_one h.pe, h.sn⟩
def seqH (a : R Fl) (b : R Fl) : R Fl := a >>= fun f => match f with
  | .nx _ => b
  | f => .ok f
theorem mhs_cons (h : MH X x s t mh) (h2 : MHs X x ss u mr) : MHs X x (s :: ss) (tSeq t u) (fun ρ => seqH (mh ρ) (mr ρ)) := ⟨pss_cons h.pe h2.pe, fun σ I H ρ D0 re ex q => by
  refine h.sn σ I H ρ _ re ex ?_
  cases z : mh ρ with
  | ok f =>
    simp only [z, seqH] at q
    cases f with
    | nx ρ' => exact fun I' H' s => h2.sn σ I' H' ρ D0 (re.mono s.i) s.e (OutH.mono s q)
    | rt d => exact q
    | _ => exact q
  | err n ds =>
    simp only [z, seqH] at q
    exact q
  | stuck =>
    simp only [z, seqH] at q
    exact q⟩
theorem mh_ret (h : ME X (hE x) e te m) : MH X x (.Return (some e) pos) (tRet te) (fun ρ => ret (m ρ)) := ⟨ps_ret h.pe, fun σ I H ρ D0 re ex q => SnH.of (k := fun d => .ok (.rt d)) h.sn re ex q fun d v I' H' s r q => q v I' H' (.refl s.e) r⟩
theorem mh_pass : MH X x (.Pass pos) tNext (fun ρ => .ok (.nx ρ)) := ⟨ps_pass, fun σ I H ρ D0 re ex h => h I H (.refl ex)⟩
theorem mh_if (hc : MT X (hE x) c tt mt) (ha : MHs X x a t ma) (hb : MHs X x b u mb) : MH X x (.If c a b pos) (tIfS tt t u) (fun ρ => ifv (mt ρ) (ma ρ) (mb ρ)) := ⟨ps_if hc.pe ha.pe hb.pe, fun σ I H ρ D0 re ex q => by
  refine SnH.of (k := fun k => if k = true then ma ρ else mb ρ) hc.sn re ex q fun d v I' H' s r q => ?_
  have r : v = d := r
  subst r
  cases v with
  | true => exact ha.sn σ I' H' ρ D0 (re.mono s.i) s.e q
  | false => exact hb.sn σ I' H' ρ D0 (re.mono s.i) s.e q⟩
end

/-! #### what is tried -/
/-- an error goes out at the slots' values of the start -/
def OutY (K : PySem.W.Frag) (gm : Gm) (W : WX) (M : List Nat) (Ie : Hp × Addr) (He I0 : Hp) (σ0 : L2.St) (ρ0 : Env) (D0 : Ends) (r : R Fl) : Prop := match r with
  | .ok (.nx ρ) => ∀ σ I H, SE K gm M Ie He σ I H ρ → Same I0 I → D0.nx σ H
  | .ok (.rt d) => ∀ v I H, Stp Ie.1 He I H → Rep K gm I v d → D0.rt v H
  | .err nm ds => ∀ C od I H, SE K gm M Ie He σ0 I H ρ0 → Same I0 I → XRep K gm I H nm ds C od → W C od σ0 H
  | _ => False
def SnY (K : PySem.W.Frag) (gm : Gm) (W : WX) (M : List Nat) (ts : TS) (ms : Env → R Fl) : Prop :=
  ∀ (Ie : Hp × Addr) (He : Hp) (σ : L2.St) (I H : Hp) (ρ : Env) (D0 : Ends), SE K gm M Ie He σ I H ρ → OutY K gm W M Ie He I σ ρ D0 (ms ρ) → ts D0 σ H
abbrev yE (W : WX) : Wh := ⟨WE W, fun _ => none⟩
/-- within a try -/
structure MY (X : Cx) (M : List Nat) (s : Stmt) (tb : WX → TS) (ms : Env → R Fl) : Prop where
  pe : ∀ (W : WX) (pn : List (Addr × Obj)) (xe : Value → Shared → Prop), Takes (X.tr pn xe) W → PassesOwn (model X.prog X.w) X.A X.env xe → PS (X.tr pn xe) s (tb W)
  sn : ∀ W, SnY X.K (g0 X.mg) W M (tb W) ms
structure MYs (X : Cx) (M : List Nat) (s : List Stmt) (tb : WX → TS) (ms : Env → R Fl) : Prop where
  pe : ∀ (W : WX) (pn : List (Addr × Obj)) (xe : Value → Shared → Prop), Takes (X.tr pn xe) W → PassesOwn (model X.prog X.w) X.A X.env xe → PSs (X.tr pn xe) s (tb W)
  sn : ∀ W, SnY X.K (g0 X.mg) W M (tb W) ms
section
variable {X : Cx} {M : List Nat} {s : Stmt} {ss : List Stmt} {t u : WX → TS} {e c : Expr} {te : WX → TE} {tt : WX → TT} {m : Env → R D} {mt : Env → R Bool} {ma mb mr : Env → R Fl} {pos pos' : Pos} {a b : List Stmt}
theorem SnY.of {K : PySem.W.Frag} {gm : Gm} {W : WX} {Ie : Hp × Addr} {He I H : Hp} {σ : L2.St} {ρ : Env} {D0 : Ends} {α β : Type} {rp : Hp → β → α → Prop} {te : L2.St → Hp → (β → Hp → Prop) → Prop} {m : Env → R α} {k : α → R Fl} {P : β → Hp → Prop} (h : Sn K gm (WE W) rp te m) (s : SE K gm M Ie He σ I H ρ) (hq : OutY K gm W M Ie He I σ ρ D0 (m (wipeE ρ M) >>= k))
    (hk : ∀ d v I' H', SE K gm M Ie He σ I' H' ρ → Stp I H I' H' → rp I' v d → OutY K gm W M Ie He I σ ρ D0 (k d) → P v H') : te σ H P := by
  refine h σ I H _ P s.re s.st.e ?_
  cases e : m (wipeE ρ M) with
  | ok d =>
    rw [e] at hq
    exact fun v I' H' t r => hk d v I' H' (s.step t) t r hq
  | err nm ds =>
    rw [e] at hq
    exact fun C od I' H' t x => hq C od I' H' (s.step t) t.i x
  | stuck =>
    rw [e] at hq
    exact hq.elim
theorem OutY.mono {K : PySem.W.Frag} {gm : Gm} {W : WX} {Ie : Hp × Addr} {He I0 I1 : Hp} {σ : L2.St} {ρ : Env} {D0 : Ends} {r : R Fl} (k : Same I0 I1) (h : OutY K gm W M Ie He I0 σ ρ D0 r) : OutY K gm W M Ie He I1 σ ρ D0 r := by
  cases r with
  | ok f =>
    cases f with
    | nx ρ => exact fun σ I H s q => h σ I H s (k.trans q)
    | rt d => exact h
    | _ => exact h
  | err nm ds => exact fun C od I H s q x => h C od I H s (k.trans q) x
  | stuck => exact h
theorem mys_one (h : MY X M s t ma) : MYs X M [s] t ma := ⟨fun W pn xe tk hp => pss_one (h.pe W pn xe tk hp), h.sn⟩
theorem mys_nil : MYs X M [] (fun _ => tNext) (fun ρ => .ok (.nx ρ)) := ⟨fun W pn xe tk hp => pss_nil, fun W Ie He σ I H ρ D0 s h => h σ I H s (.refl _)⟩
theorem my_expr (h : ∀ (W : WX) (pn : List (Addr × Obj)) (xe : Value → Shared → Prop), Takes (X.tr pn xe) W → ME (X.tr pn xe) (yE W) e (te W) m) (hw : ∀ (pn : List (Addr × Obj)) (xe : Value → Shared → Prop), swapsWith e none pos.line (X.tr pn xe).env = pure false := by intro _ _; rfl) : MY X M (.Expr e pos) (fun W => tDrop (te W)) (fun ρ => drp ρ (m (wipeE ρ M))) :=
  ⟨fun W pn xe tk hp => ps_expr (h W pn xe tk).pe (hw pn xe), fun W Ie He σ I H ρ D0 s q => SnY.of (k := fun _ => .ok (.nx ρ)) (h W [] (fun _ _ => True) (fun _ _ _ => True.intro)).sn s q fun d v I' H' s' t r q => q σ I' H' s' t.i⟩
theorem my_ret (h : ∀ (W : WX) (pn : List (Addr × Obj)) (xe : Value → Shared → Prop), Takes (X.tr pn xe) W → ME (X.tr pn xe) (yE W) e (te W) m) : MY X M (.Return (some e) pos) (fun W => tRet (te W)) (fun ρ => ret (m (wipeE ρ M))) :=
  ⟨fun W pn xe tk hp => ps_ret (h W pn xe tk).pe, fun W Ie He σ I H ρ D0 s q => SnY.of (k := fun d => .ok (.rt d)) (h W [] (fun _ _ => True) (fun _ _ _ => True.intro)).sn s q fun d v I' H' s' t r q => q v I' H' s'.st r⟩
theorem my_set (i : Nat) {x : Str} (hi : X.N[i]? = some x) (hN : X.N.Nodup) (hx : Loc X.env.scope x) (hM : i ∉ M) (h : ∀ (W : WX) (pn : List (Addr × Obj)) (xe : Value → Shared → Prop), Takes (X.tr pn xe) W → ME (X.tr pn xe) (yE W) e (te W) m)
    (hw : ∀ (pn : List (Addr × Obj)) (xe : Value → Shared → Prop) (t : TE), PE (X.tr pn xe) e t → PS (X.tr pn xe) (.Assign [.Name x pos'] e pos) (tAsg t (gName i))) : MY X M (.Assign [.Name x pos'] e pos) (fun W => tAsg (te W) (gName i)) (fun ρ => asg i ρ (m (wipeE ρ M))) :=
  ⟨fun W pn xe tk hp => hw pn xe _ (h W pn xe tk).pe, fun W Ie He σ I H ρ D0 s q => SnY.of (k := fun d => .ok (.nx (ρ.set i (some d)))) (h W [] (fun _ _ => True) (fun _ _ _ => True.intro)).sn s q fun d v I' H' s' t r q => q _ I' H' (s'.set hM r) t.i⟩
theorem my_if (hc : ∀ (W : WX) (pn : List (Addr × Obj)) (xe : Value → Shared → Prop), Takes (X.tr pn xe) W → MT (X.tr pn xe) (yE W) c (tt W) mt) (ha : MYs X M a t ma) (hb : MYs X M b u mb) : MY X M (.If c a b pos) (fun W => tIfS (tt W) (t W) (u W)) (fun ρ => ifv (mt (wipeE ρ M)) (ma ρ) (mb ρ)) :=
  ⟨fun W pn xe tk hp => ps_if (hc W pn xe tk).pe (ha.pe W pn xe tk hp) (hb.pe W pn xe tk hp), fun W Ie He σ I H ρ D0 s q => by
    refine SnY.of (k := fun k => if k = true then ma ρ else mb ρ) (hc W [] (fun _ _ => True) (fun _ _ _ => True.intro)).sn s q fun d v I' H' s' t r q => ?_
    have r : v = d := r
    subst r
    cases v with
    | true => exact (ha.sn W) Ie He σ I' H' ρ D0 s' (OutY.mono t.i q)
    | false => exact (hb.sn W) Ie He σ I' H' ρ D0 s' (OutY.mono t.i q)⟩
end
end DL
namespace DL
open PySem PySem.Spec PyProof.Rows L2

/-! #### what a suite asks of its error -/
def tXfA (K : PySem.W.Frag) (a : Addr) (cls : Value) (d : Option Addr) (f : Str) (te : TE) : TE := fun σ H Q => te σ H fun x H1 => x = .ref a ∧ ∃ (C dd : Addr) (fs : List (Str × V)) (v : V), cls = .ref C ∧ XfC K C ∧ PySem.W.findIn K (.ref C) f = some none ∧ d = some dd ∧ H1 dd = some (.xd fs) ∧ fs.lookup f = some v ∧ Q v H1
theorem pe_xfA {X : Cx} {a : Addr} {oe : Obj} {cls : Value} {d : Option Addr} {pn : List (Addr × Obj)} {e : Expr} {te : TE} {pos : Pos} {f : Str} (hz : Zc cls d oe) (hf : ∃ vs, oe.data = .fields vs) (he : PE (X.suite a ((a, oe) :: pn)) e te) (hb : attributeBase e f X.env (eval e X.env) = eval e X.env := by rfl) :
    PE (X.suite a ((a, oe) :: pn)) (.Attribute e f pos) (tXfA X.K a cls d f te) := by
  refine ⟨fun pins s σ H Q I h => ?_⟩
  refine attr_of hb (thn (he.run pins s σ H _ I h) fun u s1 hh => ?_)
  obtain ⟨x, H1, I1, rx, ex, C, dd, fs, v, ec, T, hno, ed, ea, l, q⟩ := hh
  subst ex
  obtain rfl : u = Value.ref a := rx
  subst ec
  subst ed
  obtain ⟨ha, _⟩ := I1.pin (a, oe) (List.mem_append_left _ List.mem_cons_self)
  obtain ⟨vs, hd⟩ := hf
  have hx : ObjOk X.prog X.w H1 s1.heap dd (.xd fs) := I1.hok dd _ ea
  obtain ⟨mA, hns, hr⟩ := hx
  obtain ⟨od, ho, hl⟩ := lookIn_ns hns
  obtain ⟨u, hu, ru⟩ := RelO.some_of (v := v) (o := mA f) (by rw [← l]; exact hr f)
  have J : PySem.W.InstAt s1.heap a oe C (some od) := ⟨ha, hz.1, by unfold PySem.W.notCls; rw [hd] <;> rfl, by rw [hz.2]; exact ho⟩
  exact HandSPX.exc_get I1.kIn J T.ga T.gg T.exC (PySem.W.findObj_own T.hdC hno rfl (by rw [hl, hu])) (handed_of ru) ⟨v, H1, I1.tok _, ru, q⟩
def xfD (ns : List Str) (f : Str) : D → R D
  | .exc n ks ds => if n ∈ ns then (match getF f ks ds with | some d => .ok d | none => .stuck) else .stuck
  | _ => .stuck
def XcF (K : PySem.W.Frag) (mg : Str → Option Value) (ns : List Str) (f : Str) : Prop := ∀ n ∈ ns, ∀ C, mg n = some (.ref C) → XfC K C ∧ PySem.W.findIn K (.ref C) f = some none
theorem me_xf {X : Cx} {a : Addr} {oe : Obj} {cls : Value} {d : Option Addr} {pn : List (Addr × Obj)} {e : Expr} {te : TE} {m : Env → R D} {pos : Pos} (ns : List Str) {f : Str} (T : XcF X.K X.mg ns f) (hz : Zc cls d oe) (hf : ∃ vs, oe.data = .fields vs) (he : ME (X.suite a ((a, oe) :: pn)) (hE (xcV a cls d)) e te m) (hb : attributeBase e f X.env (eval e X.env) = eval e X.env := by rfl) :
    ME (X.suite a ((a, oe) :: pn)) (hE (xcV a cls d)) (.Attribute e f pos) (tXfA X.K a cls d f te) (fun ρ => o1 (xfD ns f) (m ρ)) := by
  obtain ⟨pa, sa⟩ := he
  refine ⟨pe_xfA hz hf pa hb, fun σ I H ρ Q re ex h => ?_⟩
  refine sa.run re ex h fun u v I1 H1 _ st rx h => ?_
  obtain ⟨z, hz, h9⟩ := out_calm h
  cases rx with
  | @exc a0 C dd n fs ds hx hn ha ra =>
    have hz : (if n ∈ ns then (match getF f (fs.map (·.1)) ds with | some d => R.ok d | none => .stuck) else .stuck) = R.ok z := hz
    by_cases hm : n ∈ ns
    · rw [if_pos hm] at hz
      cases e : getF f (fs.map (·.1)) ds with
      | none =>
        rw [e] at hz
        cases hz
      | some d' =>
        rw [e] at hz
        cases hz
        obtain ⟨v', h1, h2⟩ := getF_rep ra e
        obtain ⟨k1, k2⟩ := T n hm C hn
        obtain ⟨rfl, rfl, rfl⟩ := xcV_of hx
        exact ⟨rfl, C, dd, fs, v', rfl, k1, k2, rfl, st.e _ _ ha, h1, h9 _ _ _ (.refl st.e) h2⟩
    · rw [if_neg hm] at hz
      cases hz
  | _ => cases hz

/-! #### isinstance(e, X) -/
/-- which class is below which: of the text's own, of the built-in ones -/
structure XSub (K : PySem.W.Frag) (mg : Str → Option Value) (T : Str → Str → Option Bool) (B : Str → String → Option Bool) : Prop where
  cl : ∀ n C, (∃ c b, T n c = some b) ∨ (∃ c b, B n c = some b) → mg n = some (.ref C) → ExcC K C ∧ (PySem.W.clsIn K C).isSome = true
  own : ∀ n c b C u, T n c = some b → mg n = some (.ref C) → mg c = some u → PySem.W.kitOne K (.ref C) u = some b ∧ PySem.W.exmOne K (.ref C) u = some b
  bt : ∀ n c b C, B n c = some b → mg n = some (.ref C) → PySem.W.kitOne K (.ref C) (.type c) = some b ∧ PySem.W.exmOne K (.ref C) (.type c) = some b
def rIsX (K : PySem.W.Frag) (a : Addr) (cls : Value) (d : Option Addr) : List V → Hp → VK → Prop := fun xs H Q => ∃ (c : V) (u : Value) (b : Bool) (C dd : Addr) (fs : List (Str × V)), xs = [.ref a, c] ∧ ClsV c u ∧ cls = .ref C ∧ d = some dd ∧ H dd = some (.xd fs) ∧ ExcC K C ∧ (PySem.W.clsIn K C).isSome = true ∧ PySem.W.kitOne K (.ref C) u = some b ∧ Q (.bl b) H
theorem call_isX {X : Cx} {a : Addr} {oe : Obj} {cls : Value} {d : Option Addr} {pn : List (Addr × Obj)} (hz : Zc cls d oe) (hf : ∃ vs, oe.data = .fields vs) : CallR (X.suite a ((a, oe) :: pn)) (.builtin "isinstance") (rIsX X.K a cls d) := by
  intro pins s σ H xs us Q I r h
  obtain ⟨c, u, b, C, dd, fs, rfl, hc, rfl, rfl, ea, T, ic, ek, q⟩ := h
  cases r with
  | cons r1 r =>
    cases r with
    | cons r2 r =>
      cases r
      rename_i u1 u2
      obtain rfl : u1 = Value.ref a := r1
      obtain rfl : u2 = u := by
        cases hc with
        | ty n => exact r2
        | own C => exact r2
      obtain ⟨ha, _⟩ := I.pin (a, oe) (List.mem_append_left _ List.mem_cons_self)
      obtain ⟨vs, hd⟩ := hf
      obtain ⟨mA, hns, hr⟩ : ObjOk X.prog X.w H s.heap dd (.xd fs) := I.hok dd _ ea
      obtain ⟨od, ho, hl⟩ := lookIn_ns hns
      have J : PySem.W.InstAt s.heap a oe C (some od) := ⟨ha, hz.1, by unfold PySem.W.notCls; rw [hd] <;> rfl, by rw [hz.2]; exact ho⟩
      exact PySem.W.kia_one (PySem.W.kitx_exc ic T.hg T.hk T.hs T.ha T.hn T.ht T.hm) I.kIn J ek (fun z => nomatch z) fun tk => ⟨.bl b, H, I.tok _, rfl, q⟩
def isxD (T : Str → Str → Option Bool) (B : Str → String → Option Bool) : List D → R D
  | [.exc n _ _, .cls c] => match T n c with | some b => .ok (.bl b) | none => .stuck
  | [.exc n _ _, .ty c] => match B n c with | some b => .ok (.bl b) | none => .stuck
  | _ => .stuck
theorem cs_isx {K : PySem.W.Frag} {mg : Str → Option Value} {T : Str → Str → Option Bool} {B : Str → String → Option Bool} {a : Addr} {cls : Value} {d : Option Addr} (S : XSub K mg T B) : CSn K ⟨mg, xcV a cls d⟩ (rIsX K a cls d) (isxD T B) := by
  intro xs I H ds z Q ex rs hz q
  cases rs with
  | nil => cases hz
  | cons r1 rs =>
    cases rs with
    | nil => cases r1 <;> cases hz
    | cons r2 rs =>
      cases rs with
      | cons _ _ => cases r1 <;> cases r2 <;> cases hz
      | nil =>
        cases r1 with
        | @exc a0 C dd n fs es hx hn ha ra =>
          obtain ⟨rfl, rfl, rfl⟩ := xcV_of hx
          cases r2 with
          | @cls c C2 hc =>
            have hz : (match T n c with | some b => R.ok (D.bl b) | none => .stuck) = .ok z := hz
            cases e : T n c with
            | none =>
              rw [e] at hz
              cases hz
            | some b =>
              rw [e] at hz
              cases hz
              obtain ⟨k1, k2⟩ := S.cl n C (.inl ⟨c, b, e⟩) hn
              exact ⟨_, _, b, C, dd, fs, rfl, .own C2, rfl, rfl, ex _ _ ha, k1, k2, (S.own n c b C _ e hn hc).1, q _ _ _ (.refl ex) (.bl b)⟩
          | ty c =>
            have hz : (match B n c with | some b => R.ok (D.bl b) | none => .stuck) = .ok z := hz
            cases e : B n c with
            | none =>
              rw [e] at hz
              cases hz
            | some b =>
              rw [e] at hz
              cases hz
              obtain ⟨k1, k2⟩ := S.cl n C (.inr ⟨c, b, e⟩) hn
              exact ⟨_, _, b, C, dd, fs, rfl, .ty c, rfl, rfl, ex _ _ ha, k1, k2, (S.bt n c b C e hn).1, q _ _ _ (.refl ex) (.bl b)⟩
          | _ => cases hz
        | _ => cases r2 <;> cases hz
/-- a class of the text's own as a value -/
theorem me_cls {X : Cx} {E : Wh} {x : Str} {C : Addr} {pos : Pos} (hg : Gl X x) (hm : X.mg x = some (.ref C)) (hd : (x == ("__debug__" : Str)) = false := by decide) : ME X E (.Name x pos) (tC (.ref C)) (fun _ => .ok (.cls x)) :=
  ⟨pe_glob hg hm rfl hd, fun σ I H ρ Q re ex h => h.here ex (.cls hm)⟩

/-! #### try .. except X as e .. -/
/-- the clauses: the slot, the class, whether it is one's own, what the suite does -/
structure Cl where
  i : Nat
  own : Bool
  c : String
  h : Env → R Fl
def clM (T : Str → Str → Option Bool) (B : Str → String → Option Bool) (M : List Nat) (n : Str) (ks : List Str) (es : List D) (ρ : Env) : List Cl → R Fl
  | [] => .err n [.obj n ks es]
  | k :: r => match (if k.own = true then T n k.c else B n k.c) with
    | some true => calm (k.h ((wipeE ρ M).set k.i (some (.exc n ks es)))) >>= fun f => match f with
      | .nx _ => .ok (.nx (ρ.set k.i none))
      | .rt d => if d.noX = true then .ok (.rt d) else .stuck
      | _ => .stuck
    | some false => clM T B M n ks es ρ r
    | none => .stuck
def tryM (T : Str → Str → Option Bool) (B : Str → String → Option Bool) (M : List Nat) (mb : Env → R Fl) (l : List Cl) (ρ : Env) : R Fl := match mb ρ with
  | .err n ds => match ds with
    | [.obj _ ks es] => clM T B M n ks es ρ l
    | _ => .stuck
  | .ok (.nx ρ) => .ok (.nx ρ)
  | .ok (.rt d) => .ok (.rt d)
  | _ => .stuck
/-- the clauses' texts -/
inductive ClOk (X : Cx) : List ExceptHandler → List (Nat × Value × (Addr → Value → Option Addr → TS)) → List Cl → Prop
  | nil : ClOk X [] [] []
  | cons {x : String} {n : Str} {c : Value} {i : Nat} {o : Bool} {ts : Addr → Value → Option Addr → TS} {mh : Env → R Fl} {b₀ : Stmt} {suite : List Stmt} {np pos' : Pos} {hds : List ExceptHandler} {l : List (Nat × Value × (Addr → Value → Option Addr → TS))} {ms : List Cl} (hc : Names X x c) (ho : if o = true then X.mg x = some c else c = .type x) (hi : X.N[i]? = some n) (hln : X.env.kindOf n = some .local)
      (hsu : ∀ (a : Addr) (oe : Obj) (cls : Value) (d : Option Addr) (pn : List (Addr × Obj)), Zc cls d oe → (∃ vs, oe.data = .fields vs) → MHs (X.suite a ((a, oe) :: pn)) (xcV a cls d) (b₀ :: suite) (ts a cls d) mh) (r : ClOk X hds l ms) :
      ClOk X (.ExceptHandler (some (.Name x np)) (some n) (b₀ :: suite) pos' :: hds) ((i, c, ts) :: l) (⟨i, o, x, mh⟩ :: ms)
theorem ClOk.ass {X : Cx} {hds : List ExceptHandler} {l : List (Nat × Value × (Addr → Value → Option Addr → TS))} {ms : List Cl} (h : ClOk X hds l ms) : AsOk X hds l := by
  induction h with
  | nil => exact .nil
  | cons hc ho hi hln hsu r ih => exact .cons hc hi hln (fun a oe cls d pn hz hf => (hsu a oe cls d pn hz hf).pe) ih
theorem SE.unset {K : PySem.W.Frag} {mg : Gm} {M : List Nat} {Ie : Hp × Addr} {He I H : Hp} {σ τ : L2.St} {ρ : Env} {i : Nat} (s : SE K mg M Ie He σ I H ρ) (hi : i ∉ M) (hl : τ.length = σ.length) (h : ∀ j, j ≠ i → τ[j]? = σ[j]?) : SE K mg M Ie He τ I H (ρ.set i none) where
  st := s.st
  len := by rw [List.length_set, hl, s.len]
  imm := fun j d hj q => by
    by_cases e : i = j
    · subst e
      by_cases hl : i < ρ.length
      · rw [List.getElem?_set_self hl] at q
        cases q
      · rw [List.getElem?_eq_none (by rw [List.length_set]; omega)] at q
        cases q
    · rw [List.getElem?_set_ne e] at q
      rw [h j (Ne.symm e)]
      exact s.imm j d hj q
  own_ := fun j d hj q => by
    have e : i ≠ j := fun z => hi (z ▸ hj)
    rw [List.getElem?_set_ne e] at q
    rw [h j (Ne.symm e)]
    exact s.own_ j d hj q
  dis := fun j k p p' d e hj hk hne q1 q2 h1 h2 => by
    have n1 : i ≠ j := fun z => hi (z ▸ hj)
    have n2 : i ≠ k := fun z => hi (z ▸ hk)
    rw [List.getElem?_set_ne n1] at q1
    rw [List.getElem?_set_ne n2] at q2
    rw [h j (Ne.symm n1)] at h1
    rw [h k (Ne.symm n2)] at h2
    exact s.dis j k p p' d e hj hk hne q1 q2 h1 h2
  slf := fun j e p hj q g => by
    have hne : i ≠ j := fun z => hi (z ▸ hj)
    rw [List.getElem?_set_ne hne] at q
    rw [h j (Ne.symm hne)] at g
    exact s.slf j e p hj q g
theorem RE.more {K : PySem.W.Frag} {m : Str → Option Value} {x : Addr → Option (Addr × Addr)} {I : Hp} {σ : L2.St} {ρ : Env} (h : RE K (g0 m) I σ ρ) : RE K ⟨m, x⟩ I σ ρ := ⟨h.len, fun i d q => by
  obtain ⟨v, a, b⟩ := h.at_ i d q
  exact ⟨v, a, b.more⟩⟩
/-- the clauses' reading at an error -/
theorem cl_sn {X : Cx} {E : XK} {Mb M : List Nat} {T : Str → Str → Option Bool} {B : Str → String → Option Bool} (S : XSub X.K X.mg T B) {Ie : Hp × Addr} {He I0 : Hp} {D0 : Ends} {σ : L2.St} {ρ : Env} {n : Str} {ks : List Str} {es : List D} {C : Value} {od : Option Addr} {I H : Hp} (s : SE X.K (g0 X.mg) M Ie He σ I H ρ) (k0 : Same I0 I) (xr : XRep X.K (g0 X.mg) I H n [.obj n ks es] C od) :
    ∀ {hds : List ExceptHandler} {l : List (Nat × Value × (Addr → Value → Option Addr → TS))} {ms : List Cl}, ClOk X hds l ms → (∀ k ∈ ms, k.i ∉ M) → OutS X.K (g0 X.mg) E Mb M Ie He I0 D0 (clM T B M n ks es ρ ms) → wAss X.K (fun cls d _ H => E cls d H) D0 l C od σ H := by
  intro hds l ms h
  induction h with
  | nil => exact fun _ q => q C od I H s.st xr
  | @cons x nn c i o ts mh b₀ suite np pos' hds l ms hc ho hi hln hsu r ih =>
    intro hM q
    obtain ⟨d, fs, es', rfl, hd, he, ra⟩ := xr.d
    obtain ⟨hcn, C0, rfl⟩ := xr.c
    cases he
    have hiM : i ∉ M := hM ⟨i, o, x, mh⟩ List.mem_cons_self
    have ek : ∀ b, (if o = true then T n x else B n x) = some b → PySem.W.exmOne X.K (.ref C0) c = some b := fun b e => by
      cases o with
      | true => exact (S.own n x b C0 c e hcn ho).2
      | false =>
        have ho : c = .type x := ho
        subst ho
        exact (S.bt n x b C0 e hcn).2
    have q : OutS X.K (g0 X.mg) E Mb M Ie He I0 D0 (match (if o = true then T n x else B n x) with
      | some true => calm (mh ((wipeE ρ M).set i (some (.exc n (fs.map (·.1)) es)))) >>= fun f => match f with
        | .nx _ => .ok (.nx (ρ.set i none))
        | .rt d => if d.noX = true then .ok (.rt d) else .stuck
        | _ => .stuck
      | some false => clM T B M n (fs.map (·.1)) es ρ ms
      | none => .stuck) := q
    cases eb : (if o = true then T n x else B n x) with
    | none =>
      rw [eb] at q
      exact q.elim
    | some b =>
      rw [eb] at q
      refine ⟨b, ek b eb, fun hb a ha => ?_, fun hb => ?_⟩
      · subst hb
        have q : OutS X.K (g0 X.mg) E Mb M Ie He I0 D0 (calm (mh ((wipeE ρ M).set i (some (.exc n (fs.map (·.1)) es)))) >>= fun f => match f with
          | .nx _ => .ok (.nx (ρ.set i none))
          | .rt d => if d.noX = true then .ok (.rt d) else .stuck
          | _ => .stuck) := q
        have re := (RE.more (x := xcV a (.ref C0) (some d)) s.re).set (i := i) (v := .ref a) (d := .exc n (fs.map (·.1)) es) (Rep.exc (mg := ⟨X.mg, xcV a (.ref C0) (some d)⟩) xcV_at hcn hd ra.more)
        refine (hsu a { cls := .ref C0, dict := some d, data := .fields #[] } (.ref C0) (some d) [] ⟨rfl, rfl⟩ ⟨_, rfl⟩).sn _ I H _ _ re s.st.e ?_
        cases e : mh ((wipeE ρ M).set i (some (.exc n (fs.map (·.1)) es))) with
        | err _ _ =>
          rw [e] at q
          exact q.elim
        | stuck =>
          rw [e] at q
          exact q.elim
        | ok f =>
          rw [e] at q
          cases f with
          | nx ρ' =>
            have q : ∀ σ I H, SE X.K (g0 X.mg) M Ie He σ I H (ρ.set i none) → Same I0 I → D0.nx σ H := q
            exact fun I' H' t => q _ I' H' ((s.step t).unset hiM (by rw [List.length_set, List.length_set]) fun j hj => by rw [List.getElem?_set_ne (Ne.symm hj), List.getElem?_set_ne (Ne.symm hj)]) (k0.trans t.i)
          | rt r =>
            have q : OutS X.K (g0 X.mg) E Mb M Ie He I0 D0 (if r.noX = true then .ok (.rt r) else .stuck) := q
            obtain ⟨hx, q⟩ := outS_if q
            exact fun v I' H' t rv => q v I' H' (s.st.trans t) (rv.noX hx)
          | bk _ => exact q.elim
          | rf _ => exact q.elim
          | ct _ => exact q.elim
      · subst hb
        exact ih (fun k hk => hM k (List.mem_cons_of_mem _ hk)) q
theorem ms_try {X : Cx} {E : XK} {Mb M : List Nat} {body : List Stmt} {h₀ : ExceptHandler} {hds : List ExceptHandler} {l : List (Nat × Value × (Addr → Value → Option Addr → TS))} {ms : List Cl} {pos : Pos} {tb : WX → TS} {mb : Env → R Fl} {T : Str → Str → Option Bool} {B : Str → String → Option Bool} (S : XSub X.K X.mg T B) (hb : MYs X M body tb mb) (hc : ClOk X (h₀ :: hds) l ms) (tk : Takes X (fun cls d _ H => E cls d H)) (hN : X.N.Nodup) (hM : ∀ k ∈ ms, k.i ∉ M := by decide) (hs : X.stack = X.env :: X.outer := by rfl) (hf : X.env.frame = some X.env.locals := by rfl) :
    MS X E Mb M M (.Try body (h₀ :: hds) [] [] pos) (fun D σ H => tb (wAss X.K (fun cls d _ H => E cls d H) D l) D σ H) (tryM T B M mb ms) :=
  ⟨ps_try_ass hs hf hN tk hb.pe hc.ass, fun Ie He σ I H ρ D0 s q => by
    refine hb.sn _ Ie He σ I H ρ D0 s ?_
    unfold tryM at q
    cases e : mb ρ with
    | ok f =>
      rw [e] at q
      cases f with
      | nx ρ' => exact q
      | rt d => exact q
      | bk ρ' => exact q.elim
      | rf _ => exact q.elim
      | ct ρ' => exact q.elim
    | stuck =>
      rw [e] at q
      exact q.elim
    | err n ds =>
      rw [e] at q
      intro C od I' H' s' k' xr
      obtain ⟨d, fs, es', rfl, hd, rfl, ra⟩ := xr.d
      exact cl_sn S s' k' xr hc hM q⟩
end DL
namespace DL
open PySem PySem.Spec PyProof.Rows L2

/-! ### truth -/
def truD : D → R Bool
  | .bl b => .ok b
  | .int i => .ok (i != 0)
  | .non => .ok false
  | _ => .stuck
def tru (a : R D) : R Bool := a >>= truD
@[simp] theorem tru_ok (d : D) : tru (.ok d) = truD d := rfl
theorem mt_truth {X : Cx} {E : Wh} {e : Expr} {t : TE} {m : Env → R D} (h : ME X E e t m) (he : ∀ whole, isTrue e X.env whole = (do let v ← whole; standAt e.pos; holding [v] (truthy v)) := by intro _; rfl) : MT X E e (fun σ H Q => t σ H fun x H' => ∃ k, TruV X.K x H' k ∧ Q k H') (fun ρ => tru (m ρ)) := by
  obtain ⟨pt, st⟩ := h
  refine ⟨pt_truth pt he, fun σ I H ρ Q re ex h => ?_⟩
  refine st.run re ex h fun d v I1 H1 _ st rx h => ?_
  cases rx with
  | bl k => exact ⟨k, rfl, h.here st.e rfl⟩
  | int i => exact ⟨(i != 0), rfl, h.here st.e rfl⟩
  | non => exact ⟨false, rfl, h.here st.e rfl⟩
  | _ => exact h.elim

/-! ### any, all over bools and ints -/
inductive Tru1 : V → Value → Bool → Prop
  | bl (b : Bool) : Tru1 (.bl b) (.bool b) b
  | int (i : Int) (t : Tok) : Tru1 (.int i) (.int i t) (i != 0)
def TrV : V → Option Bool
  | .bl b => some b
  | .int i => some (i != 0)
  | _ => none
def TrVs : List V → Option (List Bool)
  | [] => some []
  | v :: vs => match TrV v, TrVs vs with
    | some b, some bs => some (b :: bs)
    | _, _ => none
theorem truth_trs {prog : Program} {w : World} {A : Around} : ∀ {vs : List V} {its : List Value} {bs : List Bool}, Vals vs its → TrVs vs = some bs → its.length = bs.length ∧ ∀ (i : Nat) (v : Value) (s : Shared) (Q : Bool → Shared → Prop) (E : Value → Shared → Prop), its[i]? = some v → Q (bs.getD i false) s → wpAny (model prog w) A (truthy v) Q E s
  | [], _, _, .nil, h => by
    cases h
    exact ⟨rfl, fun i v s Q E h _ => by simp at h⟩
  | x :: vs, u :: its, bs, .cons r rs, h => by
    unfold TrVs at h
    cases e1 : TrV x with
    | none =>
      rw [e1] at h
      cases h
    | some b =>
      cases e2 : TrVs vs with
      | none =>
        rw [e1, e2] at h
        cases h
      | some bs' =>
        rw [e1, e2] at h
        cases h
        obtain ⟨hl, hr⟩ := truth_trs (prog := prog) (w := w) (A := A) rs e2
        refine ⟨congrArg (· + 1) hl, fun i v s Q E hv q => ?_⟩
        cases i with
        | succ j => exact hr j v s Q E hv q
        | zero =>
          have e := Option.some.inj hv
          subst e
          cases x with
          | bl k =>
            cases e1
            have r : u = Value.bool b := r
            subst r
            exact wpAny_truthy_bool q
          | int i =>
            cases e1
            obtain ⟨t, rfl⟩ := r
            exact PySem.P.truthy_int q
          | _ => cases e1
def rAllT (K : PySem.W.Frag) : List V → Hp → VK → Prop := fun vs H Q => ∃ (a : Addr) (xs : List V) (bs : List Bool), vs = [.ref a] ∧ SqL K H a xs ∧ TrVs xs = some bs ∧ Q (.bl (bs.all id)) H
def rAnyT (K : PySem.W.Frag) : List V → Hp → VK → Prop := fun vs H Q => ∃ (a : Addr) (xs : List V) (bs : List Bool), vs = [.ref a] ∧ SqL K H a xs ∧ TrVs xs = some bs ∧ Q (.bl (bs.any id)) H
theorem cr_allT {X : Cx} (hc : X.calm = true) : CallR X (.builtin "all") (rAllT X.K) := by
  intro pins s σ H vs us Q I r h
  obtain ⟨a, xs, bs, rfl, hs, ht, q⟩ := h
  obtain ⟨its, rv, hl, _⟩ := Inv.list I hs
  obtain ⟨hlen, htr⟩ := truth_trs (prog := X.prog) (w := X.w) (A := X.A.in1) rv ht
  rw [Vals.ref1 r]
  refine call_all_walk (iter_any (PlainL.isList hl) fun s₂ e2 st hne => ?_)
  subst e2
  refine ⟨s.heap.objs.size, [s.heap.objs.size, a], [s.heap.objs.size], its.toArray.size, fun i v => its.toArray[i]? = some v, fun i h => h.IsListIter s.heap.objs.size a i ∧ h.IsList a its.toArray, fun i => bs.getD i false, rfl, Walks.list (A := X.A.in1) (I.ok.hd hc) s.heap.objs.size a hne its.toArray, st, fun i v s Q E hv q => htr i v s Q E (by have hv : its.toArray[i]? = some v := hv; rw [List.getElem?_toArray] at hv; exact hv) q, fun h' tk hk => ?_⟩
  have J : L2.Inv X pins σ H { heap := h', gens := s.gens, drawn := s.drawn, toks := tk, os := s.os } := Inv.kept I fun b o eo => hk b o (fun hm => by
    rw [List.mem_singleton.mp hm] at eo
    exact absurd (Heap.lt_size eo) (Nat.lt_irrefl _)) (Heap.get?_push_of_some _ eo)
  refine ⟨.bl (bs.all id), H, J, ?_, q⟩
  show Value.bool _ = Value.bool _
  rw [List.size_toArray, hlen, L2.all_range]
theorem cr_anyT {X : Cx} (hc : X.calm = true) : CallR X (.builtin "any") (rAnyT X.K) := by
  intro pins s σ H vs us Q I r h
  obtain ⟨a, xs, bs, rfl, hs, ht, q⟩ := h
  obtain ⟨its, rv, hl, _⟩ := Inv.list I hs
  obtain ⟨hlen, htr⟩ := truth_trs (prog := X.prog) (w := X.w) (A := X.A.in1) rv ht
  rw [Vals.ref1 r]
  refine call_any_walk (iter_any (PlainL.isList hl) fun s₂ e2 st hne => ?_)
  subst e2
  refine ⟨s.heap.objs.size, [s.heap.objs.size, a], [s.heap.objs.size], its.toArray.size, fun i v => its.toArray[i]? = some v, fun i h => h.IsListIter s.heap.objs.size a i ∧ h.IsList a its.toArray, fun i => bs.getD i false, rfl, Walks.list (A := X.A.in1) (I.ok.hd hc) s.heap.objs.size a hne its.toArray, st, fun i v s Q E hv q => htr i v s Q E (by have hv : its.toArray[i]? = some v := hv; rw [List.getElem?_toArray] at hv; exact hv) q, fun h' tk hk => ?_⟩
  have J : L2.Inv X pins σ H { heap := h', gens := s.gens, drawn := s.drawn, toks := tk, os := s.os } := Inv.kept I fun b o eo => hk b o (fun hm => by
    rw [List.mem_singleton.mp hm] at eo
    exact absurd (Heap.lt_size eo) (Nat.lt_irrefl _)) (Heap.get?_push_of_some _ eo)
  refine ⟨.bl (bs.any id), H, J, ?_, q⟩
  show Value.bool _ = Value.bool _
  rw [List.size_toArray, hlen, L2.any_range]
def trsOf : List D → Option (List Bool)
  | [] => some []
  | .bl b :: ds => (trsOf ds).map (b :: ·)
  | .int i :: ds => (trsOf ds).map ((i != 0) :: ·)
  | _ => none
theorem reps_trs {K : PySem.W.Frag} {mg : Gm} {I : Hp} : ∀ {vs : List V} {ds : List D} {bs : List Bool}, Reps K mg I vs ds → trsOf ds = some bs → TrVs vs = some bs
  | _, _, _, .nil, h => h
  | _, _, bs, .cons (d := d) (ds := ds) r rs, h => by
    cases r with
    | bl b =>
      have h : (trsOf ds).map (b :: ·) = some bs := h
      cases e : trsOf ds with
      | none =>
        rw [e] at h
        cases h
      | some cs =>
        rw [e] at h
        cases h
        simp only [TrVs, TrV, reps_trs rs e]
    | int i =>
      have h : (trsOf ds).map ((i != 0) :: ·) = some bs := h
      cases e : trsOf ds with
      | none =>
        rw [e] at h
        cases h
      | some cs =>
        rw [e] at h
        cases h
        simp only [TrVs, TrV, reps_trs rs e]
    | _ => cases h
def anyT : List D → R D
  | [.lst ds] => match trsOf ds with
    | some bs => .ok (.bl (bs.any id))
    | none => .stuck
  | _ => .stuck
def allT : List D → R D
  | [.lst ds] => match trsOf ds with
    | some bs => .ok (.bl (bs.all id))
    | none => .stuck
  | _ => .stuck
theorem cs_anyT {K : PySem.W.Frag} {mg : Gm} : CSn K mg (rAnyT K) anyT := by
  intro xs I H ds d Q ex rs h q
  unfold anyT at h
  split at h
  · rename_i es
    obtain ⟨v, rfl, r⟩ := reps1 rs
    cases e : trsOf es with
    | none =>
      rw [e] at h
      cases h
    | some bs =>
      rw [e] at h
      cases h
      cases r with
      | lst hh ra => exact ⟨_, _, bs, rfl, SqL.of (ex _ _ hh), reps_trs ra e, q _ _ _ (.refl ex) (.bl _)⟩
  · cases h
theorem cs_allT {K : PySem.W.Frag} {mg : Gm} : CSn K mg (rAllT K) allT := by
  intro xs I H ds d Q ex rs h q
  unfold allT at h
  split at h
  · rename_i es
    obtain ⟨v, rfl, r⟩ := reps1 rs
    cases e : trsOf es with
    | none =>
      rw [e] at h
      cases h
    | some bs =>
      rw [e] at h
      cases h
      cases r with
      | lst hh ra => exact ⟨_, _, bs, rfl, SqL.of (ex _ _ hh), reps_trs ra e, q _ _ _ (.refl ex) (.bl _)⟩
  · cases h
end DL
namespace DL
open PySem PySem.Spec PyProof.Rows L2

/-! ### methods -/
def tMethS (C : Addr) (m : Str) (sp : Sp) (E : XS) (ta : TE) (t : TA) : TE := fun σ H Q => ta σ H fun x H1 => ∃ a dx fs, x = .ref a ∧ H1 a = some (.ins C dx fs) ∧ fs.lookup m = none ∧ t σ H1 fun vs H2 => sp (x :: vs) H2 Q (E σ)
theorem pe_methS {X : Cx} {CX : CXT} {k : Nat} {f C : Addr} {fd : FuncData} {ps : List Str} {sp : Sp} {E : XS} {m : Str} {pos apos : Pos} {e o : Expr} {es : List Expr} {ta : TE} {t : TA} {pl : Sem Bool} (he : PE X o ta) (c : Cls X.K C) (hm : Meth X.K C m f) (F : FnOk X.prog X.w X.K X.mg X.base CX k f fd ps sp) (hr : Room k X.A) (hb : Binds X.K fd ps []) (hx : ∀ σ, PassesAt CX X σ (E σ)) (ha : PA X (e :: es) t)
    (hst : starEach (e :: es) X.env = (false, eval e X.env) :: starEach es X.env) (hpl : (backTo pos (starEach es X.env)).any (·.1) = false)
    (ht : eval (.Call (.Attribute o m apos) (e :: es) [] pos) X.env = (do
      let ov ← eval o X.env
      standAt apos.atName
      let (f, first) ← holding [ov] (getMethod ov m pl)
      callWith pos f first (backTo pos (starEach (e :: es) X.env)) (backToKw pos (keywordEach [] X.env)))) : PE X (.Call (.Attribute o m apos) (e :: es) [] pos) (tMethS C m sp E ta t) := by
  refine ⟨fun pins s σ H Q I h => PySem.W.methodCall_KW (thn (he.run pins s σ H _ I h) fun u s1 hh => ?_) ht⟩
  obtain ⟨x, H1, I1, rx, a, dx, fs, ex, ea, l, q⟩ := hh
  subst ex
  obtain rfl : u = Value.ref a := rx
  refine getmeth_ok I1 ea c hm l (PySem.W.callWith_K I.ok.mod.kin hm.kp (thn (ha.run pos pins s1 σ H1 _ I1 q) fun us s2 hh => ?_) hst hpl)
  obtain ⟨vs, H2, I2, r, q2⟩ := hh
  exact ⟨I2.kIn, run_fnS F hr hb (hx σ) I2 (Paired.cons (show RelV (.ref a) (.ref a) from rfl) r) q2⟩
def tMethS0 (C : Addr) (m : Str) (sp : Sp) (E : XS) (ta : TE) : TE := fun σ H Q => ta σ H fun x H1 => ∃ a dx fs, x = .ref a ∧ H1 a = some (.ins C dx fs) ∧ fs.lookup m = none ∧ sp [x] H1 Q (E σ)
theorem pe_methS0 {X : Cx} {CX : CXT} {k : Nat} {f C : Addr} {fd : FuncData} {ps : List Str} {sp : Sp} {E : XS} {m : Str} {pos apos : Pos} {o : Expr} {ta : TE} {pl : Sem Bool} (he : PE X o ta) (c : Cls X.K C) (hm : Meth X.K C m f) (F : FnOk X.prog X.w X.K X.mg X.base CX k f fd ps sp) (hr : Room k X.A) (hb : Binds X.K fd ps []) (hx : ∀ σ, PassesAt CX X σ (E σ))
    (ht : eval (.Call (.Attribute o m apos) [] [] pos) X.env = (do
      let ov ← eval o X.env
      standAt apos.atName
      let (f, first) ← holding [ov] (getMethod ov m pl)
      callWith pos f first (backTo pos (starEach [] X.env)) (backToKw pos (keywordEach [] X.env)))) : PE X (.Call (.Attribute o m apos) [] [] pos) (tMethS0 C m sp E ta) := by
  refine ⟨fun pins s σ H Q I h => PySem.W.methodCall_KW (thn (he.run pins s σ H _ I h) fun u s1 hh => ?_) ht⟩
  obtain ⟨x, H1, I1, rx, a, dx, fs, ex, ea, l, q⟩ := hh
  subst ex
  obtain rfl : u = Value.ref a := rx
  exact getmeth_ok I1 ea c hm l (PySem.W.callWith_K0 I1.kIn hm.kp (run_fnS F hr hb (hx σ) I1 (Paired.cons (show RelV (.ref a) (.ref a) from rfl) .nil) q))
/-- a method of a class of the text's own -/
structure MtAt (P : Program) (w : World) (K : PySem.W.Frag) (mg : Str → Option Value) (base : Heap) (n : Str) (C : Addr) (m : Str) (k na : Nat) (g : List D → R D) : Prop where
  ex : ∃ f fd ps, mg n = some (.ref C) ∧ Cls K C ∧ Meth K C m f ∧ FnOk P w K mg base (L2.CX P w) k f fd ps (spOf K (g0 mg) na g) ∧ Binds K fd ps []
def mthG (n m : Str) (na : Nat) (g : List D → R D) (o : D) (as : R (List D)) : R D := match o with
  | .obj n' ks _ => if n' = n ∧ m ∉ ks then as >>= fun es => if es.length + 1 = na then g (o :: es) else .stuck else .stuck
  | _ => .stuck
def mth (n m : Str) (na : Nat) (g : List D → R D) (a : R D) (as : R (List D)) : R D := a >>= fun o => mthG n m na g o as
theorem lookup_no {m : Str} : ∀ {fs : List (Str × V)}, m ∉ fs.map (·.1) → fs.lookup m = none
  | [], _ => rfl
  | (g, v) :: fs, h => by
    rw [List.lookup_cons, show (m == g) = false from by rw [beq_eq_false_iff_ne]; exact fun e => h (by simp [e])]
    exact lookup_no fun z => h (by simp at z ⊢; exact .inr z)
section
variable {X : Cx} {E : Wh} {P : Program} {w : World} {K : PySem.W.Frag} {mg : Str → Option Value} {base : Heap} {k j na : Nat} {g : List D → R D} {n m : Str} {C : Addr} {pos apos p : Pos} {e o : Expr} {es : List Expr} {ta : TE} {tas : TA} {ma : Env → R D} {ms : Env → R (List D)}
theorem me_meth {pl : Sem Bool} (F : MtAt P w K mg base n C m k na g) (hr : Room j X.A) (hx : ∀ σ, PassesAt (L2.CX X.prog X.w) X σ (E.e σ)) (ho : ME X E o ta ma) (ha : MA X E (e :: es) tas ms) (h0 : E.x = fun _ => none := by rfl) (hj : k ≤ j := by decide)
    (hP : X.prog = P := by rfl) (hw : X.w = w := by rfl) (hK : X.K = K := by rfl) (hmg : X.mg = mg := by rfl) (hb : X.base = base := by rfl)
    (hst : starEach (e :: es) X.env = (false, eval e X.env) :: starEach es X.env := by rfl) (hpl : (backTo pos (starEach es X.env)).any (·.1) = false := by rfl)
    (ht : eval (.Call (.Attribute o m apos) (e :: es) [] pos) X.env = (do
      let ov ← eval o X.env
      standAt apos.atName
      let (f, first) ← holding [ov] (getMethod ov m pl)
      callWith pos f first (backTo pos (starEach (e :: es) X.env)) (backToKw pos (keywordEach [] X.env))) := by rfl) :
    ME X E (.Call (.Attribute o m apos) (e :: es) [] pos) (tMethS C m (spOf K (g0 mg) na g) E.e ta tas) (fun ρ => mth n m na g (ma ρ) (ms ρ)) := by
  subst hP hw hK hmg hb
  obtain ⟨E1, E2⟩ := E
  have h0 : E2 = fun _ => none := h0
  subst h0
  obtain ⟨f, fd, ps, hC, c, hm, F1, hb⟩ := F.ex
  obtain ⟨pa, sa⟩ := ho
  obtain ⟨pt, st⟩ := ha
  refine ⟨pe_methS pa c hm F1 (hr.mono hj) hb hx pt hst hpl ht, fun σ I H ρ Q re ex h => ?_⟩
  refine sa.run re ex h fun d v I1 H1 _ s1 rx h => ?_
  cases rx with
  | @obj a C' dx n' fs ds ha hc ra =>
    have h : Out X.K (g0 X.mg) (E1 σ) (Rep X.K (g0 X.mg)) I1 H1 (if n' = n ∧ m ∉ fs.map (·.1) then ms ρ >>= fun es => if es.length + 1 = na then g (.obj n' (fs.map (·.1)) ds :: es) else .stuck else .stuck) Q := h
    obtain ⟨hc9, h8⟩ := out_if h
    obtain ⟨rfl, hn⟩ := hc9
    clear h
    have h := h8
    have e1 : C' = C := by
      have z := hc.symm.trans hC
      cases z
      rfl
    subst e1
    refine ⟨a, dx, fs, rfl, s1.e _ _ ha, lookup_no hn, st.run (re.mono s1.i) s1.e h fun ds2 vs I2 H2 _ s2 rs h => ?_⟩
    obtain ⟨hl, h⟩ := out_if h
    exact ⟨I2, _ :: ds2, by rw [List.length_cons]; exact hl, s2.e, .cons ((Rep.obj ha hc ra).mono s2.i) rs, h⟩
  | _ => exact h.elim
theorem me_meth0 {pl : Sem Bool} (F : MtAt P w K mg base n C m k na g) (hr : Room j X.A) (hx : ∀ σ, PassesAt (L2.CX X.prog X.w) X σ (E.e σ)) (ho : ME X E o ta ma) (h0 : E.x = fun _ => none := by rfl) (hj : k ≤ j := by decide)
    (hP : X.prog = P := by rfl) (hw : X.w = w := by rfl) (hK : X.K = K := by rfl) (hmg : X.mg = mg := by rfl) (hb : X.base = base := by rfl)
    (ht : eval (.Call (.Attribute o m apos) [] [] pos) X.env = (do
      let ov ← eval o X.env
      standAt apos.atName
      let (f, first) ← holding [ov] (getMethod ov m pl)
      callWith pos f first (backTo pos (starEach [] X.env)) (backToKw pos (keywordEach [] X.env))) := by rfl) :
    ME X E (.Call (.Attribute o m apos) [] [] pos) (tMethS0 C m (spOf K (g0 mg) na g) E.e ta) (fun ρ => mth n m na g (ma ρ) (.ok [])) := by
  subst hP hw hK hmg hb
  obtain ⟨E1, E2⟩ := E
  have h0 : E2 = fun _ => none := h0
  subst h0
  obtain ⟨f, fd, ps, hC, c, hm, F1, hb⟩ := F.ex
  obtain ⟨pa, sa⟩ := ho
  refine ⟨pe_methS0 pa c hm F1 (hr.mono hj) hb hx ht, fun σ I H ρ Q re ex h => ?_⟩
  refine sa.run re ex h fun d v I1 H1 _ s1 rx h => ?_
  cases rx with
  | @obj a C' dx n' fs ds ha hc ra =>
    have h : Out X.K (g0 X.mg) (E1 σ) (Rep X.K (g0 X.mg)) I1 H1 (if n' = n ∧ m ∉ fs.map (·.1) then (if ([] : List D).length + 1 = na then g [.obj n' (fs.map (·.1)) ds] else .stuck) else .stuck) Q := h
    obtain ⟨hc9, h8⟩ := out_if h
    obtain ⟨rfl, hn⟩ := hc9
    clear h
    have h := h8
    have e1 : C' = C := by
      have z := hc.symm.trans hC
      cases z
      rfl
    subst e1
    obtain ⟨hl, h⟩ := out_if h
    exact ⟨a, dx, fs, rfl, s1.e _ _ ha, lookup_no hn, I1, [_], hl, s1.e, .cons (Rep.obj ha hc ra) .nil, h⟩
  | _ => exact h.elim
/-! ### properties -/
structure PrAt (P : Program) (w : World) (K : PySem.W.Frag) (mg : Str → Option Value) (base : Heap) (n : Str) (C : Addr) (m : Str) (k : Nat) (g : List D → R D) : Prop where
  ex : ∃ p f fd ps, mg n = some (.ref C) ∧ Cls K C ∧ PropOf K C m p f ∧ FnOk P w K mg base (L2.CX P w) k f fd ps (spOf K (g0 mg) 1 g) ∧ Binds K fd ps []
def prpG (n : Str) (g : List D → R D) (o : D) : R D := match o with
  | .obj n' _ _ => if n' = n then calm (g [o]) else .stuck
  | _ => .stuck
def prp (n : Str) (g : List D → R D) (a : R D) : R D := a >>= prpG n g
theorem me_prop (F : PrAt P w K mg base n C m k g) (hr : Room j X.A) (ho : ME X E o ta ma) (h0 : E.x = fun _ => none := by rfl) (hj : k + 1 ≤ j := by decide)
    (hP : X.prog = P := by rfl) (hw : X.w = w := by rfl) (hK : X.K = K := by rfl) (hmg : X.mg = mg := by rfl) (hb : X.base = base := by rfl) (hab : attributeBase o m X.env (eval o X.env) = eval o X.env := by rfl) :
    ME X E (.Attribute o m pos) (tProp C (spOf K (g0 mg) 1 g) [] E0 ta) (fun ρ => prp n g (ma ρ)) := by
  subst hP hw hK hmg hb
  obtain ⟨E1, E2⟩ := E
  have h0 : E2 = fun _ => none := h0
  subst h0
  obtain ⟨q, f, fd, ps, hC, c, hp, F1, hb⟩ := F.ex
  obtain ⟨pa, sa⟩ := ho
  refine ⟨pe_prop pa c hp F1 (hr.mono hj) hb .nil passL hab, fun σ I H ρ Q re ex h => ?_⟩
  refine sa.run re ex h fun d v I1 H1 _ s1 rx h => ?_
  cases rx with
  | @obj a C' dx n' fs ds ha hc ra =>
    have h : Out X.K (g0 X.mg) (E1 σ) (Rep X.K (g0 X.mg)) I1 H1 (if n' = n then calm (g [.obj n' (fs.map (·.1)) ds]) else .stuck) Q := h
    obtain ⟨hc9, h8⟩ := out_if h
    subst hc9
    clear h
    have h := h8
    have e1 : C' = C := by
      have z := hc.symm.trans hC
      cases z
      rfl
    subst e1
    obtain ⟨z, hz, h9⟩ := out_calm h
    refine ⟨a, dx, fs, rfl, s1.e _ _ ha, I1, [_], rfl, s1.e, .cons (Rep.obj ha hc ra) .nil, ?_⟩
    rw [hz]
    exact h9
  | _ => exact h.elim
end
/-! ### class methods -/
structure CmAt (P : Program) (w : World) (K : PySem.W.Frag) (mg : Str → Option Value) (base : Heap) (n : Str) (C : Addr) (m : Str) (k na : Nat) (g : List D → R D) : Prop where
  ex : ∃ mc p f fd ps, mg n = some (.ref C) ∧ ClX.CRead K C mc ∧ ClX.CMet K C mc m p f ∧ FnOk P w K mg base (L2.CX P w) k f fd ps (spOf K (g0 mg) na g) ∧ Binds K fd ps []
theorem FnOk.fnR {P : Program} {w : World} {K : PySem.W.Frag} {mg : Str → Option Value} {base : Heap} {CX : CXT} {k : Nat} {f : Addr} {fd : FuncData} {ps : List Str} {sp : Sp} (F : FnOk P w K mg base CX k f fd ps sp) (hb : Binds K fd ps []) : FnR P w K mg base CX k f sp := fun A outer s H us vs Q E hr he hv h => F.run A outer s H ⟨us, []⟩ us vs Q E hr he (by
  have hl : us.length = ps.length := (Vals.length hv).symm.trans (F.len vs H Q E h)
  have b := hb s us (he.mod.kin.keeps fun b o e => (he.bs b o e).1) (by rw [List.append_nil]; exact hl)
  rw [List.append_nil] at b
  exact b) hv h
def cmM (n : Str) (na : Nat) (g : List D → R D) (a : R D) (as : R (List D)) : R D := a >>= fun o => match o with
  | .cls n' => if n' = n then as >>= fun es => if es.length + 1 = na then g (o :: es) else .stuck else .stuck
  | _ => .stuck
section
variable {X : Cx} {E : XK} {P : Program} {w : World} {K : PySem.W.Frag} {mg : Str → Option Value} {base : Heap} {k j na : Nat} {g : List D → R D} {n m : Str} {C : Addr} {pos apos p : Pos} {e o : Expr} {es : List Expr} {ta : TE} {tas : TA} {ma : Env → R D} {ms : Env → R (List D)}
theorem me_cmeth {pl : Sem Bool} (F : CmAt P w K mg base n C m k na g) (hr : Room j X.A) (tk : Takes X (fun cls d _ H => E cls d H)) (ho : ME X (kE E) o ta ma) (ha : MA X (kE E) (e :: es) tas ms) (hj : k ≤ j := by decide)
    (hP : X.prog = P := by rfl) (hw : X.w = w := by rfl) (hK : X.K = K := by rfl) (hmg : X.mg = mg := by rfl) (hb : X.base = base := by rfl)
    (hst : starEach (e :: es) X.env = (false, eval e X.env) :: starEach es X.env := by rfl) (hpl : (backTo pos (starEach es X.env)).any (·.1) = false := by rfl)
    (ht : eval (.Call (.Attribute o m apos) (e :: es) [] pos) X.env = (do
      let ov ← eval o X.env
      standAt apos.atName
      let (f, first) ← holding [ov] (getMethod ov m pl)
      callWith pos f first (backTo pos (starEach (e :: es) X.env)) (backToKw pos (keywordEach [] X.env))) := by rfl) :
    ME X (kE E) (.Call (.Attribute o m apos) (e :: es) [] pos) (ClX.tCMeth C (spOf K (g0 mg) na g) E ta tas) (fun ρ => cmM n na g (ma ρ) (ms ρ)) := by
  subst hP hw hK hmg hb
  obtain ⟨mc, q, f, fd, ps, hC, r, c, F1, hb⟩ := F.ex
  obtain ⟨pa, sa⟩ := ho
  obtain ⟨pt, st⟩ := ha
  refine ⟨ClX.pe_cmeth pa r c (FnOk.fnR F1 hb) (hr.mono hj) (passes_call (W := fun cls d _ H => E cls d H) tk fun _ _ _ _ h => h) pt hst hpl ht, fun σ I H ρ Q re ex h => ?_⟩
  refine sa.run re ex h fun d v I1 H1 _ s1 rx h => ?_
  cases rx with
  | @cls n' C' hc =>
    have h : Out X.K (g0 X.mg) E (Rep X.K (g0 X.mg)) I1 H1 (if n' = n then ms ρ >>= fun es => if es.length + 1 = na then g (.cls n' :: es) else .stuck else .stuck) Q := h
    obtain ⟨hc9, h8⟩ := out_if h
    subst hc9
    clear h
    have h := h8
    have e1 : C' = C := by
      have z := hc.symm.trans hC
      cases z
      rfl
    subst e1
    refine ⟨rfl, st.run (re.mono s1.i) s1.e h fun ds2 vs I2 H2 _ s2 rs h => ?_⟩
    obtain ⟨hl, h⟩ := out_if h
    exact ⟨I2, _ :: ds2, by rw [List.length_cons]; exact hl, s2.e, .cons (.cls hc) rs, h⟩
  | _ => exact h.elim
end
/-! ### cls(..) -/
def tMakeV (i : Nat) (C : Addr) (sp : Sp) (E : XS) (t : TA) : TE := fun σ H Q => σ[i]? = some (some (.ref C)) ∧ tMakeS C sp E t σ H Q
theorem pe_makeV {X : Cx} {CX : CXT} {k i : Nat} {f C : Addr} {fd : FuncData} {ps : List Str} {sp : Sp} {E : XS} {x : Str} {p pos : Pos} {e : Expr} {es : List Expr} {t : TA} (M : Mk X.K C f) (F : FnOk X.prog X.w X.K X.mg X.base CX k f fd ps sp) (hr : Room (k + 1) X.A) (hb : Binds X.K fd ps []) (hx : ∀ σ, PassesAt CX X σ (E σ)) (hN : X.N[i]? = some x) (hv : Vis X.env.scope x) (ha : PA X (e :: es) t)
    (hd : (x == ("__debug__" : Str)) = false) (hcd : (x == ("__classdict__" : Str)) = false) (he : starEach (e :: es) X.env = (false, eval e X.env) :: starEach es X.env) (hpl : (backTo pos (starEach es X.env)).any (·.1) = false) : PE X (.Call (.Name x p) (e :: es) [] pos) (tMakeV i C sp E t) :=
  ⟨fun pins s σ H Q I ⟨hs, h⟩ => by
    refine wpAny_Call_Name_kw (thn ((pe_var hN hv hd hcd).run pins s σ H (fun v H1 => v = .ref C ∧ H1 = H) I ⟨_, hs, rfl, rfl⟩) fun u s1 hh => ?_)
    obtain ⟨v, H1, I1, r1, ev, eH⟩ := hh
    subst ev eH
    obtain rfl : u = Value.ref C := r1
    refine PySem.W.callWith_K (h₀ := X.base) I.ok.mod.kin M.kp (thn (ha.run pos pins s1 σ _ _ I1 h) fun us s2 hh => ?_) he hpl
    obtain ⟨vs, H2, I2, r, q⟩ := hh
    exact ⟨I2.kIn, run_makeS M F hr hb (hx σ) I2 r q⟩⟩
def mkV (i : Nat) (n : Str) (na : Nat) (g : List D → R D) (ρ : Env) (as : R (List D)) : R D := match ρ[i]? with
  | some (some (.cls n')) => if n' = n then call_ na g as else .stuck
  | _ => .stuck
theorem me_makeV {X : Cx} {E : Wh} {P : Program} {w : World} {K : PySem.W.Frag} {mg : Str → Option Value} {base : Heap} {C : Addr} {k j n i : Nat} {g : List D → R D} {nm x : Str} {p pos : Pos} {e : Expr} {es : List Expr} {tas : TA} {ms : Env → R (List D)} (F : CkAt P w K mg base nm C k n g) (hr : Room j X.A) (hx : ∀ σ, PassesAt (L2.CX X.prog X.w) X σ (E.e σ)) (ha : MA X E (e :: es) tas ms) (h0 : E.x = fun _ => none := by rfl) (hj : k + 1 ≤ j := by decide)
    (hN : X.N[i]? = some x := by rfl) (hv : Vis X.env.scope x := by first | exact Or.inl rfl | exact Or.inr (Or.inl rfl)) (hP : X.prog = P := by rfl) (hw : X.w = w := by rfl) (hK : X.K = K := by rfl) (hm : X.mg = mg := by rfl) (hb : X.base = base := by rfl)
    (hdb : (x == ("__debug__" : Str)) = false := by decide) (hcd : (x == ("__classdict__" : Str)) = false := by decide) (he : starEach (e :: es) X.env = (false, eval e X.env) :: starEach es X.env := by rfl) (hpl : (backTo pos (starEach es X.env)).any (·.1) = false := by rfl) :
    ME X E (.Call (.Name x p) (e :: es) [] pos) (tMakeV i C (spMk K mg nm n g) E.e tas) (fun ρ => mkV i nm n g ρ (ms ρ)) := by
  subst hP hw hK hm hb
  obtain ⟨E1, E2⟩ := E
  have h0 : E2 = fun _ => none := h0
  subst h0
  obtain ⟨fI, fd, ps, M, F1, hb⟩ := F.ex
  obtain ⟨pt, st⟩ := ha
  refine ⟨pe_makeV M F1 (hr.mono hj) hb hx hN hv pt hdb hcd he hpl, fun σ I H ρ Q re ex h => ?_⟩
  cases q : (ρ : List (Option D))[i]? with
  | none =>
    simp only [mkV, q] at h
    exact h.elim
  | some o =>
    cases o with
    | none =>
      simp only [mkV, q] at h
      exact h.elim
    | some d =>
      obtain ⟨v, hv1, rv⟩ := re.at_ i d q
      cases rv with
      | @cls n' C' hc =>
        simp only [mkV, q] at h
        obtain ⟨hc9, h8⟩ := out_if h
        subst hc9
        clear h
        have h := h8
        have e1 : C' = C := by
          have z := hc.symm.trans F.m
          cases z
          rfl
        subst e1
        refine ⟨hv1, st.run re ex h fun ds vs I1 H1 _ s1 rs h => ?_⟩
        obtain ⟨hl, h⟩ := out_if h
        intro x0 dx n1 n2 hd
        refine ⟨I1, H1, x0, dx, C', vs, ds, rfl, hl, F.m, n1, n2, hd, rfl, s1.e, rs, ?_⟩
        cases e1 : g ds with
        | ok d =>
          rw [e1] at h
          intro v I' H' t ⟨hv, r⟩
          exact ⟨hv, h _ I' H' t r⟩
        | err em es =>
          rw [e1] at h
          exact h
        | stuck =>
          rw [e1] at h
          exact h.elim
      | _ =>
        simp only [mkV, q] at h
        exact h.elim
/-! ### isinstance with classes of the text's own -/
structure OcOk (K : PySem.W.Frag) (C : Addr) : Prop where
  c : Cls K C
  a : PySem.W.findIn K (.ref C) "__class__" = some (some (.builtin "object.__class__"))
  s : PySem.W.specialIn K (.builtin "object.__class__") "__get__" = some (some (.builtin "getset_descriptor.__get__"))
  t : PySem.W.takesIn K (.builtin "object.__class__") = some true
  m : PySem.W.mroIn K C (.type "object") = some true
/-- which class is below which; what of an object of one's own and a built-in class; what of a built-in thing and a class of one's own -/
structure OSub (K : PySem.W.Frag) (mg : Str → Option Value) (T : Str → Str → Option Bool) (B : Str → String → Option Bool) (Z : String → Str → Option Bool) : Prop where
  cl : ∀ n C, (∃ c b, T n c = some b) ∨ (∃ c b, B n c = some b) → mg n = some (.ref C) → OcOk K C
  own : ∀ n c b C u, T n c = some b → mg n = some (.ref C) → mg c = some u → PySem.W.kitOne K (.ref C) u = some b
  bt : ∀ n c b C, B n c = some b → mg n = some (.ref C) → PySem.W.kitOne K (.ref C) (.type c) = some b
  bo : ∀ t c b u, Z t c = some b → mg c = some u → PySem.W.kitOne K (.type t) u = some b
def isoD (T : Str → Str → Option Bool) (B : Str → String → Option Bool) (Z : String → Str → Option Bool) : List D → R D
  | [.obj n ks ds, .cls c] => match T n c with | some b => .ok (.bl b) | none => .stuck
  | [.obj n ks ds, .ty c] => match B n c with | some b => .ok (.bl b) | none => .stuck
  | [x, .cls c] => match tyOf x with
    | some t => match Z t c with
      | some b => .ok (.bl b)
      | none => .stuck
    | none => .stuck
  | ds => isiD ds
theorem cs_iso {K : PySem.W.Frag} {gm : Gm} {T : Str → Str → Option Bool} {B : Str → String → Option Bool} {Z : String → Str → Option Bool} (S : OSub K gm.mg T B Z) : CSn K gm (rIsi K) (isoD T B Z) := by
  intro xs I H ds d Q ex rs h q
  unfold isoD at h
  split at h
  · rename_i n ks es c
    obtain ⟨v, w, rfl, r, r2⟩ := reps2 rs
    cases r with
    | @obj a C dx n fs es ha hc ra =>
      cases r2 with
      | @cls c C2 hc2 =>
        cases e : T n c with
        | none =>
          rw [e] at h
          cases h
        | some b =>
          rw [e] at h
          cases h
          have k := S.cl n C (.inl ⟨c, b, e⟩) hc
          exact ⟨_, _, _, _, b, rfl, .own C2, .base (.ins (ex _ _ ha) k.c k.a k.s k.t k.m), S.own n c b C _ e hc hc2, q _ _ _ (.refl ex) (.bl _)⟩
  · rename_i n ks es c
    obtain ⟨v, w, rfl, r, r2⟩ := reps2 rs
    cases r with
    | @obj a C dx n fs es ha hc ra =>
      cases r2 with
      | ty c =>
        cases e : B n c with
        | none =>
          rw [e] at h
          cases h
        | some b =>
          rw [e] at h
          cases h
          have k := S.cl n C (.inr ⟨c, b, e⟩) hc
          exact ⟨_, _, _, _, b, rfl, .ty c, .base (.ins (ex _ _ ha) k.c k.a k.s k.t k.m), S.bt n c b C e hc, q _ _ _ (.refl ex) (.bl _)⟩
  · rename_i x c _
    obtain ⟨v, w, rfl, r, r2⟩ := reps2 rs
    cases r2 with
    | @cls c C2 hc2 =>
      cases e : tyOf x with
      | none =>
        rw [e] at h
        cases h
      | some t =>
        rw [e] at h
        have h : (match Z t c with | some b => R.ok (D.bl b) | none => .stuck) = R.ok d := h
        cases e2 : Z t c with
        | none =>
          rw [e2] at h
          cases h
        | some b =>
          rw [e2] at h
          cases h
          exact ⟨_, _, _, _, b, rfl, .own C2, (r.mono ex).tyx e, S.bo t c b _ e2 hc2, q _ _ _ (.refl ex) (.bl _)⟩
  · exact cs_isi xs I H ds d Q ex rs h q
end DL
namespace DL
open PySem PySem.Spec PyProof.Rows L2

/-! ### {k: v for ..} with tuples as keys -/
def tDcT (wi : TI) (g : TG) (tt : TT) (tk tv : TE) (vs : List Nat) : TE := fun σ H Q => wi σ H fun J H1 => ∀ D, H1 D = none →
  ∃ W : Nat → Nat → Hp → Prop, (∃ m, W 0 m (upd H1 D (.dT []))) ∧ ∀ i m H, W i m H → (J.stop i H ∧ Q (.ref D) H) ∨ (J.go i H ∧ ∃ Nx : Hp → Prop, (∀ H', Nx H' → ∃ m', m' < m ∧ W (i + 1) m' H') ∧
    ∀ x H', J.yld i H x H' → g x (wipe σ vs) H' fun σ2 H2 => wipe σ2 vs = wipe σ vs ∧ tt σ2 H2 fun b H3 => if b = true then tk σ2 H3 fun y H4 => tv σ2 H4 fun z H5 => ∃ (kvs : List (List Key × V)) (k : List Key) (q : Addr), y = .ref q ∧ H5 q = some (.tup (k.map kV)) ∧ H5 D = some (.dT kvs) ∧ kvs.length < sizeLine ∧ Nx (upd H5 D (.dT (putK kvs k z))) else Nx H3)
theorem dt_dictSet {X : Cx} {pins : List (Addr × Obj)} {σ : L2.St} {H : Hp} {s : Shared} {E : Value → Shared → Prop} {D b : Addr} {kvs : List (List Key × V)} {k : List Key} {v : V} {r : Value} {Q : Unit → Shared → Prop} (hu : X.A.units + 1 < cLine) (I : L2.Inv X pins σ H s) (e : H D = some (.dT kvs)) (eb : H b = some (.tup (k.map kV))) (hz : kvs.length < sizeLine) (rv : RelV v r) (h : ∀ s', L2.Inv X pins σ (upd H D (.dT (putK kvs k v))) s' → Q () s') :
    wpAny (model X.prog X.w) X.A (dictSet D (.ref b) r) Q E s := by
  obtain ⟨z, hd, xs, rel, dd⟩ := dt_of I.hok e
  have hz2 : xs.length ≤ sizeLine := by
    rw [← Paired.length rel]
    exact z
  have hl : (putK kvs k v).length ≤ sizeLine := by
    have := length_putK kvs k v
    omega
  refine wpAny_dictSet_heap ?_ (key_of I.hok eb) dd (fun h' dd' hs => ?_) hz2
  · exact Nat.lt_of_succ_lt hu
  · refine h { heap := h', gens := s.gens, drawn := s.drawn, toks := _, os := s.os } ?_
    obtain ⟨q, es, ep, hq, h2, h3, h4, h5⟩ := dd'
    refine d_write I (by rw [e]; trivial) hs ⟨q, hq⟩ ⟨hl, hd, storedH xs k b r, ?_, q, es, ep, hq, h2, h3, h4, h5.2⟩
    refine KT.keeps (KT.put rel k eb rv) fun c ys ec => ?_
    rw [upd_ne (ne_of ec e fun z => nomatch z)]
    exact ec
theorem pe_dcT {X : Cx} {kx vx tg iter : Expr} {ifs : List Expr} {scope : Scope} {own : List (Str × Nat)} {pos : Pos} {wi : TI} {g : TG} {tt : TT} {tk tv : TE} (hu : X.A.units + 1 < cLine) (hc : X.calm = true) (hN : X.N.Nodup) (hi : PI X tg iter wi) (ok : BlkOk X.N X.env.scope scope own)
    (hg : ∀ (s : Shared) (H : Hp) (C : Addr) (cl : List (Str × Addr)) (fp : List Addr), PG (X.blk s H scope (compEnvC scope cl C X.env) fp) tg g) (ht : ∀ (s : Shared) (H : Hp) (C : Addr) (cl : List (Str × Addr)) (fp : List Addr), PTs (X.blk s H scope (compEnvC scope cl C X.env) fp) ifs tt)
    (hk : ∀ (s : Shared) (H : Hp) (C : Addr) (cl : List (Str × Addr)) (fp : List Addr), PE (X.blk s H scope (compEnvC scope cl C X.env) fp) kx tk) (he : ∀ (s : Shared) (H : Hp) (C : Addr) (cl : List (Str × Addr)) (fp : List Addr), PE (X.blk s H scope (compEnvC scope cl C X.env) fp) vx tv) (hs : ∀ x, foldedSetIterable iter X.env x = pure x := by intro _; rfl) :
    PE X (.DictComp kx vx [⟨tg, iter, ifs, 0⟩] scope pos) (tDcT wi g tt tk tv (own.map (·.2))) := by
  refine ⟨fun pins s σ H Q I h => ?_⟩
  rw [arm_eval_DictComp]
  have hfree : ∀ (y : Str × NameKind), y ∈ scope.names → y.snd = NameKind.free → ∃ c, List.lookup y.fst X.env.cells = some c := fun y hy e => by
    rcases ok.free y hy e with k | k
    · exact I.ok.has y.fst (.inl k)
    · exact I.ok.has y.fst (.inr k)
  refine wpAny_comprehension_free rfl hs (closure_ok hfree) ok.kind (fun y hy e => by rw [ok.uniq y hy, e]) (thn (hi.run pins s σ H _ I h) fun xv s1 hx => thn hx fun itv s2 h2 => ?_)
  obtain ⟨it, fp, tn, J, H2, rfl, I2, T, st2, f2, q⟩ := h2
  refine wpAny_newObj_type (newEnv_comp ?_)
  have hDn : H2 s2.heap.objs.size = none := HOk.fresh I2.hok (Nat.le_refl _)
  obtain ⟨W, ⟨m0, w0⟩, turn⟩ := q s2.heap.objs.size hDn
  have I3 : L2.Inv X pins σ (upd H2 s2.heap.objs.size (.dT [])) { heap := s2.heap.push { cls := .type "dict", data := .dict #[] }, gens := s2.gens, drawn := s2.drawn, toks := s2.toks, os := s2.os } := Inv.laid I2 (fun b o e => Heap.get?_push_of_some _ e) (Nat.le_refl _) (dt_empty s2.heap (Inv.big I2))
  generalize hS : ({ heap := s2.heap.push { cls := .type "dict", data := .dict #[] }, gens := s2.gens, drawn := s2.drawn, toks := s2.toks, os := s2.os } : Shared) = S3 at I3 ⊢
  have h3 : S3.heap = s2.heap.push { cls := .type "dict", data := .dict #[] } := by rw [← hS]
  have f3 : ∀ b ∈ fp, FpOk X pins (upd H2 s2.heap.objs.size (.dT [])) b ∧ b < S3.heap.objs.size := fun b hb => by
    obtain ⟨o, e, _⟩ := T.obj 0 s2.heap st2 b hb
    have hlt := Heap.lt_size e
    refine ⟨⟨?_, (f2 b hb).2⟩, ?_⟩
    · rw [upd_ne (Nat.ne_of_lt hlt)]
      exact (f2 b hb).1
    · rw [h3, Heap.size_push]
      exact Nat.lt_succ_of_lt hlt
  have st3 := T.keep 0 s2.heap S3.heap st2 fun b x o e => by
    rw [h3]
    exact Heap.get?_push_of_some _ e
  have I4 := block_start I3 ok hN f3
  have pg := hg S3 (upd H2 s2.heap.objs.size (.dT [])) S3.heap.objs.size (cellsFrom (S3.heap.objs.size + 1) scope.names (cloFrom X.env.cells scope.names [])) fp
  have pt := ht S3 (upd H2 s2.heap.objs.size (.dT [])) S3.heap.objs.size (cellsFrom (S3.heap.objs.size + 1) scope.names (cloFrom X.env.cells scope.names [])) fp
  have pk := hk S3 (upd H2 s2.heap.objs.size (.dT [])) S3.heap.objs.size (cellsFrom (S3.heap.objs.size + 1) scope.names (cloFrom X.env.cells scope.names [])) fp
  have pe := he S3 (upd H2 s2.heap.objs.size (.dT [])) S3.heap.objs.size (cellsFrom (S3.heap.objs.size + 1) scope.names (cloFrom X.env.cells scope.names [])) fp
  show codeAny (model X.prog X.w) X.A (.compStart (.DictComp kx vx [⟨tg, iter, ifs, 0⟩] scope pos) 0 (.ref it) (.ref s2.heap.objs.size) (compEnvC scope (cellsFrom (S3.heap.objs.size + 1) scope.names (cloFrom X.env.cells scope.names [])) S3.heap.objs.size X.env)) _ _
  have cL : (compEnvC scope (cellsFrom (S3.heap.objs.size + 1) scope.names (cloFrom X.env.cells scope.names [])) S3.heap.objs.size X.env).locals = S3.heap.objs.size := rfl
  generalize hCE : compEnvC scope (cellsFrom (S3.heap.objs.size + 1) scope.names (cloFrom X.env.cells scope.names [])) S3.heap.objs.size X.env = CE at I4 pg pt pk pe cL ⊢
  have nfp : ∀ b ∈ fp, (upd H2 s2.heap.objs.size (.dT [])) b = none := fun b hb => (f3 b hb).1.1
  have st4 := T.keep 0 S3.heap (pushCells (S3.heap.push { cls := .type "dict", data := .dict #[] }) scope.names) st3 fun b x o e => pushCells_keeps scope.names _ b o (Heap.get?_push_of_some _ e)
  have stat : ∀ {σ' : L2.St} {H' : Hp} {s' : Shared}, L2.Inv (X.blk S3 (upd H2 s2.heap.objs.size (.dT [])) scope CE fp) [] σ' H' s' → (∀ b ∈ fp, H' b = none) → ∀ b ∈ fp, FpOk (X.blk S3 (upd H2 s2.heap.objs.size (.dT [])) scope CE fp) [] H' b := fun I' hn b hb => ⟨hn b hb, (I'.ok.exf b hb).1, I'.ok.exfs b hb, .inl hb, fun x c e => (I'.ok.exf b hb).2 x c e, fun p hp => absurd hp (by simp)⟩
  have loop := compLoop_anyD (R := compPost (model X.prog X.w) X.A X.xe none (EP X pins σ Q) (.ref s2.heap.objs.size) S3.heap.objs.size) (kx := kx) (vx := vx) (target := tg) (iter := iter) (ifs := ifs) (scope := scope) (pos := pos) (it := .ref it) (D := s2.heap.objs.size) (env := CE)
    (fun n s' => ∃ i H', L2.Inv (X.blk S3 (upd H2 s2.heap.objs.size (.dT [])) scope CE fp) [] (wipe σ (own.map (·.2))) H' s' ∧ tn i s'.heap ∧ (∀ b ∈ fp, H' b = none) ∧ W i n H')
    (fun n s5 ⟨i, H5, I5, st5, n5, w5⟩ => by
      rcases turn i n H5 w5 with ⟨stop, qq⟩ | ⟨go, Nx, hNx, step⟩
      · have td := T.done (X.blk S3 (upd H2 s2.heap.objs.size (.dT [])) scope CE fp) rfl rfl rfl hc i [] s5 _ H5 (fun _ _ => False) I5 (stat I5 n5) st5 stop
        refine thnF td fun r s6 hh => ?_
        obtain ⟨rfl, I6⟩ := hh
        have I7 := Inv.call' I3 I6.os I6.base I6.hok I6.bare fun b hb => ⟨(f3 b hb).1.2.2.2.1, (f3 b hb).1.2.1, (f3 b hb).1.2.2.2.2.1, (f3 b hb).1.2.2.2.2.2⟩
        have nC : H5 S3.heap.objs.size = none := by
          have z := I6.free
          rw [← cL]
          exact z
        obtain ⟨m, hn, _⟩ := I6.loc
        have hn : s6.heap.Ns CE.locals m := hn
        rw [cL] at hn
        obtain ⟨g0, g1, g2, g3, g4, g5⟩ := Inv.fpOk I3 (Nat.le_refl _) nC
        exact ⟨m, hn, fun h'' sb => ⟨.ref s2.heap.objs.size, H5, Inv.turned I7 (fun b o hb e => (sb.right b hb).trans e) g0 g1 g3 g4 g5, rfl, qq⟩⟩
      · have ti := T.item (X.blk S3 (upd H2 s2.heap.objs.size (.dT [])) scope CE fp) rfl rfl rfl hc i [] s5 _ H5 (fun _ _ => False) I5 (stat I5 n5) st5 go
        refine thnF ti fun r s6 hh => ?_
        obtain ⟨u, rfl, h6⟩ := hh
        refine thnF h6 fun _ s7 hh => ?_
        obtain ⟨x, H7, I7, r7, y7, st7, n7⟩ := hh
        have I7' := Inv.pinned I7 (stat I7 n7) (T.obj (i + 1) s7.heap st7)
        refine thnF (pg.run ([] ++ pinsAt fp s7.heap) s7 _ H7 x u _ I7' r7 (step x H7 y7)) fun _ s8 hh => ?_
        obtain ⟨σ8, H8, I8, hw8, q8⟩ := hh
        refine thnF (pt.run ([] ++ pinsAt fp s7.heap) s8 σ8 H8 _ I8 q8) fun b s9 hh => ?_
        obtain ⟨H9, I9, q9⟩ := hh
        have fin : ∀ {s' : Shared} {H' : Hp}, L2.Inv (X.blk S3 (upd H2 s2.heap.objs.size (.dT [])) scope CE fp) ([] ++ pinsAt fp s7.heap) σ8 H' s' → Nx H' → ∃ m, m < n ∧ ∃ i H', L2.Inv (X.blk S3 (upd H2 s2.heap.objs.size (.dT [])) scope CE fp) [] (wipe σ (own.map (·.2))) H' s' ∧ tn i s'.heap ∧ (∀ b ∈ fp, H' b = none) ∧ W i m H' := by
          intro s' H' I' nx
          obtain ⟨m', hm, w'⟩ := hNx _ nx
          have pin' : ∀ b ∈ fp, ∀ o, s7.heap.get? b = some o → s'.heap.get? b = some o ∧ H' b = none := fun b hb o e => by
            have z := I'.pin (b, o) (List.mem_append_right _ (List.mem_append_right [] (mem_pinsAt hb e)))
            exact ⟨z.1, z.2.1⟩
          have hl : (wipe σ (own.map (·.2))).length = σ8.length := by rw [← hw8, wipe_length]
          refine ⟨m', hm, i + 1, H', Inv.weak (Inv.unpinned I') hl (fun j v e => (wipe_some (by rw [← hw8] at e; exact e)).1), T.keep (i + 1) s7.heap s'.heap st7 (fun b hb o e => (pin' b hb o e).1), fun b hb => ?_, w'⟩
          obtain ⟨o, e, _⟩ := T.obj (i + 1) s7.heap st7 b hb
          exact (pin' b hb o e).2
        cases b with
        | false => exact fin I9 q9
        | true =>
          refine thnF (pk.run ([] ++ pinsAt fp s7.heap) s9 σ8 H9 _ I9 q9) fun z s10 hh => ?_
          obtain ⟨yk, H10, I10, r10, q10⟩ := hh
          refine thnF (pe.run ([] ++ pinsAt fp s7.heap) s10 σ8 H10 _ I10 q10) fun z2 s11 hh => ?_
          obtain ⟨yv, H11, I11, r11, kvs, k, q, ek, eq, hD, hz, nx⟩ := hh
          subst ek
          obtain rfl : z = Value.ref q := r10
          exact dt_dictSet (X := X.blk S3 (upd H2 s2.heap.objs.size (.dT [])) scope CE fp) hu I11 hD eq hz r11 fun s12 I12 => fin I12 nx) m0 ⟨0, _, I4, st4, nfp, w0⟩
  exact codeAny_compStart_dict loop (T.self X.A 0 _ _ _ st4 loop)
end DL
namespace DL
open PySem PySem.Spec PyProof.Rows L2

/-! ### walks over a dict's keys: the dict is locked meanwhile -/
def keyDD : Key → D
  | .inl i => .int i
  | .inr x => .str x
def keysI : D → R (List D)
  | .dk ks _ => .ok (ks.map keyDD)
  | .dt ks _ => .ok (ks.map fun k => .tup (k.map keyDD))
  | _ => .stuck
theorem rep_key {K : PySem.W.Frag} {mg : Gm} {I : Hp} (k : Key) : Rep K mg I (kV k) (keyDD k) := by
  cases k with
  | inl i => exact .int i
  | inr x => exact .str x
theorem reps_keys {K : PySem.W.Frag} {mg : Gm} {I : Hp} : ∀ k : List Key, Reps K mg I (k.map kV) (k.map keyDD)
  | [] => .nil
  | a :: k => .cons (rep_key a) (reps_keys k)
/-- a tuple that stands may be told -/
theorem Stp.tup {I H : Hp} {q : Addr} {vs : List V} (e : Same I H) (h : H q = some (.tup vs)) : ∃ I', Stp I H I' H ∧ I' q = some (.tup vs) := by
  cases z : I q with
  | some o =>
    have y := e _ _ z
    rw [h] at y
    cases y
    exact ⟨I, .refl e, z⟩
  | none =>
    refine ⟨upd I q (.tup vs), ⟨fun a o w => ?_, .refl _, fun a o w => ?_, fun a o w => ?_⟩, upd_same⟩
    · rw [upd_ne (fun t => by subst t; rw [z] at w; cases w)]
      exact w
    · by_cases t : a = q
      · subst t
        rw [upd_same] at w
        cases w
        exact h
      · rw [upd_ne t] at w
        exact e _ _ w
    · by_cases t : a = q
      · subst t
        rw [upd_same] at w
        cases w
        exact .inr (.inr trivial)
      · rw [upd_ne t] at w
        exact .inl w
theorem it_keys {K : PySem.W.Frag} {mg : Gm} {I : Hp} {d : Addr} {o : Obj} {kvs : List (Key × V)} (h : I d = some (.frz o (.dK kvs))) : ItOk K mg I (Itk d o kvs) ((kvs.map (·.1)).map keyDD) := by
  intro I1 H e1 e2
  refine ⟨fun i x hx => ?_, e2 _ _ (e1 _ _ h), by simp⟩
  rw [List.getElem?_map, List.getElem?_map] at hx
  cases z : kvs[i]? with
  | none =>
    rw [z] at hx
    cases hx
  | some kv =>
    rw [z] at hx
    cases hx
    have hl := (List.getElem?_eq_some_iff.mp z).1
    refine ⟨⟨e2 _ _ (e1 _ _ h), hl⟩, fun y H' hy => ?_⟩
    obtain ⟨rfl, k, v, hk, rfl⟩ := hy
    rw [z] at hk
    cases hk
    exact ⟨I1, .refl e2, rep_key k⟩
theorem it_keysT {K : PySem.W.Frag} {mg : Gm} {I : Hp} {d : Addr} {o : Obj} {kvs : List (List Key × V)} (h : I d = some (.frz o (.dT kvs))) : ItOk K mg I (Itkt d o kvs) ((kvs.map (·.1)).map fun k => .tup (k.map keyDD)) := by
  intro I1 H e1 e2
  refine ⟨fun i x hx => ?_, e2 _ _ (e1 _ _ h), by simp⟩
  rw [List.getElem?_map, List.getElem?_map] at hx
  cases z : kvs[i]? with
  | none =>
    rw [z] at hx
    cases hx
  | some kv =>
    rw [z] at hx
    cases hx
    have hl := (List.getElem?_eq_some_iff.mp z).1
    refine ⟨⟨e2 _ _ (e1 _ _ h), hl⟩, fun y H' hy => ?_⟩
    obtain ⟨rfl, k, v, q, hk, rfl, hq⟩ := hy
    rw [z] at hk
    cases hk
    obtain ⟨I2, s2, h2⟩ := Stp.tup e2 hq
    exact ⟨I2, s2, .tup h2 (reps_keys k)⟩
/-! #### a dict is locked: the data are the same -/
section
variable {K : PySem.W.Frag} {mg : Gm} {I : Hp} {a : Addr} {od : Obj} {u : HO}
/-- a dict as it stands -/
def DctO : HO → Prop
  | .dK _ => True
  | .dT _ => True
  | _ => False
theorem lock_ne {b : Addr} {o : HO} (hu : DctO u) (ha : I a = some u) (h : I b = some o) (ho : ¬ DctO o) : (upd I a (.frz od u)) b = some o := by
  by_cases e : b = a
  · subst e
    rw [ha] at h
    cases h
    exact absurd hu ho
  · rw [upd_ne e]
    exact h
theorem lock_rd {b : Addr} {o : HO} (hu : DctO u) (ha : I a = some u) (h : Rd I b o) (hno : ∀ f x, o ≠ .frz f x) : Rd (upd I a (.frz od u)) b o := by
  by_cases e : b = a
  · subst e
    rcases h with h | ⟨f, h⟩
    · rw [ha] at h
      cases h
      exact .inr ⟨od, upd_same⟩
    · rw [ha] at h
      cases h
      exact hu.elim
  · rcases h with h | ⟨f, h⟩
    · exact .inl (by rw [upd_ne e]; exact h)
    · exact .inr ⟨f, by rw [upd_ne e]; exact h⟩
mutual
theorem Rep.lock (hu : DctO u) (ha : I a = some u) : ∀ {v : V} {d : D}, Rep K mg I v d → Rep K mg (upd I a (.frz od u)) v d
  | _, _, .non => .non
  | _, _, .bl b => .bl b
  | _, _, .int i => .int i
  | _, _, .str x => .str x
  | _, _, .lst h r => .lst (lock_ne hu ha h id) (Reps.lock hu ha r)
  | _, _, .tup h r => .tup (lock_ne hu ha h id) (Reps.lock hu ha r)
  | _, _, .scr h => .scr (by
      rcases h with (h | ⟨o, h⟩) | h
      · exact .inl (.inl (lock_ne hu ha h id))
      · exact .inl (.inr ⟨o, lock_ne hu ha h id⟩)
      · exact .inr h)
  | _, _, .rng h => .rng (lock_ne hu ha h id)
  | _, _, .ty n => .ty n
  | _, _, .cls h => .cls h
  | _, _, .obj h c r => .obj (lock_ne hu ha h id) c (Reps.lock hu ha r)
  | _, _, .dk h r => .dk (lock_rd hu ha h fun _ _ => nofun) (Reps.lock hu ha r)
  | _, _, .dt h r => .dt (lock_rd hu ha h fun _ _ => nofun) (Reps.lock hu ha r)
  | _, _, .exc x n h r => .exc x n (lock_ne hu ha h id) (Reps.lock hu ha r)
theorem Reps.lock (hu : DctO u) (ha : I a = some u) : ∀ {vs : List V} {ds : List D}, Reps K mg I vs ds → Reps K mg (upd I a (.frz od u)) vs ds
  | _, _, .nil => .nil
  | _, _, .cons h r => .cons (Rep.lock hu ha h) (Reps.lock hu ha r)
end
theorem unlock_ne {b : Addr} {o : HO} (ha : I a = some (.frz od u)) (h : I b = some o) (ho : ∀ f x, o ≠ .frz f x) : (upd I a u) b = some o := by
  by_cases e : b = a
  · subst e
    rw [ha] at h
    cases h
    exact absurd rfl (ho od u)
  · rw [upd_ne e]
    exact h
theorem unlock_rd {b : Addr} {o : HO} (ha : I a = some (.frz od u)) (h : Rd I b o) (hno : ∀ f x, o ≠ .frz f x) : Rd (upd I a u) b o := by
  by_cases e : b = a
  · subst e
    rcases h with h | ⟨f, h⟩
    · rw [ha] at h
      cases h
      exact absurd rfl (hno od u)
    · rw [ha] at h
      cases h
      exact .inl upd_same
  · rcases h with h | ⟨f, h⟩
    · exact .inl (by rw [upd_ne e]; exact h)
    · exact .inr ⟨f, by rw [upd_ne e]; exact h⟩
mutual
theorem Rep.unlock (hu : DctO u) (ha : I a = some (.frz od u)) : ∀ {v : V} {d : D}, Rep K mg I v d → Rep K mg (upd I a u) v d
  | _, _, .non => .non
  | _, _, .bl b => .bl b
  | _, _, .int i => .int i
  | _, _, .str x => .str x
  | _, _, .lst h r => .lst (unlock_ne ha h fun _ _ => nofun) (Reps.unlock hu ha r)
  | _, _, .tup h r => .tup (unlock_ne ha h fun _ _ => nofun) (Reps.unlock hu ha r)
  | _, _, .scr (a := b) h => .scr (by
      rcases h with (h | ⟨o, h⟩) | h
      · exact .inl (.inl (unlock_ne ha h fun _ _ => nofun))
      · by_cases e : b = a
        · subst e
          rw [ha] at h
          cases h
          exact hu.elim
        · exact .inl (.inr ⟨o, by rw [upd_ne e]; exact h⟩)
      · exact .inr h)
  | _, _, .rng h => .rng (unlock_ne ha h fun _ _ => nofun)
  | _, _, .ty n => .ty n
  | _, _, .cls h => .cls h
  | _, _, .obj h c r => .obj (unlock_ne ha h fun _ _ => nofun) c (Reps.unlock hu ha r)
  | _, _, .dk h r => .dk (unlock_rd ha h fun _ _ => nofun) (Reps.unlock hu ha r)
  | _, _, .dt h r => .dt (unlock_rd ha h fun _ _ => nofun) (Reps.unlock hu ha r)
  | _, _, .exc x n h r => .exc x n (unlock_ne ha h fun _ _ => nofun) (Reps.unlock hu ha r)
theorem Reps.unlock (hu : DctO u) (ha : I a = some (.frz od u)) : ∀ {vs : List V} {ds : List D}, Reps K mg I vs ds → Reps K mg (upd I a u) vs ds
  | _, _, .nil => .nil
  | _, _, .cons h r => .cons (Rep.unlock hu ha h) (Reps.unlock hu ha r)
end
end
theorem lock_same {I H : Hp} {a : Addr} {u : HO} (e : Same I H) (hi : I a = some u) (o : HO) : Same (upd I a o) (upd H a o) := fun b w z => by
  by_cases t : b = a
  · subst t
    rw [upd_same] at z ⊢
    exact z
  · rw [upd_ne t] at z ⊢
    exact e _ _ z
/-- a step of the locked state is one of the state -/
theorem Stp.unlock {I H I' H' : Hp} {a : Addr} {f u : HO} (hI : I a = some u) (hH : H a = some u) (s : Stp (upd I a f) (upd H a f) I' H') : Stp I H (upd I' a u) (upd H' a u) := by
  have key : ∀ {J J' : Hp}, J a = some u → Same (upd J a f) J' → Same J (upd J' a u) := fun hJ e b w z => by
    by_cases t : b = a
    · subst t
      rw [hJ] at z
      cases z
      exact upd_same
    · rw [upd_ne t]
      exact e _ _ (by rw [upd_ne t]; exact z)
  refine ⟨key hI s.i, key hH s.h, fun b w z => ?_, fun b w z => ?_⟩
  · by_cases t : b = a
    · subst t
      rw [upd_same] at z ⊢
      exact z
    · rw [upd_ne t] at z ⊢
      exact s.e _ _ z
  · by_cases t : b = a
    · subst t
      rw [upd_same] at z
      cases z
      exact .inl hI
    · rw [upd_ne t] at z
      rcases s.f _ _ z with y | y | y
      · rw [upd_ne t] at y
        exact .inl y
      · rw [upd_ne t] at y
        exact .inr (.inl y)
      · exact .inr (.inr y)
theorem pe_orE {X : Cx} {e : Expr} {t u : TE} (h : PE X e t) (k : PE X e u) : PE X e (fun σ H Q => t σ H Q ∨ u σ H Q) := ⟨fun pins s σ H Q I q => q.elim (h.run pins s σ H Q I) (k.run pins s σ H Q I)⟩
def lcK (i : Nat) (vs : List Nat) (ag : D → R As) (mt : Env → R Bool) (me : Env → R D) : Env → R D :=
  fun ρ => calm (get ρ i >>= keysI) >>= fun ds => calm (if ds.length ≤ LIM then (calm (lcGo ag mt me (wipeE ρ vs) ds) >>= fun r => .ok (.lst r)) else .stuck)
section
variable {X : Cx} {E : Wh} {elt tg : Expr} {ifs : List Expr} {scope : Scope} {own : List (Str × Nat)} {pos p : Pos} {g : TG} {tt : TT} {te : TE} {ag : D → R As} {mt : Env → R Bool} {me : Env → R D} {x : Str}
theorem me_lcK (i : Nat) (hc : X.calm = true) (hN : X.N.Nodup) (ok : BlkOk X.N X.env.scope scope own)
    (hg : ∀ (s : Shared) (H : Hp) (C : Addr) (cl : List (Str × Addr)) (fp : List Addr), MG (X.blk s H scope (compEnvC scope cl C X.env) fp) tg g ag) (ht : ∀ (s : Shared) (H : Hp) (C : Addr) (cl : List (Str × Addr)) (fp : List Addr), MTs (X.blk s H scope (compEnvC scope cl C X.env) fp) E.calm ifs tt mt)
    (he : ∀ (s : Shared) (H : Hp) (C : Addr) (cl : List (Str × Addr)) (fp : List Addr), ME (X.blk s H scope (compEnvC scope cl C X.env) fp) E.calm elt te me) (hv : AgIn ag (· ∈ own.map (·.2)))
    (hi : X.N[i]? = some x := by rfl) (hvi : Vis X.env.scope x := by first | exact Or.inl rfl | exact Or.inr (Or.inl rfl) | exact Or.inr (Or.inr rfl)) (hs : ∀ y, foldedSetIterable (.Name x p) X.env y = pure y := by intro _; rfl) (hd : (x == ("__debug__" : Str)) = false := by decide) (hcd : (x == ("__classdict__" : Str)) = false := by decide) :
    ME X E (.ListComp elt [⟨tg, .Name x p, ifs, 0⟩] scope pos) (fun σ H Q => tLockE (tLc (iKeys (tVar i)) g tt te (own.map (·.2))) σ H Q ∨ tLc (iKeys (tVar i)) g tt te (own.map (·.2)) σ H Q) (lcK i (own.map (·.2)) ag mt me) := by
  have hp : PE X (.ListComp elt [⟨tg, .Name x p, ifs, 0⟩] scope pos) (tLc (iKeys (tVar i)) g tt te (own.map (·.2))) := pe_lc hc hN (pi_keys (pe_var (i := i) hi hvi hd hcd)) ok (fun s H C cl fp => (hg s H C cl fp).pe) (fun s H C cl fp => (ht s H C cl fp).pe) (fun s H C cl fp => (he s H C cl fp).pe) hs
  have sg := (hg X.s_0 X.H_0 0 [] []).sn E.x
  have st := (ht X.s_0 X.H_0 0 [] []).sn
  have se := (he X.s_0 X.H_0 0 [] []).sn
  refine ⟨pe_orE (pe_lock hp) hp, fun σ I H ρ Q re ex h => ?_⟩
  unfold lcK at h
  cases q : (ρ : List (Option D))[i]? with
  | none =>
    simp only [get, q] at h
    exact h.elim
  | some o =>
    cases o with
    | none =>
      simp only [get, q] at h
      exact h.elim
    | some d =>
      obtain ⟨v, hv1, rv⟩ := re.at_ i d q
      have hget : get ρ i = .ok d := by simp only [get, q]
      rw [hget] at h
      -- the walk over the locked dict
      have core : ∀ (ds : List D) (J : It) (I1 H1 : Hp) (Q1 : VK), RE X.K (gm X E) I1 σ ρ → Same I1 H1 → ItOk X.K (gm X E) I1 J ds → (∀ z, (if ds.length ≤ LIM then (calm (lcGo ag mt me (wipeE ρ (own.map (·.2))) ds) >>= fun r => .ok (.lst r)) else .stuck : R D) = .ok z → ∀ w I' H', Stp I1 H1 I' H' → Rep X.K (gm X E) I' w z → Q1 w H') →
          (∃ z, (if ds.length ≤ LIM then (calm (lcGo ag mt me (wipeE ρ (own.map (·.2))) ds) >>= fun r => .ok (.lst r)) else .stuck : R D) = .ok z) → tLc (fun _ H R => R J H) g tt te (own.map (·.2)) σ H1 Q1 := by
        intro ds J I1 H1 Q1 re1 ex1 it hq ⟨z, hz⟩
        refine lc_core (E1 := E0) sg st se hv re1 ex1 it ?_
        rw [hz]
        exact fun w I' H' s r => hq z hz w I' H' s r
      cases rv with
      | @dk a kvs ds ha ra =>
        have h : Out X.K (gm X E) (E.e σ) (Rep X.K (gm X E)) I H (calm (if ((kvs.map (·.1)).map keyDD).length ≤ LIM then (calm (lcGo ag mt me (wipeE ρ (own.map (·.2))) ((kvs.map (·.1)).map keyDD)) >>= fun r => .ok (.lst r)) else .stuck)) Q := h
        obtain ⟨z, hz, h9⟩ := out_calm h
        rcases ha with ha | ⟨o, ha⟩
        · refine .inl ⟨a, .dK kvs, ex _ _ ha, trivial, fun od => ⟨.ref a, hv1, a, od, rfl, .inl ⟨kvs, upd_same, ?_⟩⟩⟩
          refine core _ (Itk a od kvs) (upd I a (.frz od (.dK kvs))) _ (fun v H' => H' a = some (.frz od (.dK kvs)) ∧ Q v (upd H' a (.dK kvs))) ⟨re.len, fun j d' q' => ?_⟩ (lock_same ex ha _) (it_keys upd_same) (fun z' hz' w I' H' s r => ?_) ⟨z, hz⟩
          · obtain ⟨v', a', b'⟩ := re.at_ j d' q'
            exact ⟨v', a', b'.lock (u := .dK kvs) trivial ha⟩
          · rw [hz] at hz'
            cases hz'
            exact ⟨s.h _ _ upd_same, h9 w _ _ (Stp.unlock ha (ex _ _ ha) s) (r.unlock (u := .dK kvs) trivial (s.i _ _ upd_same))⟩
        · refine .inr ⟨.ref a, hv1, a, o, rfl, .inl ⟨kvs, ex _ _ ha, ?_⟩⟩
          refine core _ (Itk a o kvs) I H Q re ex (it_keys ha) (fun z' hz' w I' H' s r => ?_) ⟨z, hz⟩
          rw [hz] at hz'
          cases hz'
          exact h9 w I' H' s r
      | @dt a kvs ds ha ra =>
        have h : Out X.K (gm X E) (E.e σ) (Rep X.K (gm X E)) I H (calm (if ((kvs.map (·.1)).map fun k => D.tup (k.map keyDD)).length ≤ LIM then (calm (lcGo ag mt me (wipeE ρ (own.map (·.2))) ((kvs.map (·.1)).map fun k => D.tup (k.map keyDD))) >>= fun r => .ok (.lst r)) else .stuck)) Q := h
        obtain ⟨z, hz, h9⟩ := out_calm h
        rcases ha with ha | ⟨o, ha⟩
        · refine .inl ⟨a, .dT kvs, ex _ _ ha, trivial, fun od => ⟨.ref a, hv1, a, od, rfl, .inr ⟨kvs, upd_same, ?_⟩⟩⟩
          refine core _ (Itkt a od kvs) (upd I a (.frz od (.dT kvs))) _ (fun v H' => H' a = some (.frz od (.dT kvs)) ∧ Q v (upd H' a (.dT kvs))) ⟨re.len, fun j d' q' => ?_⟩ (lock_same ex ha _) (it_keysT upd_same) (fun z' hz' w I' H' s r => ?_) ⟨z, hz⟩
          · obtain ⟨v', a', b'⟩ := re.at_ j d' q'
            exact ⟨v', a', b'.lock (u := .dT kvs) trivial ha⟩
          · rw [hz] at hz'
            cases hz'
            exact ⟨s.h _ _ upd_same, h9 w _ _ (Stp.unlock ha (ex _ _ ha) s) (r.unlock (u := .dT kvs) trivial (s.i _ _ upd_same))⟩
        · refine .inr ⟨.ref a, hv1, a, o, rfl, .inr ⟨kvs, ex _ _ ha, ?_⟩⟩
          refine core _ (Itkt a o kvs) I H Q re ex (it_keysT ha) (fun z' hz' w I' H' s r => ?_) ⟨z, hz⟩
          rw [hz] at hz'
          cases hz'
          exact h9 w I' H' s r
      | _ => exact h.elim
end
end DL
namespace DL
open PySem PySem.Spec PyProof.Rows L2

/-! ### {k: v for ..} with tuples as keys, as data -/
def tkey : D → R (List Key)
  | .tup es => match keysD es with
    | some k => .ok k
    | none => .stuck
  | _ => .stuck
def dcGo (ag : D → R As) (mt : Env → R Bool) (mk mv : Env → R D) (ρ : Env) : List D → List (List Key) → List D → R D
  | [], ks, es => .ok (.dt ks es)
  | d :: ds, ks, es => calm (ag d) >>= fun as => calm (mt (setE ρ as)) >>= fun b => if b = true then calm (mk (setE ρ as)) >>= fun kd => calm (tkey kd) >>= fun k => calm (mv (setE ρ as)) >>= fun y => dcGo ag mt mk mv ρ ds (putKs k ks) (putKd k y ks es) else dcGo ag mt mk mv ρ ds ks es
def dcM (vs : List Nat) (mi : Env → R (List D)) (ag : D → R As) (mt : Env → R Bool) (mk mv : Env → R D) : Env → R D :=
  fun ρ => mi ρ >>= fun ds => if ds.length ≤ LIM then calm (dcGo ag mt mk mv (wipeE ρ vs) ds [] []) else .stuck
structure DcAt (K : PySem.W.Frag) (mg : Gm) (I1 H1 : Hp) (D0 : Addr) (n : Nat) (ks : List (List Key)) (es : List D) (I2 H : Hp) : Prop where
  i : Same I1 I2
  e : Same I2 H
  z : I2 D0 = none
  h : Same H1 H
  f : ∀ a o, I2 a = some o → I1 a = some o ∨ Fr H1 a o
  l : ∃ kvs : List (List Key × V), H D0 = some (.dT kvs) ∧ kvs.map (·.1) = ks ∧ Reps K mg I2 (kvs.map (·.2)) es ∧ kvs.length ≤ n
section
variable {K : PySem.W.Frag} {mg : Gm} {I1 H1 I2 H I3 H3 : Hp} {D0 : Addr} {n : Nat} {ks : List (List Key)} {es : List D} {y : V} {d : D}
theorem DcAt.start (ex : Same I1 H1) (hD : H1 D0 = none) : DcAt K mg I1 H1 D0 0 [] [] I1 (upd H1 D0 (.dT [])) :=
  ⟨.refl _, (Stp.side ex hD).e, ex.free hD, (Stp.side ex hD).h, fun _ _ h => .inl h, [], upd_same, rfl, .nil, Nat.le_refl _⟩
theorem DcAt.step (p : DcAt K mg I1 H1 D0 n ks es I2 H) (s : Stp I2 H I3 H3) : DcAt K mg I1 H1 D0 n ks es I3 H3 := by
  obtain ⟨kvs, h1, h0, h2, h3⟩ := p.l
  refine ⟨p.i.trans s.i, s.e, ?_, p.h.trans s.h, fun a o h => ?_, kvs, s.h _ _ h1, h0, h2.mono s.i, h3⟩
  · cases q : I3 D0 with
    | none => rfl
    | some o =>
      rcases s.f _ _ q with z | z | z
      · rw [p.z] at z
        cases z
      · rw [h1] at z
        cases z
      · have y := s.e _ _ q
        rw [s.h _ _ h1] at y
        cases y
        exact z.elim
  · rcases s.f a o h with z | z | z
    · exact p.f a o z
    · exact .inr (.inl (p.h.free z))
    · exact .inr (.inr z)
theorem DcAt.push (p : DcAt K mg I1 H1 D0 n ks es I2 H) (hD : H1 D0 = none) (k : List Key) (r : Rep K mg I2 y d) (hn : n < LIM) : ∃ kvs, H D0 = some (.dT kvs) ∧ kvs.length < sizeLine ∧ DcAt K mg I1 H1 D0 (n + 1) (putKs k ks) (putKd k d ks es) I2 (upd H D0 (.dT (putK kvs k y))) := by
  obtain ⟨kvs, h1, h0, h2, h3⟩ := p.l
  subst h0
  refine ⟨kvs, h1, lim_lt (by omega), p.i, fun a o q => ?_, p.z, fun a o q => ?_, p.f, putK kvs k y, upd_same, putK_ks kvs, putK_ds r h2, ?_⟩
  · rw [upd_ne (ne_of_none q p.z)]
    exact p.e _ _ q
  · rw [upd_ne (ne_of_none q hD)]
    exact p.h _ _ q
  · have := length_putK kvs k y
    omega
theorem DcAt.skip (p : DcAt K mg I1 H1 D0 n ks es I2 H) : DcAt K mg I1 H1 D0 (n + 1) ks es I2 H := by
  obtain ⟨kvs, h1, h0, h2, h3⟩ := p.l
  exact ⟨p.i, p.e, p.z, p.h, p.f, kvs, h1, h0, h2, by omega⟩
theorem DcAt.done (p : DcAt K mg I1 H1 D0 n ks es I2 H) (hD : H1 D0 = none) : ∃ I', Stp I1 H1 I' H ∧ Rep K mg I' (.ref D0) (.dt ks es) := by
  obtain ⟨kvs, h1, h0, h2, h3⟩ := p.l
  subst h0
  have k : Same I2 (upd I2 D0 (.dT kvs)) := fun a o q => by
    rw [upd_ne (ne_of_none q p.z)]
    exact q
  refine ⟨upd I2 D0 (.dT kvs), ⟨p.i.trans k, p.h, fun a o q => ?_, fun a o q => ?_⟩, .dt (.inl upd_same) (h2.mono k)⟩
  · by_cases e : a = D0
    · subst e
      rw [upd_same] at q
      rw [h1]
      exact q
    · rw [upd_ne e] at q
      exact p.e _ _ q
  · by_cases e : a = D0
    · subst e
      exact .inr (.inl hD)
    · rw [upd_ne e] at q
      exact p.f _ _ q
end
section
variable {X : Cx} {E : Wh} {kx vx tg iter : Expr} {ifs : List Expr} {scope : Scope} {own : List (Str × Nat)} {pos : Pos} {wi : TI} {g : TG} {tt : TT} {tk tv : TE} {mi : Env → R (List D)} {ag : D → R As} {mt : Env → R Bool} {mk mv : Env → R D}
theorem dc_snd {K : PySem.W.Frag} {mg : Gm} {vs : List Nat} {E1 : XS} (si : Sn K mg E1 (ItOk K mg) wi mi) (sg : SnG K mg g ag) (st : Sn K mg (fun _ => E0) rB tt mt) (sk : Sn K mg (fun _ => E0) (Rep K mg) tk mk) (se : Sn K mg (fun _ => E0) (Rep K mg) tv mv) (hv : ∀ d as, ag d = .ok as → ∀ p ∈ as, p.1 ∈ vs) :
    Sn K mg E1 (Rep K mg) (tDcT wi g tt tk tv vs) (dcM vs mi ag mt mk mv) := fun σ I H ρ Q re ex h => by
  refine si.run re ex h fun ds J I1 H1 _ s1 it h D0 hD => ?_
  obtain ⟨hl, h⟩ := out_if h
  cases eo : dcGo ag mt mk mv (wipeE ρ vs) ds [] [] with
  | err _ _ =>
    rw [eo] at h
    exact h.elim
  | stuck =>
    rw [eo] at h
    exact h.elim
  | ok out =>
    rw [eo] at h
    have h : Out K mg (E1 σ) (Rep K mg) I1 H1 (.ok out) Q := h
    refine ⟨fun i m H => m = ds.length - i ∧ i ≤ ds.length ∧ ∃ I2 ks es, DcAt K mg I1 H1 D0 i ks es I2 H ∧ dcGo ag mt mk mv (wipeE ρ vs) (ds.drop i) ks es = .ok out, ⟨ds.length, by simp, Nat.zero_le _, I1, [], [], .start s1.e hD, eo⟩, ?_⟩
    rintro i m H2 ⟨rfl, hi, I2, ks, es, p, hr⟩
    have hit := it I2 H2 p.i p.e
    by_cases hlt : i < ds.length
    · have hd : ds[i]? = some ds[i] := List.getElem?_eq_getElem hlt
      obtain ⟨hgo, hy⟩ := hit.1 i _ hd
      refine .inr ⟨hgo, fun H' => ∃ I2 ks es, DcAt K mg I1 H1 D0 (i + 1) ks es I2 H' ∧ dcGo ag mt mk mv (wipeE ρ vs) (ds.drop (i + 1)) ks es = .ok out, fun H' hN => ⟨ds.length - (i + 1), by omega, rfl, hlt, hN⟩, fun x H' y => ?_⟩
      obtain ⟨I3, s3, rx⟩ := hy x H' y
      rw [List.drop_eq_getElem_cons hlt] at hr
      unfold dcGo at hr
      obtain ⟨as, ha, hr⟩ := bind_ok hr
      have ha := calm_of ha
      obtain ⟨b, hb, hr⟩ := bind_ok hr
      have hb := calm_of hb
      refine sg x _ I3 H' _ as _ s3.e rx ha fun us ar => ?_
      have hus : ∀ p ∈ us, p.1 ∈ vs := fun p hp => by
        have hm : p.1 ∈ as.map (·.1) := by
          rw [← ar.slots]
          exact List.mem_map_of_mem hp
        obtain ⟨q, hq, e⟩ := List.mem_map.mp hm
        rw [← e]
        exact hv _ _ ha q hq
      refine ⟨by rw [wipe_setS hus, wipe_wipe], ?_⟩
      have re3 : RE K mg I3 (setS (wipe σ vs) us) (setE (wipeE ρ vs) as) := RE.setAll ar (((re.mono s1.i).mono (p.i.trans s3.i)).wipe vs)
      have p3 := p.step s3
      refine st _ I3 H' _ _ re3 s3.e ?_
      rw [hb]
      intro b' I4 H4 s4 eb
      have eb : b' = b := eb
      subst eb
      have p4 := p3.step s4
      cases b' with
      | true =>
        show tk _ H4 _
        rw [if_pos rfl] at hr
        obtain ⟨kd, hkd, hr1⟩ := bind_ok hr
        have hkd := calm_of hkd
        obtain ⟨k, hk, hr2⟩ := bind_ok hr1
        have hk := calm_of hk
        obtain ⟨yd, hyd, hr3⟩ := bind_ok hr2
        have hyd := calm_of hyd
        clear hr hr1 hr2
        refine sk _ I4 H4 _ _ (re3.mono s4.i) s4.e ?_
        rw [hkd]
        intro kv I5 H5 s5 rk
        refine se _ I5 H5 _ _ ((re3.mono s4.i).mono s5.i) s5.e ?_
        rw [hyd]
        intro yv I6 H6 s6 ry
        obtain ⟨kvs, h1, h2, p6⟩ := ((p4.step s5).step s6).push hD k ry (by omega)
        cases rk with
        | @tup q ws es2 hq rws =>
          have hk : (match keysD es2 with | some k => R.ok k | none => .stuck) = .ok k := hk
          cases e2 : keysD es2 with
          | none =>
            rw [e2] at hk
            cases hk
          | some k2 =>
            rw [e2] at hk
            cases hk
            have := keysD_v rws e2
            subst this
            exact ⟨kvs, k, q, rfl, s6.h _ _ (s5.e _ _ hq), h1, h2, I6, _, _, p6, hr3⟩
        | _ => cases hk
      | false =>
        rw [if_neg (by decide)] at hr
        exact ⟨I4, ks, es, p4.skip, hr⟩
    · have e : i = ds.length := by omega
      subst e
      rw [List.drop_length] at hr
      cases hr
      obtain ⟨I', s', r'⟩ := p.done hD
      exact .inl ⟨hit.2, h.there s' r'⟩
theorem me_dcT (hu : X.A.units + 1 < cLine) (hc : X.calm = true) (hN : X.N.Nodup) (hi : MI X E tg iter wi mi) (ok : BlkOk X.N X.env.scope scope own)
    (hg : ∀ (s : Shared) (H : Hp) (C : Addr) (cl : List (Str × Addr)) (fp : List Addr), MG (X.blk s H scope (compEnvC scope cl C X.env) fp) tg g ag) (ht : ∀ (s : Shared) (H : Hp) (C : Addr) (cl : List (Str × Addr)) (fp : List Addr), MTs (X.blk s H scope (compEnvC scope cl C X.env) fp) E.calm ifs tt mt)
    (hk : ∀ (s : Shared) (H : Hp) (C : Addr) (cl : List (Str × Addr)) (fp : List Addr), ME (X.blk s H scope (compEnvC scope cl C X.env) fp) E.calm kx tk mk) (he : ∀ (s : Shared) (H : Hp) (C : Addr) (cl : List (Str × Addr)) (fp : List Addr), ME (X.blk s H scope (compEnvC scope cl C X.env) fp) E.calm vx tv mv) (hv : AgIn ag (· ∈ own.map (·.2))) (hs : ∀ x, foldedSetIterable iter X.env x = pure x := by intro _; rfl) :
    ME X E (.DictComp kx vx [⟨tg, iter, ifs, 0⟩] scope pos) (tDcT wi g tt tk tv (own.map (·.2))) (dcM (own.map (·.2)) mi ag mt mk mv) :=
  ⟨pe_dcT hu hc hN hi.pe ok (fun s H C cl fp => (hg s H C cl fp).pe) (fun s H C cl fp => (ht s H C cl fp).pe) (fun s H C cl fp => (hk s H C cl fp).pe) (fun s H C cl fp => (he s H C cl fp).pe) hs,
    dc_snd hi.sn ((hg X.s_0 X.H_0 0 [] []).sn _) (ht X.s_0 X.H_0 0 [] []).sn (hk X.s_0 X.H_0 0 [] []).sn (he X.s_0 X.H_0 0 [] []).sn hv⟩
end
end DL
namespace DL
open PySem PySem.Spec PyProof.Rows L2

/-! ### d.setdefault(k, e) with tuples as keys -/
theorem dictSetDefault_heap {prog : Program} {w : World} {K : Type} [DecidableEq K] {knd : HeapKind prog w K} {A : Around} {E : Value → Shared → Prop} {s : Shared} {d a : Addr} {xs : List (K × Addr × Value)} {k : K} {v : Value} {Q : Value → Shared → Prop} (hu : knd.room A) (hkey : knd.is s.heap k a) (hm : Heap.DictOfH knd s.heap d xs)
    (h1 : ∀ u, (atKey xs k).map (·.2) = some u → Q u { heap := s.heap, gens := s.gens, drawn := s.drawn, toks := s.toks + knd.draws k, os := s.os })
    (h2 : (atKey xs k).map (·.2) = none → ∀ h', Heap.DictOfH knd h' d (storedH xs k a v) → Heap.SameBut d s.heap h' → Q v { heap := h', gens := s.gens, drawn := s.drawn, toks := s.toks + knd.draws k, os := s.os }) (hsz : xs.length ≤ sizeLine) :
    wpAny (model prog w) A (dictSetDefault d (.ref a) v) Q E s := by
  obtain ⟨o, es, ep, ho, hc, hd, he, his, hn⟩ := hm
  have hes : es.size = xs.length := size_of_entries he
  refine wpAny_holding (wpAny_bind (knd.pyHash hu hkey ?_))
  refine wpAny_bind (wpAny_dictFind_heap hu hkey ho hd he his hn (fun hno => ?_) fun j p hj => ?_)
  · have hat := atKey_none_of_get hno
    have hnot := not_mem_keys_of_get hno
    refine wpAny_bind (wpAny_rule (wpAny_bind (wpAny_updateDictKeys ho hd ?_ (by omega) (by rw [Array.size_push]; exact Nat.le_refl _))))
    refine wpAny_pure ?_
    refine h2 (by rw [hat]; rfl) (s.heap.update d (Obj.mapDictKeys fun x => x.push { hash := knd.hash k, key := .ref a, val := v })) ⟨_, _, ep + 1, Heap.get?_update_self _ ho (Obj.isFreed_of_dict (Obj.data_mapDictKeys hd _)), Obj.ExactDict.mapDictKeys hc _, Obj.data_mapDictKeys hd _, ?_, ?_, ?_⟩ (Heap.SameBut.update _ _ _)
    · rw [storedH_new hat, Array.toList_push, he, List.map_append]
      rfl
    · rw [storedH_new hat]
      intro x hx
      rcases List.mem_append.mp hx with hx | hx
      · exact knd.keeps (his x hx) ho hd (Heap.SameBut.update _ _ _)
      · rw [List.mem_singleton.mp hx]
        exact knd.keeps hkey ho hd (Heap.SameBut.update _ _ _)
    · rw [storedH_new hat, List.map_append]
      refine List.nodup_append.mpr ⟨hn, by simp, fun x hx y hy e => ?_⟩
      rw [List.mem_singleton.mp hy] at e
      subst e
      exact hnot hx
  · have hat := atKey_of_get hn hj
    have hej : es[j]? = some (entryOfKey knd (k, p)) := by
      rw [← Array.getElem?_toList, he, List.getElem?_map, hj]
      rfl
    refine wpAny_bind (wpAny_dictEntries ho hd ?_)
    rw [hej]
    refine wpAny_bind (wpAny_rule (wpAny_pure ?_))
    exact h1 p.2 (by rw [hat]; rfl)
theorem d_setdT {X : Cx} {pins : List (Addr × Obj)} {σ : L2.St} {H : Hp} {s : Shared} {a b : Addr} {r : Value} {d : V} {k : List Key} {A : Around} {E : Value → Shared → Prop} {kvs : List (List Key × V)} {Q : Value → Shared → Prop} (hu : A.units + 1 < cLine) (I : L2.Inv X pins σ H s) (e : H a = some (.dT kvs)) (eb : H b = some (.tup (k.map kV))) (rd : RelV d r) (hl : kvs.length < sizeLine)
    (h1 : ∀ v, valV kvs k = some v → ∀ w' s', L2.Inv X pins σ H s' → RelV v w' → Q w' s') (h2 : valV kvs k = none → ∀ w' s', L2.Inv X pins σ (upd H a (.dT (putK kvs k d))) s' → RelV d w' → Q w' s') :
    wpAny (model X.prog X.w) A (call (.builtin "dict.setdefault") [.ref a, .ref b, r]) Q E s := by
  obtain ⟨z, hd, xs, rel, dd⟩ := dt_of I.hok e
  have hz2 : xs.length ≤ sizeLine := by
    rw [← Paired.length rel]
    exact z
  have hl2 : (putK kvs k d).length ≤ sizeLine := by
    have := length_putK kvs k d
    omega
  refine call_meetsIn F.slot_dict_setdefault (Heap.DictOfH.typeIs dd) F.entry_dict_setdefault (F.args_dict_setdefault_3 (.ref a) (.ref b) r)
    (S := fun A' R s' => (tupleKind (mixKind X.prog X.w)).room A'.in1 ∧ s' = s ∧ (∀ u, (atKey xs k).map (·.2) = some u → R (.ok (.ret u)) { heap := s.heap, gens := s.gens, drawn := s.drawn, toks := s.toks + (tupleKind (mixKind X.prog X.w)).draws k, os := s.os }) ∧
      ((atKey xs k).map (·.2) = none → ∀ h', Heap.DictOfH (tupleKind (mixKind X.prog X.w)) h' a (storedH xs k b r) → Heap.SameBut a s.heap h' → R (.ok (.ret r)) { heap := h', gens := s.gens, drawn := s.drawn, toks := s.toks + (tupleKind (mixKind X.prog X.w)).draws k, os := s.os })) ?_ ?_
  · refine MeetsIn.of_wp fun A' R s' hh => ?_
    obtain ⟨hroom, rfl, g1, g2⟩ := hh
    refine wpAny_bind ?_
    refine wpAny_bind ?_
    refine wpAny_notOrdered_dict (Heap.DictOfH.typeIs dd) ?_
    refine wpAny_pure ?_
    show wpAny _ _ (if (a == sysModules) = true then _ else _) _ _ _
    rw [if_neg (by rw [hd]; exact Bool.false_ne_true)]
    refine wpAny_bind ?_
    exact dictSetDefault_heap hroom (key_of I.hok eb) dd (fun u hu => wpAny_pure ⟨u, rfl, g1 u hu⟩) (fun hn h' dd' hs => wpAny_pure ⟨r, rfl, g2 hn h' dd' hs⟩) hz2
  · refine ⟨tupleKind_room_in1 hu, rfl, fun u hu => ?_, fun hn h' dd' hs => ?_⟩
    · have q := KT.val rel k
      rw [hu] at q
      cases hv : valV kvs k with
      | none =>
        rw [hv] at q
        exact q.elim
      | some v0 =>
        rw [hv] at q
        exact h1 v0 hv u _ (Inv.tok I _) q
    · have q := KT.val rel k
      rw [hn] at q
      cases hv : valV kvs k with
      | some v0 =>
        rw [hv] at q
        exact q.elim
      | none =>
        refine h2 hv r { heap := h', gens := s.gens, drawn := s.drawn, toks := _, os := s.os } ?_ rd
        obtain ⟨q, es, ep, hq, k2, k3, k4, k5⟩ := dd'
        refine d_write I (by rw [e]; trivial) hs ⟨q, hq⟩ ⟨hl2, hd, storedH xs k b r, ?_, q, es, ep, hq, k2, k3, k4, k5.2⟩
        refine KT.keeps (KT.put rel k eb rd) fun c ys ec => ?_
        rw [upd_ne (ne_of ec e fun z => nomatch z)]
        exact ec
end DL
namespace DL
open PySem PySem.Spec PyProof.Rows L2

/-! ### a list of one's own within a thing of one's own is changed -/
section
variable {K : PySem.W.Frag} {mg : Gm} {E : XK} {Mb M M' : List Nat} {Ie : Hp × Addr} {He I H I' H' : Hp} {σ : L2.St} {ρ : Env}
theorem SE.putKid {i : Nat} {p q : Addr} {o : HO} {ws' : List V} {d0 d9 : D} (s : SE K mg M Ie He σ I H ρ) (hi : i ∈ M) (hd : deep M i = true) (q0 : ρ[i]? = some (some d0)) (hp : σ[i]? = some (some (.ref p))) (ho : H p = some o) (hq : V.ref q ∈ hvals o) (r : OwnD K mg I He (upd H q (.lst ws')) o d9) (hk : d9.kind = 3 → d0.kind = 3) :
    SE K mg M Ie He σ I (upd H q (.lst ws')) (ρ.set i (some d9)) := by
  obtain ⟨p', o', h2, h3, h4, h5, h6⟩ := s.own_ i _ hi q0
  rw [hp] at h2
  cases h2
  rw [ho] at h5
  cases h5
  obtain ⟨k1, k2, k3⟩ := h6.ofD hd
  obtain ⟨_, q', ws, es, e1, _, g3, g4, g5, _⟩ := k1.kids hq
  cases e1
  have hpq : p ≠ q := fun e => by
    subst e
    exact k3 hq
  have mineq : ownA M H i p q := .inr ⟨hd, o, ho, hq⟩
  have far : ∀ j p2 d, j ∈ M → i ≠ j → ρ[j]? = some (some d) → σ[j]? = some (some (.ref p2)) → ∀ a, ownA M H j p2 a → a ≠ q := fun j p2 d hj hne z g a ha e => by
    subst e
    exact s.dis i j p p2 _ _ hi hj hne q0 z hp g a mineq ha
  have back : ∀ j p2 d a, j ∈ M → i ≠ j → ρ[j]? = some (some d) → σ[j]? = some (some (.ref p2)) → ownA M (upd H q (.lst ws')) j p2 a → ownA M H j p2 a := fun j p2 d a hj hne z g ha => by
    rcases ha with ha | ⟨hd, o, ho, hm⟩
    · exact .inl ha
    · rw [upd_ne (far j p2 d hj hne z g p2 (.inl rfl))] at ho
      exact .inr ⟨hd, o, ho, hm⟩
  have mine : ∀ a, ownA M (upd H q (.lst ws')) i p a → ownA M H i p a := fun a ha => by
    rcases ha with ha | ⟨hd, o2, ho2, hm⟩
    · exact .inl ha
    · rw [upd_ne hpq] at ho2
      exact .inr ⟨hd, o2, ho2, hm⟩
  refine ⟨⟨s.st.i, fun a o z => ?_, fun a o z => ?_, s.st.f⟩, by rw [List.length_set]; exact s.len, fun j d hj z => ?_, fun j d hj z => ?_, fun j k p1 p2 d e hj hk2 hne q1 q2 w1 w2 a a1 a2 => ?_, fun j d p' hj z g h => ?_⟩
  · rw [upd_ne (ne_of_none z g4)]
    exact s.st.h _ _ z
  · rw [upd_ne (ne_of_none z g3)]
    exact s.st.e _ _ z
  · rcases set_of_lt z with ⟨rfl, _⟩ | ⟨_, z⟩
    · exact absurd hi hj
    · exact s.imm j d hj z
  · rcases set_of_lt z with ⟨rfl, rfl⟩ | ⟨hne, z⟩
    · exact ⟨p, o, hp, h3, h4, by rw [upd_ne hpq]; exact ho, .mkD ⟨r, k2, k3⟩ hd⟩
    · obtain ⟨p2, o2, w2, w3, w4, w5, w6⟩ := s.own_ j d hj z
      exact ⟨p2, o2, w2, w3, w4, by rw [upd_ne (far j p2 d hj hne z w2 p2 (.inl rfl))]; exact w5, w6.keep w5 fun a ha => upd_ne (far j p2 d hj hne z w2 a ha)⟩
  · by_cases ej : i = j
    · subst ej
      rcases set_of_lt q1 with ⟨_, _⟩ | ⟨z, _⟩
      · rcases set_of_lt q2 with ⟨z, _⟩ | ⟨_, q2⟩
        · exact hne z
        · rw [hp] at w1
          cases w1
          exact s.dis i k p p2 d0 e hi hk2 hne q0 q2 hp w2 a (mine a a1) (back k p2 e a hk2 hne q2 w2 a2)
      · exact z rfl
    · rcases set_of_lt q1 with ⟨z, _⟩ | ⟨_, q1⟩
      · exact ej z
      · have a1 := back j p1 d a hj ej q1 w1 a1
        by_cases ek : i = k
        · subst ek
          rw [hp] at w2
          cases w2
          exact s.dis i j p p1 d0 d hi hj ej q0 q1 hp w1 a (mine a a2) a1
        · rcases set_of_lt q2 with ⟨z, _⟩ | ⟨_, q2⟩
          · exact ek z
          · exact s.dis j k p1 p2 d e hj hk2 hne q1 q2 w1 w2 a a1 (back k p2 e a hk2 ek q2 w2 a2)
  · rcases set_of_lt z with ⟨rfl, rfl⟩ | ⟨_, z⟩
    · exact s.slf _ _ p' hi q0 g (hk h)
    · exact s.slf j d p' hj z g h
/-- the child at the key, one longer -/
def sdGo {κ : Type} [DecidableEq κ] (k : κ) (d : D) : List κ → List D → List D
  | k' :: ks, e :: ds => if k' = k then (match e with | .lst es => .lst (es ++ [d]) | e => e) :: ds else e :: sdGo k d ks ds
  | _, ds => ds
theorem sd_found {κ : Type} [DecidableEq κ] {k : κ} {v : V} : ∀ {kvs : List (κ × V)} {ds : List D}, Kids K mg I He H (kvs.map (·.2)) ds → valV kvs k = some v → ∃ q ws es, v = .ref q ∧ V.ref q ∈ kvs.map (·.2) ∧ getK k (kvs.map (·.1)) ds = some (.lst es) ∧ H q = some (.lst ws) ∧ I q = none ∧ He q = none ∧ Reps K mg I ws es ∧
    ∀ {I' H' : Hp} {y : V} {d : D}, Same I I' → (∀ a, V.ref a ∈ kvs.map (·.2) → I' a = none) → (∀ a o, H a = some o → H' a = some o) → (kvs.map (·.2)).Nodup → Rep K mg I' y d → Kids K mg I' He (upd H' q (.lst (ws ++ [y]))) (kvs.map (·.2)) (sdGo k d (kvs.map (·.1)) ds)
  | [], _, _, h => by cases h
  | (k', v') :: kvs, d' :: ds, .cons kd r, h => by
    by_cases e : k' = k
    · rw [valV_pos (p := (k', v')) e] at h
      cases h
      obtain ⟨q, ws, es, rfl, rfl, h3, h4, h5, h6⟩ := kd
      refine ⟨q, ws, es, rfl, List.mem_cons_self, by simp [getK, e], h5, h3, h4, h6, fun {I' H' y d} hs hn hh nd ry => ?_⟩
      have nd2 := List.nodup_cons.mp nd
      have rest : ∀ {vs : List V} {es : List D}, (∀ v ∈ vs, v ∈ kvs.map (·.2)) → Kids K mg I He H vs es → Kids K mg I' He (upd H' q (.lst (ws ++ [y]))) vs es := by
        intro vs es hm kk
        induction kk with
        | nil => exact .nil
        | cons c r ih =>
          obtain ⟨q2, ws2, es2, rfl, rfl, c3, c4, c5, c6⟩ := c
          have hm2 := hm _ List.mem_cons_self
          have ne : q2 ≠ q := fun z => by
            subst z
            exact nd2.1 hm2
          exact .cons ⟨q2, ws2, es2, rfl, rfl, hn q2 (List.mem_cons_of_mem _ hm2), c4, by rw [upd_ne ne]; exact hh _ _ c5, c6.mono hs⟩ (ih fun v hv => hm v (List.mem_cons_of_mem _ hv))
      have e2 : sdGo k d (((k', V.ref q) :: kvs).map (·.1)) (.lst es :: ds) = .lst (es ++ [d]) :: ds := by
        show (if k' = k then _ else _) = _
        rw [if_pos e]
      rw [e2]
      exact .cons ⟨q, ws ++ [y], es ++ [d], rfl, rfl, hn q List.mem_cons_self, h4, upd_same, (h6.mono hs).app (.cons ry .nil)⟩ (rest (fun _ h => h) r)
    · have e1 : valV ((k', v') :: kvs) k = valV kvs k := by simp [valV, List.find?_cons, e]
      rw [e1] at h
      obtain ⟨q, ws, es, g1, g2, g3, g4, g5, g6, g7, g8⟩ := sd_found r h
      refine ⟨q, ws, es, g1, List.mem_cons_of_mem _ g2, by simp [getK, e]; exact g3, g4, g5, g6, g7, fun {I' H' y d} hs hn hh nd ry => ?_⟩
      have nd2 := List.nodup_cons.mp nd
      obtain ⟨q2, ws2, es2, rfl, rfl, c3, c4, c5, c6⟩ := kd
      have ne : q2 ≠ q := fun z => by
        subst z
        exact nd2.1 g2
      have e2 : sdGo k d (((k', V.ref q2) :: kvs).map (·.1)) (.lst es2 :: ds) = .lst es2 :: sdGo k d (kvs.map (·.1)) ds := by
        show (if k' = k then _ else _) = _
        rw [if_neg e]
      rw [e2]
      exact .cons ⟨q2, ws2, es2, rfl, rfl, hn q2 List.mem_cons_self, c4, by rw [upd_ne ne]; exact hh _ _ c5, c6.mono hs⟩ (g8 hs (fun a ha => hn a (List.mem_cons_of_mem _ ha)) hh nd2.2 ry)
end
def tDSetdT (td ty tx : TE) : TE := fun σ H Q => td σ H fun x H1 => ∃ a, x = .ref a ∧ IsD H1 a ∧ ty σ H1 fun y H2 => tx σ H2 fun z H3 => ∃ (kvs : List (List Key × V)) (k : List Key) (b : Addr), H3 a = some (.dT kvs) ∧ y = .ref b ∧ H3 b = some (.tup (k.map kV)) ∧ kvs.length < sizeLine ∧ (∀ v, valV kvs k = some v → Q v H3) ∧ (valV kvs k = none → Q z (upd H3 a (.dT (putK kvs k z))))
theorem pe_dsetdT {X : Cx} {o e f : Expr} {td ty tx : TE} {apos cpos : Pos} (hu : X.A.units + 1 < cLine) (ho : PE X o td) (he : PE X e ty) (hf : PE X f tx) (m : M2 X o "setdefault" apos e f cpos) : PE X (.Call (.Attribute o "setdefault" apos) [e, f] [] cpos) (tDSetdT td ty tx) := by
  refine ⟨fun pins s σ H Q I h => ?_⟩
  refine wpAny_Call_method m.base m.few m.line F.plainAttrs_dict F.slot_dict_setdefault F.type_dict_setdefault (thn (ho.run pins s σ H _ I h) fun u s1 hh => ?_)
  obtain ⟨x, H1, I1, rx, a, ex, d, q1⟩ := hh
  subst ex
  obtain rfl : u = Value.ref a := rx
  obtain ⟨t1, t2, _⟩ := isD_at I1 d
  refine ⟨t1, t2, ?_⟩
  rw [m.trees]
  refine Calls.callWith_builtin rfl (Calls.evalArgs_plain (Calls.spliced_cons (thn (he.run pins s1 σ H1 _ I1 q1) fun iv s2 hh => ?_)))
  obtain ⟨y, H2, I2, ry, q2⟩ := hh
  refine Calls.spliced_cons (thn (hf.run pins s2 σ H2 _ I2 q2) fun fv s3 hh => ?_)
  obtain ⟨z, H3, I3, rz, kvs, k, b, ea, ey, eb, hl, q3, q4⟩ := hh
  subst ey
  obtain rfl : iv = Value.ref b := ry
  exact Calls.spliced_nil (d_setdT hu I3 ea eb rz hl (fun v hv w' s4 I4 rw' => ⟨v, H3, I4, rw', q3 v hv⟩) fun hn w' s4 I4 rw' => ⟨z, _, I4, rw', q4 hn⟩)
/-! ### d.setdefault(k, []).append(e), d one's own, with tuples as keys -/
def sdS (M : List Nat) (i : Nat) (ρ : Env) (kd a : R D) : R Fl := match ρ[i]? with
  | some (some (.dt ks ds)) => kd >>= fun kd => calm (tkey kd) >>= fun k => if ks.length < LIM then (a >>= fun d => match getK k ks ds with
    | some (.lst es) => if es.length < LIM then .ok (.nx (ρ.set i (some (.dt ks (sdGo k d ks ds))))) else .stuck
    | some _ => .stuck
    | none => .ok (.nx (ρ.set i (some (.dt (ks ++ [k]) (ds ++ [.lst [d]])))))) else .stuck
  | _ => .stuck
theorem valV_none {κ : Type} [DecidableEq κ] {k : κ} : ∀ {kvs : List (κ × V)}, valV kvs k = none → k ∉ kvs.map (·.1)
  | [], _, h => by simp at h
  | (k', v') :: kvs, h, hm => by
    by_cases e : k' = k
    · rw [valV_pos (p := (k', v')) e] at h
      cases h
    · have e1 : valV ((k', v') :: kvs) k = valV kvs k := by simp [valV, List.find?_cons, e]
      rw [e1] at h
      rcases List.mem_cons.mp hm with z | hm
      · exact e z.symm
      · exact valV_none h hm
theorem putK_new {κ : Type} [DecidableEq κ] {k : κ} {v : V} {kvs : List (κ × V)} (h : k ∉ kvs.map (·.1)) : putK kvs k v = kvs ++ [(k, v)] := by
  unfold putK
  rw [if_neg]
  intro z
  obtain ⟨p, hp, e⟩ := List.any_eq_true.mp z
  exact h (List.mem_map.mpr ⟨p, hp, of_decide_eq_true e⟩)
theorem getK_none {κ : Type} [DecidableEq κ] {k : κ} : ∀ {ks : List κ} {ds : List D}, k ∉ ks → getK k ks ds = none
  | [], _, _ => by simp [getK]
  | k' :: ks, [], _ => by simp [getK]
  | k' :: ks, d :: ds, h => by
    have e : k' ≠ k := fun z => h (by simp [z])
    simp only [getK, if_neg e]
    exact getK_none fun z => h (List.mem_cons_of_mem _ z)
theorem sdGo_new {κ : Type} [DecidableEq κ] {k : κ} {d : D} {es : List D} : ∀ {ks : List κ} {ds : List D}, ks.length = ds.length → k ∉ ks → sdGo k d (ks ++ [k]) (ds ++ [.lst es]) = ds ++ [.lst (es ++ [d])]
  | [], [], _, _ => by simp [sdGo]
  | k' :: ks, d' :: ds, hl, h => by
    have e : k' ≠ k := fun z => h (by simp [z])
    show (if k' = k then _ else d' :: sdGo k d (ks ++ [k]) (ds ++ [.lst es])) = _
    rw [if_neg e, sdGo_new (by simpa using hl) fun z => h (List.mem_cons_of_mem _ z)]
    rfl
  | [], _ :: _, hl, _ => by simp at hl
  | _ :: _, [], hl, _ => by simp at hl
theorem OwnD.invT {K : PySem.W.Frag} {mg : Gm} {I He H : Hp} {kvs : List (List Key × V)} {d : D} (h : OwnD K mg I He H (.dT kvs) d) : ∃ ds, d = .dt (kvs.map (·.1)) ds ∧ Kids K mg I He H (kvs.map (·.2)) ds := by
  cases h with
  | dt r => exact ⟨_, rfl, r⟩
theorem Kids.len {K : PySem.W.Frag} {mg : Gm} {I He H : Hp} : ∀ {vs : List V} {ds : List D}, Kids K mg I He H vs ds → vs.length = ds.length
  | _, _, .nil => rfl
  | _, _, .cons _ r => congrArg (· + 1) r.len
theorem Kids.app {K : PySem.W.Frag} {mg : Gm} {I He H : Hp} : ∀ {vs ws : List V} {ds es : List D}, Kids K mg I He H vs ds → Kids K mg I He H ws es → Kids K mg I He H (vs ++ ws) (ds ++ es)
  | _, _, _, _, .nil, s => s
  | _, _, _, _, .cons h r, s => .cons h (Kids.app r s)
section
variable {X : Cx} {E : XK} {Mb M : List Nat} {k e : Expr} {tk te : TE} {mk m : Env → R D} {x : Str} {px ap cp ap2 cp2 pl pos : Pos}
theorem ms_sdapp (i : Nat) (hu : X.A.units + 1 < cLine) (hk : ME X (kE E) k tk mk) (he : ME X (kE E) e te m) (hi : X.N[i]? = some x := by rfl) (hv : Vis X.env.scope x := by first | exact Or.inl rfl | exact Or.inr (Or.inl rfl)) (hM : i ∈ M := by decide) (hD : deep M i = true := by decide) (hm : M2 X (.Name x px) "setdefault" ap k (.List [] pl) cp := by exact ⟨rfl, rfl, rfl, rfl⟩)
    (hd : (x == ("__debug__" : Str)) = false := by decide) (hcd : (x == ("__classdict__" : Str)) = false := by decide)
    (hp : ∀ {t : TE}, PE X (.Call (.Attribute (.Name x px) "setdefault" ap) [k, .List [] pl] [] cp) t → PE X e te → PE X (.Call (.Attribute (.Call (.Attribute (.Name x px) "setdefault" ap) [k, .List [] pl] [] cp) "append" ap2) [e] [] cp2) (tBM X.K "list" rAppend t (tCons te tNil)))
    (hs : swapsWith (.Call (.Attribute (.Call (.Attribute (.Name x px) "setdefault" ap) [k, .List [] pl] [] cp) "append" ap2) [e] [] cp2) none pos.line X.env = pure false := by rfl) :
    MS X E Mb M M (.Expr (.Call (.Attribute (.Call (.Attribute (.Name x px) "setdefault" ap) [k, .List [] pl] [] cp) "append" ap2) [e] [] cp2) pos) (tDrop (tBM X.K "list" rAppend (tDSetdT (tVar i) tk (tLst tNil)) (tCons te tNil))) (fun ρ => sdS M i ρ (mk (wipeE ρ M)) (m (wipeE ρ M))) :=
  ⟨ps_expr (hp (pe_dsetdT hu (pe_var (i := i) hi hv hd hcd) hk.pe (pe_lst pa_nil) hm) he.pe) hs, fun Ie He σ I H ρ D0 s h => by
    cases q0 : (ρ : List (Option D))[i]? with
    | none =>
      simp only [sdS, q0] at h
      exact h.elim
    | some o0 =>
    cases o0 with
    | none =>
      simp only [sdS, q0] at h
      exact h.elim
    | some d0 =>
    cases d0 with
    | dt ks ds =>
      simp only [sdS, q0] at h
      obtain ⟨a, o, h2, h3, h4, h5, h6⟩ := s.own_ i _ hM q0
      refine ⟨_, h2, a, rfl, ?_, ?_⟩
      · cases (h6.ofD hD).1 with
        | dt _ => exact .inr ⟨_, .inl h5⟩
      refine hk.sn.strong (k := fun kd => calm (tkey kd) >>= fun k => if ks.length < LIM then (m (wipeE ρ M) >>= fun d => match getK k ks ds with
        | some (.lst es) => if es.length < LIM then .ok (.nx (ρ.set i (some (.dt ks (sdGo k d ks ds))))) else .stuck
        | some _ => .stuck
        | none => .ok (.nx (ρ.set i (some (.dt (ks ++ [k]) (ds ++ [.lst [d]])))))) else .stuck) s h fun kd vk I1 H1 s1 t1 rk h => ?_
      obtain ⟨ky, hky, h⟩ := outS_calm h
      obtain ⟨hlim, hq⟩ := outS_if h
      clear h
      refine ⟨by show 0 ≤ sizeLine; exact Nat.zero_le _, fun p hp => ?_⟩
      have t2 : Stp I1 H1 I1 (upd H1 p (.lst [])) := Stp.side s1.st.e hp
      have s2 := s1.step t2
      obtain ⟨a', o', g2, g3, g4, g5, g6⟩ := s2.own_ i _ hM q0
      rw [h2] at g2
      cases g2
      obtain ⟨k1, k2, k3⟩ := g6.ofD hD
      cases rk with
      | @tup b vs es hb rvs =>
        have hky : (match keysD es with | some k => R.ok k | none => .stuck) = .ok ky := hky
        cases ek : keysD es with
        | none =>
          rw [ek] at hky
          cases hky
        | some ky2 =>
          rw [ek] at hky
          cases hky
          have hvs := keysD_v rvs ek
          subst hvs
          cases k1 with
          | @dt kvs ds kk =>
            rw [List.length_map] at hlim
            refine ⟨kvs, ky, b, g5, rfl, s2.st.e _ _ hb, lim_lt (by omega), fun v hv => ?_, fun hn => ?_⟩
            · -- it is there
              obtain ⟨q, ws, es2, rfl, f2, f3, f4, f5, f6, f7, f8⟩ := sd_found kk hv
              refine ⟨.inl ⟨rfl, ws, SqL.of f4⟩, he.sn.strong s2 hq fun d y I3 H3 s3 t3 ry h => ?_⟩
              rw [f3] at h
              obtain ⟨hl2, h⟩ := outS_if h
              obtain ⟨a3, o3, w2, w3, w4, w5, w6⟩ := s3.own_ i _ hM q0
              rw [h2] at w2
              cases w2
              have e5 := t3.h _ _ g5
              rw [w5] at e5
              cases e5
              refine ⟨q, ws, y, rfl, rfl, t3.h _ _ f4, lim_lt (by rw [f7.len]; omega), ?_⟩
              refine h _ I3 _ (s3.putKid hM hD q0 h2 w5 f2 (.dt ?_) (fun z => by cases z)) ((t1.i.trans t2.i).trans t3.i)
              refine f8 t3.i (fun c hc => ?_) (fun c oc hc => t3.h _ _ hc) k2 ry
              obtain ⟨_, q', ws', es', e1, _, c3, _⟩ := (w6.ofD hD).1.kids hc
              cases e1
              exact c3
            · -- it is not there
              have hn2 := valV_none hn
              have hpa : p ≠ a := fun z => by
                subst z
                rw [t1.h _ _ h5] at hp
                cases hp
              have hpk : V.ref p ∉ kvs.map (·.2) := fun z => by
                obtain ⟨_, q', ws', es', e1, _, _, _, c5, _⟩ := kk.at_ z
                cases e1
                obtain ⟨_, q2, ws2, es2, e2, _, _, _, c6, _⟩ := (OwnD.kids (h6.ofD hD).1 (v := .ref p) (by
                  have e9 : o = .dT kvs := by
                    have := t2.h _ _ (t1.h _ _ h5)
                    rw [g5] at this
                    cases this
                    rfl
                  rw [e9]
                  exact z))
                cases e2
                rw [t1.h _ _ c6] at hp
                cases hp
              have s3 : SE X.K (g0 X.mg) M Ie He σ I1 (upd (upd H1 p (.lst [])) a (.dT (putK kvs ky (.ref p)))) (ρ.set i (some (.dt (kvs.map (·.1) ++ [ky]) (ds ++ [.lst []])))) := by
                refine s2.putX hM q0 h2 (.mkD ⟨?_, ?_, ?_⟩ hD) (fun z => by cases z) (fun _ c hc => ?_)
                · rw [putK_new hn2]
                  have : OwnD X.K (g0 X.mg) I1 He (upd (upd H1 p (.lst [])) a (.dT (kvs ++ [(ky, .ref p)]))) (.dT (kvs ++ [(ky, V.ref p)])) (.dt ((kvs ++ [(ky, V.ref p)]).map (·.1)) (ds ++ [.lst []])) := by
                    refine .dt ?_
                    rw [List.map_append]
                    refine Kids.app (kk.keep fun c hc => upd_ne fun z => ?_) (.cons ⟨p, [], [], rfl, rfl, s1.st.e.free hp, s1.st.h.free hp, ?_, .nil⟩ .nil)
                    · subst z
                      exact k3 hc
                    · rw [upd_ne hpa, upd_same]
                  rw [List.map_append] at this
                  exact this
                · rw [putK_new hn2]
                  show ((kvs ++ [(ky, V.ref p)]).map (·.2)).Nodup
                  rw [List.map_append]
                  refine List.nodup_append.mpr ⟨k2, by simp, fun c hc c' hc' e => ?_⟩
                  rw [List.mem_singleton.mp hc'] at e
                  subst e
                  exact hpk hc
                · rw [putK_new hn2]
                  show V.ref a ∉ (kvs ++ [(ky, V.ref p)]).map (·.2)
                  rw [List.map_append]
                  intro z
                  rcases List.mem_append.mp z with z | z
                  · exact k3 z
                  · have := List.mem_singleton.mp z
                    cases this
                    exact hpa rfl
                · by_cases hcp : c = p
                  · subst hcp
                    refine .inr fun j p2 d' hj hne z g ha => ?_
                    obtain ⟨p3, o3, w2, _, _, w5, _⟩ := s1.own_ j d' hj z
                    rw [g] at w2
                    cases w2
                    exact s1.stands hj z g (ha.step w5 t2.h) hp
                  · rw [putK_new hn2] at hc
                    have hc : V.ref c ∈ (kvs ++ [(ky, V.ref p)]).map (·.2) := hc
                    rw [List.map_append] at hc
                    rcases List.mem_append.mp hc with hc | hc
                    · exact .inl (.inr ⟨hD, _, g5, hc⟩)
                    · have := List.mem_singleton.mp hc
                      cases this
                      exact absurd rfl hcp
              have hil : i < ρ.length := (List.getElem?_eq_some_iff.mp q0).1
              have q1 : (ρ.set i (some (.dt (kvs.map (·.1) ++ [ky]) (ds ++ [.lst []]))))[i]? = some (some (.dt (kvs.map (·.1) ++ [ky]) (ds ++ [.lst []]))) := List.getElem?_set_self hil
              refine ⟨.inl ⟨rfl, [], SqL.of (by rw [upd_ne hpa, upd_same])⟩, ?_⟩
              have hw : wipeE (ρ.set i (some (.dt (kvs.map (·.1) ++ [ky]) (ds ++ [.lst []])))) M = wipeE ρ M := by
                apply List.ext_getElem?
                intro j
                rw [wipeE_at, wipeE_at, List.length_set]
                by_cases hj : j ∈ M
                · rw [if_pos hj, if_pos hj]
                · rw [if_neg hj, if_neg hj, List.getElem?_set_ne (fun (z : i = j) => hj (z ▸ hM))]
              refine he.sn.strong s3 (by rw [hw]; exact hq) fun d y I3 H3 s4 t3 ry h => ?_
              rw [getK_none hn2] at h
              obtain ⟨a3, o3, w2, w3, w4, w5, w6⟩ := s4.own_ i _ hM q1
              rw [h2] at w2
              cases w2
              have e5 := t3.h _ _ (show (upd (upd H1 p (.lst [])) a (.dT (putK kvs ky (.ref p)))) a = _ from upd_same)
              rw [w5] at e5
              cases e5
              have hp5 : H3 p = some (.lst []) := t3.h _ _ (by rw [upd_ne hpa, upd_same])
              refine ⟨p, [], y, rfl, rfl, hp5, by show 0 < sizeLine; exact lim_lt (Nat.zero_le _), ?_⟩
              have hmem : V.ref p ∈ hvals (.dT (putK kvs ky (V.ref p))) := by
                rw [putK_new hn2]
                show V.ref p ∈ (kvs ++ [(ky, V.ref p)]).map (·.2)
                rw [List.map_append]
                exact List.mem_append_right _ List.mem_cons_self
              have fin := s4.putKid (ws' := [y]) (d9 := .dt (kvs.map (·.1) ++ [ky]) (ds ++ [.lst [d]])) hM hD q1 h2 w5 hmem ?_ (fun z => by cases z)
              · rw [List.set_set] at fin
                exact h _ I3 _ fin ((t1.i.trans t2.i).trans t3.i)
              · obtain ⟨w6a, w6b, w6c⟩ := w6.ofD hD
                have hv3 : valV (putK kvs ky (V.ref p)) ky = some (V.ref p) := by
                  rw [putK_new hn2]
                  simp only [valV, List.find?_append]
                  rw [show kvs.find? (fun kv => decide (kv.1 = ky)) = none from List.find?_eq_none.mpr fun kv hkv z => hn2 (List.mem_map.mpr ⟨kv, hkv, of_decide_eq_true z⟩)]
                  simp
                obtain ⟨ds3, e3, w6k⟩ := w6a.invT
                obtain ⟨_, e3b⟩ := D.dt.inj e3
                subst e3b
                obtain ⟨q, ws, es3, e4, f2, f3, f4, f5, f6, f7, f8⟩ := sd_found w6k hv3
                cases e4
                rw [hp5] at f4
                cases f4
                have fin := f8 (I' := I3) (H' := H3) (y := y) (d := d) (.refl _) (fun c hc => by
                  obtain ⟨_, q', ws', es', e1, _, c3, _⟩ := w6k.at_ hc
                  cases e1
                  exact c3) (fun _ _ h => h) w6b ry
                have hks : (putK kvs ky (V.ref p)).map (·.1) = kvs.map (·.1) ++ [ky] := by
                  rw [putK_new hn2, List.map_append]
                  rfl
                rw [hks, sdGo_new (by rw [← kk.len, List.length_map, List.length_map]) hn2] at fin
                have fin2 := OwnD.dt fin
                rw [hks] at fin2
                exact fin2
      | _ => cases hky
    | _ =>
      simp only [sdS, q0] at h
      exact h.elim⟩
end
section
variable {X : Cx} {E : XK} {Mb M : List Nat} {x : Str} {pos pos' : Pos}
/-- x = {}, its things are to be lists of one's own -/
theorem ms_newTD (i : Nat) {px : Pos} (hN : X.N.Nodup) (hi : X.N[i]? = some x := by rfl) (hx : Loc X.env.scope x := by first | exact .inl rfl | exact .inr rfl) (hM : i ∈ M := by decide) (hD : deep M i = true := by decide) (hs : swapsWith (.Dict [] [] pos') (some (.Name x px)) pos.line X.env = pure false := by rfl) (hf : X.fn x = true ∨ X.env.scope.names.lookup x = some .local := by first | exact .inl rfl | exact .inr rfl) :
    MS X E Mb M M (.Assign [.Name x px] (.Dict [] [] pos') pos) (tAsg tDNewT (gName i)) (fun ρ => .ok (.nx (ρ.set i (some (.dt [] []))))) :=
  ⟨ps_set hN hi hx pe_dnewT hs hf, fun Ie He σ I H ρ D0 s h p hp => by
    have t : Stp I H I (upd H p (.dT [])) := Stp.side s.st.e hp
    exact h _ I _ (s.ownX (d9 := .dt [] []) hM t (s.st.e.free hp) hp upd_same (.mkD ⟨OwnD.dt (kvs := []) .nil, List.nodup_nil, List.not_mem_nil⟩ hD) (fun h => by cases h) (fun _ a ha => by cases ha)) (.refl _)⟩
end
end DL
namespace DL
open PySem PySem.Spec PyProof.Rows L2

/-! ### defs of a class -/
section
variable {P : Program} {w : World} {K : PySem.W.Frag} {mg : Str → Option Value} {base : Heap} {x qual n : Str} {C : Addr} {st : Stmt} {f : Addr} {fd : FuncData} {N ps : List Str} {k : Nat} {M M' : List Nat} {ms : Env → R Fl}
theorem MtAt.mk' (F : Fun K x qual st f fd) (hC : mg n = some (.ref C)) (c : Cls K C) (hm : Meth K C x f) (b : Binds K fd ps []) (S : FnScope N ps (defScope st)) (hM : ∀ i ∈ M, ps.length ≤ i)
    (hb : ∀ (cdv : Value) (A : Around) (outer : List PySem.Env) (s : Shared) (H : Hp) (E : XK), Room k (A.deeper (PyProof.Rows.envOfC qual (defScope st) s.heap.objs.size f cdv)) →
      ∃ ts, MSs (cxOf (L2.CX P w) P w K mg base N qual (defScope st) f cdv A outer s H E) E [] M M' (defBody st) ts ms) : MtAt P w K mg base n C x (k + 1) ps.length (runX N.length ms) := ⟨f, fd, ps, hC, c, hm, fn_mirX F S hM hb, b⟩
theorem PrAt.mk' {p : Addr} (F : Fun K x qual st f fd) (hC : mg n = some (.ref C)) (c : Cls K C) (hm : PropOf K C x p f) (b : Binds K fd ps []) (S : FnScope N ps (defScope st)) (hM : ∀ i ∈ M, ps.length ≤ i) (h1 : ps.length = 1)
    (hb : ∀ (cdv : Value) (A : Around) (outer : List PySem.Env) (s : Shared) (H : Hp) (E : XK), Room k (A.deeper (PyProof.Rows.envOfC qual (defScope st) s.heap.objs.size f cdv)) →
      ∃ ts, MSs (cxOf (L2.CX P w) P w K mg base N qual (defScope st) f cdv A outer s H E) E [] M M' (defBody st) ts ms) : PrAt P w K mg base n C x (k + 1) (runX N.length ms) := ⟨p, f, fd, ps, hC, c, hm, h1 ▸ fn_mirX F S hM hb, b⟩
theorem CmAt.mk' {mc : Value} {p : Addr} (F : Fun K x qual st f fd) (hC : mg n = some (.ref C)) (r : ClX.CRead K C mc) (c : ClX.CMet K C mc x p f) (b : Binds K fd ps []) (S : FnScope N ps (defScope st)) (hM : ∀ i ∈ M, ps.length ≤ i)
    (hb : ∀ (cdv : Value) (A : Around) (outer : List PySem.Env) (s : Shared) (H : Hp) (E : XK), Room k (A.deeper (PyProof.Rows.envOfC qual (defScope st) s.heap.objs.size f cdv)) →
      ∃ ts, MSs (cxOf (L2.CX P w) P w K mg base N qual (defScope st) f cdv A outer s H E) E [] M M' (defBody st) ts ms) : CmAt P w K mg base n C x (k + 1) ps.length (runX N.length ms) := ⟨mc, p, f, fd, ps, hC, r, c, fn_mirX F S hM hb, b⟩
theorem CkAt.mk' {nn : Nat} (F : Fun K x qual st f fd) (hC : mg n = some (.ref C)) (hm : Mk K C f) (b : Binds K fd ps []) (S : FnScope N ps (defScope st)) (hp : ps.length = nn + 1) (hM : ∀ i ∈ M, i = 0 ∨ nn + 1 ≤ i) (h0 : 0 ∈ M) (hD0 : deep M 0 = false)
    (hb : ∀ (cdv : Value) (A : Around) (outer : List PySem.Env) (s : Shared) (H : Hp) (E : XK), Room k (A.deeper (PyProof.Rows.envOfC qual (defScope st) s.heap.objs.size f cdv)) →
      ∃ ts, MSs (cxOf (L2.CX P w) P w K mg base N qual (defScope st) f cdv A outer s H E) E [] M M (defBody st) ts ms) : CkAt P w K mg base n C (k + 1) nn (runI N.length n ms) := ⟨hC, f, fd, ps, hm, fn_mirI (nm := n) F S hp hM h0 hD0 hb, b⟩
theorem XcAt.mk' {fs : List Str} (F : Fun K x qual st f fd) (hC : mg n = some (.ref C)) (c : DL.ClX K C fs) (iC : PySem.W.findIn K (.ref C) "__init__" = some (some (.ref f))) (tI : PySem.W.typeIn K (.ref f) = some (.type "function")) (b : Binds K fd ps []) (S : FnScope N ps (defScope st)) (hps : ps.length = fs.length + 1) (hne : fs ≠ []) (hl : fs.length ≤ 900)
    (hb : ∀ (cdv : Value) (A : Around) (outer : List PySem.Env) (s : Shared) (H : Hp) (E : XK), PSs (cxOf CX0 P w K mg base N qual (defScope st) f cdv A outer s H E).nox (defBody st) (tX K 1 fs)) : XcAt P w K mg base n C fs := ⟨hC, c, f, fd, ps, iC, tI, fn_xi F S hps c hne hl hb, b⟩
end
/-- what is known of an exception's class -/
theorem XSub.of {K : PySem.W.Frag} {mg : Str → Option Value} {T : Str → Str → Option Bool} {B : Str → String → Option Bool} (h1 : ∀ n C, (∃ c b, T n c = some b) ∨ (∃ c b, B n c = some b) → mg n = some (.ref C) → ExcC K C ∧ (PySem.W.clsIn K C).isSome = true) (h2 : ∀ n c b C u, T n c = some b → mg n = some (.ref C) → mg c = some u → PySem.W.kitOne K (.ref C) u = some b ∧ PySem.W.exmOne K (.ref C) u = some b) (h3 : ∀ n c b C, B n c = some b → mg n = some (.ref C) → PySem.W.kitOne K (.ref C) (.type c) = some b ∧ PySem.W.exmOne K (.ref C) (.type c) = some b) : XSub K mg T B := ⟨h1, h2, h3⟩
/-- a table of triples -/
def tab {κ : Type} [DecidableEq κ] : List (Str × κ × Bool) → Str → κ → Option Bool
  | [], _, _ => none
  | (n, c, b) :: l, m, d => if m = n ∧ d = c then some b else tab l m d
theorem tab_mem {κ : Type} [DecidableEq κ] : ∀ {l : List (Str × κ × Bool)} {m : Str} {d : κ} {b : Bool}, tab l m d = some b → (m, d, b) ∈ l
  | [], _, _, _, h => by cases h
  | (n, c, b') :: l, m, d, b, h => by
    unfold tab at h
    by_cases e : m = n ∧ d = c
    · rw [if_pos e] at h
      cases h
      obtain ⟨rfl, rfl⟩ := e
      exact List.mem_cons_self
    · rw [if_neg e] at h
      exact List.mem_cons_of_mem _ (tab_mem h)
end DL
namespace DL
open PySem PySem.Spec PyProof.Rows L2
/-! ### the tables from plain facts -/
structure XcOk (K : PySem.W.Frag) (C : Addr) : Prop where
  c : ExcC K C
  ty : PySem.W.typeIn K (.ref C) = some (.type "type")
  cl : (PySem.W.clsIn K C).isSome = true
  me : PySem.W.subIn K (.ref C) (.ref C) = some true
theorem kit_own {K : PySem.W.Frag} {C C' : Addr} {b : Bool} (me : PySem.W.subIn K (.ref C) (.ref C) = some true) (ty : PySem.W.typeIn K (.ref C') = some (.type "type")) (cl : (PySem.W.clsIn K C').isSome = true) (h : PySem.W.subIn K (.ref C) (.ref C') = some b) : PySem.W.kitOne K (.ref C) (.ref C') = some b := by
  unfold PySem.W.kitOne
  by_cases e : C = C'
  · subst e
    rw [me] at h
    cases h
    rw [if_pos (by simp)]
  · rw [if_neg (by simpa using e)]
    show (if ((PySem.W.clsIn K C').isSome && PySem.W.typeIn K (.ref C') == some (.type "type")) = true then PySem.W.subIn K (.ref C) (.ref C') else none) = some b
    rw [cl, ty, if_pos (by decide)]
    exact h
theorem exm_own {K : PySem.W.Frag} {C C' : Addr} {b : Bool} (ex : PySem.W.subIn K (.ref C') (.type "BaseException") = some true) (ty : PySem.W.typeIn K (.ref C') = some (.type "type")) (cl : (PySem.W.clsIn K C').isSome = true) (h : PySem.W.subIn K (.ref C) (.ref C') = some b) : PySem.W.exmOne K (.ref C) (.ref C') = some b := by
  unfold PySem.W.exmOne
  rw [ex, if_pos (by decide)]
  show (if ((PySem.W.clsIn K C').isSome && PySem.W.typeIn K (.ref C') == some (.type "type")) = true then PySem.W.subIn K (.ref C) (.ref C') else none) = some b
  rw [cl, ty, if_pos (by decide)]
  exact h
theorem kit_bt {K : PySem.W.Frag} {C : Addr} {c : String} {b : Bool} (m : PySem.W.kitMeta c = true) (h : PySem.W.subIn K (.ref C) (.type c) = some b) : PySem.W.kitOne K (.ref C) (.type c) = some b := by
  unfold PySem.W.kitOne
  rw [if_neg (by simp)]
  show (if PySem.W.kitMeta c = true then PySem.W.subIn K (.ref C) (.type c) else none) = some b
  rw [if_pos m]
  exact h
theorem exm_bt {K : PySem.W.Frag} {C : Addr} {c : String} {b : Bool} (ex : PySem.W.subIn K (.type c) (.type "BaseException") = some true) (m : PySem.W.kitMeta c = true) (h : PySem.W.subIn K (.ref C) (.type c) = some b) : PySem.W.exmOne K (.ref C) (.type c) = some b := by
  unfold PySem.W.exmOne
  rw [ex, if_pos (by decide)]
  show (if PySem.W.kitMeta c = true then PySem.W.subIn K (.ref C) (.type c) else none) = some b
  rw [if_pos m]
  exact h
/-- one row of the table of exceptions' classes: n is below c, or not -/
def XRow (K : PySem.W.Frag) (mg : Str → Option Value) (p : Str × Str × Bool) : Prop := ∃ C C', mg p.1 = some (.ref C) ∧ mg p.2.1 = some (.ref C') ∧ XcOk K C ∧ PySem.W.subIn K (.ref C') (.type "BaseException") = some true ∧ PySem.W.typeIn K (.ref C') = some (.type "type") ∧ (PySem.W.clsIn K C').isSome = true ∧ PySem.W.subIn K (.ref C) (.ref C') = some p.2.2
def BRow (K : PySem.W.Frag) (mg : Str → Option Value) (p : Str × String × Bool) : Prop := ∃ C, mg p.1 = some (.ref C) ∧ XcOk K C ∧ PySem.W.kitMeta p.2.1 = true ∧ PySem.W.subIn K (.type p.2.1) (.type "BaseException") = some true ∧ PySem.W.subIn K (.ref C) (.type p.2.1) = some p.2.2
theorem XSub.rows {K : PySem.W.Frag} {mg : Str → Option Value} {l : List (Str × Str × Bool)} {m : List (Str × String × Bool)} (h1 : ∀ p ∈ l, XRow K mg p) (h2 : ∀ p ∈ m, BRow K mg p) : XSub K mg (tab l) (tab m) where
  cl := fun n C h hn => by
    rcases h with ⟨c, b, h⟩ | ⟨c, b, h⟩
    · obtain ⟨C0, C', e1, _, k, _⟩ := h1 _ (tab_mem h)
      cases e1.symm.trans hn
      exact ⟨k.c, k.cl⟩
    · obtain ⟨C0, e1, k, _⟩ := h2 _ (tab_mem h)
      cases e1.symm.trans hn
      exact ⟨k.c, k.cl⟩
  own := fun n c b C u h hn hc => by
    obtain ⟨C0, C', e1, e2, k, k1, k2, k3, k4⟩ := h1 _ (tab_mem h)
    cases e1.symm.trans hn
    cases e2.symm.trans hc
    exact ⟨kit_own k.me k2 k3 k4, exm_own k1 k2 k3 k4⟩
  bt := fun n c b C h hn => by
    obtain ⟨C0, e1, k, k1, k2, k3⟩ := h2 _ (tab_mem h)
    cases e1.symm.trans hn
    exact ⟨kit_bt k1 k3, exm_bt k2 k1 k3⟩
def ORow (K : PySem.W.Frag) (mg : Str → Option Value) (p : Str × Str × Bool) : Prop := ∃ C C', mg p.1 = some (.ref C) ∧ mg p.2.1 = some (.ref C') ∧ OcOk K C ∧ PySem.W.subIn K (.ref C) (.ref C) = some true ∧ PySem.W.typeIn K (.ref C') = some (.type "type") ∧ (PySem.W.clsIn K C').isSome = true ∧ PySem.W.subIn K (.ref C) (.ref C') = some p.2.2
def PRow (K : PySem.W.Frag) (mg : Str → Option Value) (p : Str × String × Bool) : Prop := ∃ C, mg p.1 = some (.ref C) ∧ OcOk K C ∧ PySem.W.kitMeta p.2.1 = true ∧ PySem.W.subIn K (.ref C) (.type p.2.1) = some p.2.2
theorem OSub.rows {K : PySem.W.Frag} {mg : Str → Option Value} {l : List (Str × Str × Bool)} {m : List (Str × String × Bool)} (h1 : ∀ p ∈ l, ORow K mg p) (h2 : ∀ p ∈ m, PRow K mg p) : OSub K mg (tab l) (tab m) (fun _ _ => none) where
  cl := fun n C h hn => by
    rcases h with ⟨c, b, h⟩ | ⟨c, b, h⟩
    · obtain ⟨C0, C', e1, _, k, _⟩ := h1 _ (tab_mem h)
      cases e1.symm.trans hn
      exact k
    · obtain ⟨C0, e1, k, _⟩ := h2 _ (tab_mem h)
      cases e1.symm.trans hn
      exact k
  own := fun n c b C u h hn hc => by
    obtain ⟨C0, C', e1, e2, k, k1, k2, k3, k4⟩ := h1 _ (tab_mem h)
    cases e1.symm.trans hn
    cases e2.symm.trans hc
    exact kit_own k1 k2 k3 k4
  bt := fun n c b C h hn => by
    obtain ⟨C0, e1, k, k1, k3⟩ := h2 _ (tab_mem h)
    cases e1.symm.trans hn
    exact kit_bt k1 k3
  bo := fun _ _ _ _ h _ => by cases h
end DL
namespace DL
open PySem PySem.Spec PyProof.Rows L2
theorem ClF.nil {K : PySem.W.Frag} {mg : Str → Option Value} {f : Str} : ClF K (g0 mg) [] f := fun _ h => absurd h List.not_mem_nil
theorem ClF.cons {K : PySem.W.Frag} {mg : Str → Option Value} {f n : Str} {ns : List Str} {C : Addr} (h : mg n = some (.ref C)) (c : Cls K C) (a : NoAttr K C f) (r : ClF K (g0 mg) ns f) : ClF K (g0 mg) (n :: ns) f := fun m hm C' hC => by
  rcases List.mem_cons.mp hm with e | hm
  · subst e
    have hC : mg m = some (.ref C') := hC
    cases h.symm.trans hC
    exact ⟨c, a⟩
  · exact r m hm C' hC
theorem XcF.nil {K : PySem.W.Frag} {mg : Str → Option Value} {f : Str} : XcF K mg [] f := fun _ h => absurd h List.not_mem_nil
theorem XcF.cons {K : PySem.W.Frag} {mg : Str → Option Value} {f n : Str} {ns : List Str} {C : Addr} (h : mg n = some (.ref C)) (c : XfC K C) (a : PySem.W.findIn K (.ref C) f = some none) (r : XcF K mg ns f) : XcF K mg (n :: ns) f := fun m hm C' hC => by
  rcases List.mem_cons.mp hm with e | hm
  · subst e
    cases h.symm.trans hC
    exact ⟨c, a⟩
  · exact r m hm C' hC
theorem all_nil {α : Type} {p : α → Prop} : ∀ x ∈ ([] : List α), p x := fun _ h => absurd h List.not_mem_nil
theorem all_cons {α : Type} {p : α → Prop} {a : α} {l : List α} (h : p a) (r : ∀ x ∈ l, p x) : ∀ x ∈ a :: l, p x := List.forall_mem_cons.mpr ⟨h, r⟩
def clsB : Stmt → List Stmt
  | .ClassDef (body := b) .. => b
  | _ => []
/-- the j-th def of a class -/
def inC (s : Stmt) (j : Nat) : Stmt := (clsB s).getD j (.Pass ⟨0, 0, 0, 0⟩)
end DL
namespace DL
open PySem PySem.Spec PyProof.Rows L2
theorem mt_truK {X : Cx} {E : Wh} {e : Expr} {t : TE} {m : Env → R D} (K : PySem.W.Frag) (h : ME X E e t m) (he : ∀ whole, isTrue e X.env whole = (do let v ← whole; standAt e.pos; holding [v] (truthy v)) := by intro _; rfl) (hK : X.K = K := by rfl) : MT X E e (fun σ H Q => t σ H fun x H' => ∃ k, TruV K x H' k ∧ Q k H') (fun ρ => tru (m ρ)) := by
  subst hK
  exact mt_truth h he
end DL
namespace PySem
open Sem (wp)
set_option maxHeartbeats 1000000 in
theorem dl_meets_enumerate_newB {v : Value} {o : Obj} {H : Heap → Prop} (B : Begins v o H) :
    Meets (Builtin.«enumerate.__new__» ⟨[.type "enumerate", v], []⟩) (fun _ R s => H s.heap ∧
      R (.ok (.ret (.ref (s.heap.push o).objs.size))) { s with heap := (s.heap.push o).push { cls := .type "enumerate", data := .fields #[.none, .bool false, .ref s.heap.objs.size, rawInt 0, .none, .none] } }) :=
  .of_wp fun prog w A R s h => by
    obtain ⟨hp, g, d, tk, os⟩ := s; obtain ⟨h1, h⟩ := h
    have hsub := sub_enumerate
    have q1 : ∀ {A' : Around} {E : Value → Shared → Prop} {Q : Value → Shared → Prop}, Q (.ref hp.objs.size) ⟨hp.push o, g, d, tk, os⟩ → wpAny (model prog w) A' (pyIter v) Q E ⟨hp, g, d, tk, os⟩ :=
      fun q => B.iter prog w _ _ ⟨hp, g, d, tk, os⟩ _ h1 q
    wp_walk using q1
    refine wpAny_stack_any fun st => wpAny_pure ?_
    split
    · rename_i c _ _ _ _ _
      cases (c == Value.type "enumerate")
      · wp_walk using q1
        exact ⟨_, rfl, h⟩
      · wp_walk using q1
        exact ⟨_, rfl, h⟩
    · wp_walk using q1
      exact ⟨_, rfl, h⟩
theorem dl_call_enumerate {prog : Program} {w : World} {A : Around} {E : Value → Shared → Prop} {s : Shared} {v : Value} {o : Obj} {H : Heap → Prop} {Q : Value → Shared → Prop} (B : Begins v o H) (h1 : H s.heap)
    (h : ∀ h', IsEnum h' (s.heap.objs.size + 1) s.heap.objs.size 0 .none → h'.get? s.heap.objs.size = some o → h'.objs.size = s.heap.objs.size + 2 →
      (∀ b o, s.heap.get? b = some o → h'.get? b = some o) → Q (.ref (s.heap.objs.size + 1)) { s with heap := h' }) :
    wpAny (model prog w) A (call (.type "enumerate") [v]) Q E s := by
  refine callType_new F.called_enumerate (by decide) (F.typeCall_enumerate_1 _) (F.newCall_enumerate_1 _) (fun obj => F.args_object_init_2 obj _) F.entry_enumerate_new
    (dl_meets_enumerate_newB B) ⟨h1, ?_⟩
  have hz : (s.heap.push o).objs.size = s.heap.objs.size + 1 := Heap.size_push ..
  show _ ∧ _
  rw [hz]
  have he : IsEnum ((s.heap.push o).push { cls := .type "enumerate", data := .fields #[.none, .bool false, .ref s.heap.objs.size, rawInt 0, .none, .none] }) (s.heap.objs.size + 1) s.heap.objs.size 0 .none := by
    have := Heap.get?_push_size (s.heap.push o) (o := { cls := .type "enumerate", data := .fields #[.none, .bool false, .ref s.heap.objs.size, rawInt 0, .none, .none] }) rfl
    rw [hz] at this; exact this
  refine ⟨⟨_, he, rfl⟩, h _ he (Heap.get?_push_of_some _ (Heap.get?_push_size _ B.free)) (by rw [Heap.size_push, hz]) fun b o x => Heap.get?_push_of_some _ (Heap.get?_push_of_some _ x)⟩
theorem dl_enum_endT {prog : Program} {w : World} {A : Around} {E : Value → Shared → Prop} {s : Shared} {e it t : Addr} {items : Array Value} {i : Nat} {k : Int} {old : Value} {Q : Option Value → Shared → Prop}
    (hh : A.in1.handled = none) (he : IsEnum s.heap e it k old) (hit : s.heap.IsTupleIter it t i) (ht : s.heap.IsTuple t items) (hx : items[i]? = none)
    (hQ : ∀ h', Heap.ExtBut it s.heap h' → Q none { s with heap := h' }) : wpAny (model prog w) A (pyNext (.ref e)) Q E s := by
  have hT : s.TypeIs (.ref e) "enumerate" := ⟨_, he, rfl⟩
  unfold pyNext
  refine wpAny_bind (wpAny_attempt (wpAny_callSpecial?_slot (name := Str.ofString "__next__") hT F.slot_enumerate_next
    (wpAny_call_entry F.slot_enumerate_next hT F.entry_enumerate_next ?_ (F.args_enumerate_next_1 _))))
  show wpAny _ _ (field (.ref e) 2 >>= _) _ _ _
  refine wpAny_bind (wpAny_field he rfl (x := .ref it) rfl ?_)
  refine wpAny_bind (wpAny_nextOf_tuple_end hh hit ht hx fun h' x he' hx' => ?_)
  obtain ⟨o, ho, hc⟩ := hx'
  refine wpAny_bind (wpAny_isInstance (T := "StopIteration") (b := true) ⟨o, ho, hc⟩ isSubtype_stop ?_)
  exact wpAny_pure (hQ _ he')
end PySem
namespace DL
open PySem PySem.Spec PyProof.Rows L2
/-- the tuple at a, each item in a new pair -/
def IteT (K : PySem.W.Frag) (a : Addr) : It :=
  ⟨fun i H => ∃ (xs : List V) (x : V), SqT K H a xs ∧ xs[i]? = some x, fun i H v H' => ∃ T x, v = .ref T ∧ H T = none ∧ H' = upd H T (.tup [.int (i : Nat), x]) ∧ ∀ xs, SqT K H a xs → xs[i]? = some x, fun i H => ∃ xs : List V, SqT K H a xs ∧ xs.length ≤ i⟩
theorem turn_enumT {P : Program} {w : World} {K : PySem.W.Frag} {elts : List Expr} {kk : Nat} {tpos : Pos} (a e it : Addr) :
    Turn P w K (.Tuple elts kk tpos) (IteT K a) [e, it] e (fun i h => (∃ old, IsEnum h e it ((i : Nat) : Int) old) ∧ h.IsTupleIter it a i ∧ e ≠ it) where
  mem := by simp
  obj := fun i h st b hb => by
    obtain ⟨⟨old, he⟩, ⟨o, ho, hc, hd⟩, _⟩ := st
    have e' : b = e ∨ b = it := by simpa using hb
    rcases e' with z | z
    · rw [z]; exact ⟨_, he, fun v q => nomatch q⟩
    · rw [z]; exact ⟨o, ho, fun v q => by rw [hd] at q; cases q⟩
  keep := fun i h h' st k => let ⟨⟨old, he⟩, hi, hne⟩ := st; ⟨⟨old, k e (by simp) _ he⟩, hi.at fun o q => k it (by simp) o q, hne⟩
  item := by
    intro X hP hw hK hc i pins s σ H E I hf st hg
    subst hP hw hK
    obtain ⟨⟨old, he⟩, hit, hne⟩ := st
    obtain ⟨xs, x, hq, hx⟩ := hg
    obtain ⟨its, rv, p, hz⟩ := I.tuple hq
    obtain ⟨u, hu, ru⟩ := rv.get hx
    have hel : e < s.heap.objs.size := Heap.lt_size he
    have hil : it < s.heap.objs.size := by obtain ⟨_, q, _⟩ := hit; exact Heap.lt_size q
    have hea : e ≠ a := fun z => by
      obtain ⟨o, ho, hcl, _⟩ := p
      rw [← z] at ho
      cases he.symm.trans ho
      injection hcl with z
      exact absurd z (by decide)
    have hta : a ≠ it := fun z => by
      obtain ⟨o, ho, hcl, _⟩ := p
      obtain ⟨o', ho', hcl', _⟩ := hit
      rw [z] at ho
      cases ho.symm.trans ho'
      rw [hcl] at hcl'
      injection hcl' with z
      exact absurd z (by decide)
    have hlt : i < its.toArray.size := by
      have := (List.getElem?_eq_some_iff.mp hu).1
      simpa using this
    refine wpAny_pyNext_enum_itemD (Draws.tuple (A := X.A.in1) (I.ok.hd hc) it a hta its.toArray) he ⟨hit, p⟩ hlt hne (by simp [hne, hea]) fun x' h' tk hP ho hit' hT hsz hk => ?_
    have hxu : x' = u := by
      have hP : its.toArray[i]? = some x' := hP
      rw [List.getElem?_toArray, hu] at hP
      exact (Option.some.inj hP).symm
    subst hxu
    refine ⟨_, rfl, wpAny_letOwnedTupleGo_enum (s := { s with heap := h', toks := tk + 1 }) ho fun h'' he' sb => ?_⟩
    have hT2 : h''.get? s.heap.objs.size = some { cls := .type "tuple", data := .seq #[.int i tk, x'] } := (sb.2 _ (Nat.ne_of_gt hel)).trans hT
    have new : ObjOk X.prog X.w (upd H s.heap.objs.size (.tup [.int (i : Nat), x])) h'' s.heap.objs.size (.tup [.int (i : Nat), x]) :=
      ⟨by show 2 ≤ sizeLine; decide, [.int i tk, x'], .cons ⟨_, rfl⟩ (.cons ru .nil), ⟨_, hT2, rfl, _, rfl⟩⟩
    have I1 : Inv X pins σ (upd H s.heap.objs.size (.tup [.int (i : Nat), x])) { s with heap := h'', toks := tk + 1 } :=
      I.turnedNew (ch := [e, it]) (fun b ob hb q => (sb.2 b (fun z => hb (by simp [z]))).trans (hk b ob (fun z => hb (by simp [z])) (fun z => hb (by simp [z])) q)) hf (Nat.le_refl _) new
    refine ⟨.ref s.heap.objs.size, _, I1, rfl, ⟨_, x, rfl, I.hok.fresh (Nat.le_refl _), rfl, fun ys hy => by rw [I.tuple_inj hy hq]; exact hx⟩, ⟨⟨x', ?_⟩, hit'.1.at fun o q => (sb.2 it (Ne.symm hne)).trans q, hne⟩, fun b hb => ?_⟩
    · have e1 : ((i + 1 : Nat) : Int) = (i : Int) + 1 := by omega
      rw [e1]; exact he'
    · have hb' : b < s.heap.objs.size := by
        have e' : b = e ∨ b = it := by simpa using hb
        rcases e' with z | z
        · rw [z]; exact hel
        · rw [z]; exact hil
      rw [upd_ne (Nat.ne_of_lt hb')]
      exact (hf b hb).1
  done := by
    intro X hP hw hK hc i pins s σ H E I hf st hg
    subst hP hw hK
    obtain ⟨⟨old, he⟩, hit, hne⟩ := st
    obtain ⟨xs, hq, hx⟩ := hg
    obtain ⟨its, rv, p, hz⟩ := I.tuple hq
    obtain ⟨f0, f1, f2, f3, f4, f5⟩ := hf it (by simp)
    have hl := rv.length
    have hta : a ≠ it := fun z => by
      obtain ⟨o, ho, hcl, _⟩ := p
      obtain ⟨o', ho', hcl', _⟩ := hit
      rw [z] at ho
      cases ho.symm.trans ho'
      rw [hcl] at hcl'
      injection hcl' with z
      exact absurd z (by decide)
    exact dl_enum_endT (I.ok.hd hc) he hit p (by simp; omega) fun h' eb => ⟨rfl, I.turned (t' := s.toks) (fun b o hb q => eb b o hb q) f0 f1 f3 f4 f5⟩
  self := fun A i s Q E st h => let ⟨⟨_, he⟩, _⟩ := st; wpAny_pyIter_enum he h
def iEnumT (K : PySem.W.Frag) (ta : TA) : TI := fun σ H R => ta σ H fun vs H1 => ∃ a xs, vs = [.ref a] ∧ SqT K H1 a xs ∧ R (IteT K a) H1
theorem pi_enumT {X : Cx} {e : Expr} {ta : TA} {p pos tpos : Pos} {elts : List Expr} {kk : Nat} (hg : Gl X "enumerate") (hm : X.mg "enumerate" = none) (ha : PA X [e] ta) (hs : starEach [e] X.env = [(false, eval e X.env)] := by rfl) :
    PI X (.Tuple elts kk tpos) (.Call (.Name "enumerate" p) [e] [] pos) (iEnumT X.K ta) := by
  refine ⟨fun pins s σ H R I h => ?_⟩
  refine Call_ (ld_blt I hg hm boot_enumerate (PyProof.Rows.callWith_type1 (thn (ha.run pos pins s σ H _ I h) fun us s1 ⟨vs, H1, I1, r1, q1⟩ => ?_) hs rfl))
  obtain ⟨a, xs, ex, hq, q⟩ := q1
  subst ex
  cases r1 with
  | cons r rr =>
    cases rr
    cases r
    obtain ⟨its, rv, p', hz⟩ := I1.tuple hq
    refine dl_call_enumerate (begins_tuple a its.toArray) p' fun h' he hit hsz hk => wpAny_pyIter_enum he ?_
    have I2 : L2.Inv X pins σ H1 { s1 with heap := h' } := I1.kept (t' := s1.toks) hk
    refine ⟨s1.heap.objs.size + 1, [s1.heap.objs.size + 1, s1.heap.objs.size], _, _, H1, rfl, I2, turn_enumT a (s1.heap.objs.size + 1) s1.heap.objs.size, ⟨⟨.none, he⟩, ⟨_, hit, rfl, rfl⟩, Nat.succ_ne_self _⟩, fun b hb => ?_, q⟩
    have e' : b = s1.heap.objs.size + 1 ∨ b = s1.heap.objs.size := by simpa using hb
    have hle : s1.heap.objs.size ≤ b := by
      rcases e' with z | z
      · rw [z]; exact Nat.le_add_right _ _
      · rw [z]; exact Nat.le_refl _
    exact I1.fpOk hle (I1.hok.fresh hle)
section
variable {X : Cx} {E : Wh} {K : PySem.W.Frag} {mg : Gm} {I I' H H' : Hp} {σ : L2.St} {ρ : Env} {a b c e tg : Expr} {es : List Expr} {pos p tpos : Pos} {m : Env → R D} {ms : Env → R (List D)} {t : TE} {tas : TA}
theorem it_enumT {a : Addr} {vs : List V} {ds : List D} (h : SqT K I a vs) (r : Reps K mg I vs ds) : ItOk K mg I (IteT K a) (enumD 0 ds) := fun I1 H e1 e2 => ⟨fun i d hd => by
    obtain ⟨d', hd', rfl⟩ := enumD_get 0 ds i hd
    obtain ⟨v, hv, rv⟩ := r.get hd'
    refine ⟨⟨vs, v, same_t (e1.trans e2) h, hv⟩, fun x H' y => ?_⟩
    obtain ⟨T, x', rfl, hn, rfl, hx⟩ := y
    have e := hx vs (same_t (e1.trans e2) h)
    rw [hv] at e
    cases e
    refine ⟨_, .new e2 hn, ?_⟩
    rw [Nat.zero_add]
    exact new_tup e2 hn (.cons (.int _) (.cons (rv.mono e1) .nil)), ⟨vs, same_t (e1.trans e2) h, by rw [enumD_len]; exact Nat.le_of_eq r.len⟩⟩
def enumA : List D → R (List D)
  | [.lst ds] => .ok (enumD 0 ds)
  | [.scr ns] => .ok (enumD 0 (ns.map D.int))
  | [.tup ds] => .ok (enumD 0 ds)
  | _ => .stuck
theorem mi_enumA (K : PySem.W.Frag) {elts : List Expr} {kk : Nat} (hg : Gl X "enumerate") (hm : X.mg "enumerate" = none) (ha : MA X E [e] tas ms) (hs : starEach [e] X.env = [(false, eval e X.env)] := by rfl) (hK : X.K = K := by rfl) :
    MI X E (.Tuple elts kk tpos) (.Call (.Name "enumerate" p) [e] [] pos) (fun σ H Rr => iEnum K tas σ H Rr ∨ iEnumT K tas σ H Rr) (fun ρ => dsp enumA (ms ρ)) := by
  subst hK
  obtain ⟨pt, st⟩ := ha
  refine ⟨PI.or (pi_enum hg hm pt hs) (pi_enumT hg hm pt hs), fun σ I H ρ Q re ex h => ?_⟩
  have h : Out X.K (gm X E) (E.e σ) (ItOk X.K (gm X E)) I H (ms ρ >>= enumA) Q := h
  have go1 : (∀ ds, ms ρ = .ok ds → ∀ es, ds ≠ [.tup es]) → iEnum X.K tas σ H Q := fun hd => by
    refine st.run re ex h fun ds vs I1 H1 e s1 rs h => ?_
    unfold enumA at h
    split at h
    · obtain ⟨v, rfl, r⟩ := reps1 rs
      cases r with
      | lst hh ra => exact ⟨_, _, rfl, SqL.of (s1.e _ _ hh), h.here s1.e (it_enum (SqL.of hh) ra)⟩
    · obtain ⟨v, rfl, r⟩ := reps1 rs
      cases r with
      | scr hh => exact ⟨_, _, rfl, s1.e.seq hh, h.here s1.e (it_enum hh .ints)⟩
    · exact absurd rfl (hd _ e _)
    · exact h.elim
  by_cases hd : ∃ es, ms ρ = .ok [.tup es]
  · obtain ⟨es, hd⟩ := hd
    refine .inr ?_
    refine st.run re ex h fun ds vs I1 H1 e s1 rs h => ?_
    rw [hd] at e
    cases e
    obtain ⟨v, rfl, r⟩ := reps1 rs
    cases r with
    | tup hh ra => exact ⟨_, _, rfl, SqT.of (s1.e _ _ hh), h.here s1.e (it_enumT (SqT.of hh) ra)⟩
  · exact .inl (go1 fun ds e es z => hd ⟨es, by rw [e, z]⟩)
end
end DL
namespace DL
open PySem PySem.Spec PyProof.Rows L2

/-! ### sorted of rows of ints -/
def lexL : List Int → List Int → Bool
  | [], [] => false
  | [], _ :: _ => true
  | _ :: _, [] => false
  | x :: xs, y :: ys => if x = y then lexL xs ys else decide (x < y)
def lexF (fin : Bool) : List Int → List Int → Bool
  | x :: xs, y :: ys => if x = y then lexF fin xs ys else decide (x < y)
  | _, _ => fin
theorem lexF_len : ∀ xs ys : List Int, lexF (decide (xs.length < ys.length)) xs ys = lexL xs ys
  | [], [] => rfl
  | [], _ :: _ => by simp [lexF, lexL]
  | _ :: _, [] => by simp [lexF, lexL]
  | x :: xs, y :: ys => by
    unfold lexF lexL
    rw [show decide ((x :: xs).length < (y :: ys).length) = decide (xs.length < ys.length) from by simp, lexF_len xs ys]
theorem lexL_irr : ∀ xs : List Int, lexL xs xs = false
  | [] => rfl
  | x :: xs => by
    unfold lexL
    rw [if_pos rfl]
    exact lexL_irr xs
theorem lexL_asym : ∀ xs ys : List Int, lexL xs ys = true → lexL ys xs = false
  | [], [], h => by cases h
  | [], _ :: _, _ => rfl
  | _ :: _, [], h => by cases h
  | x :: xs, y :: ys, h => by
    unfold lexL at h ⊢
    by_cases e : x = y
    · rw [if_pos e] at h
      rw [if_pos e.symm]
      exact lexL_asym xs ys h
    · rw [if_neg e] at h
      rw [if_neg (Ne.symm e)]
      have := of_decide_eq_true h
      exact decide_eq_false (by omega)
theorem lexL_tr : ∀ xs ys zs : List Int, lexL ys xs = false → lexL zs ys = false → lexL zs xs = false
  | [], [], zs, _, h => h
  | [], _ :: _, [], _, h => by cases h
  | [], _ :: _, _ :: _, _, _ => rfl
  | _ :: _, [], _, h, _ => by cases h
  | _ :: _, _ :: _, [], _, h => by cases h
  | x :: xs, y :: ys, z :: zs, h1, h2 => by
    unfold lexL at h1 h2 ⊢
    by_cases e1 : y = x
    · rw [if_pos e1] at h1
      by_cases e2 : z = y
      · rw [if_pos e2] at h2
        rw [if_pos (e2.trans e1)]
        exact lexL_tr xs ys zs h1 h2
      · rw [if_neg e2] at h2
        have := of_decide_eq_false h2
        rw [if_neg (by omega)]
        exact decide_eq_false (by omega)
    · rw [if_neg e1] at h1
      have h1 := of_decide_eq_false h1
      by_cases e2 : z = y
      · rw [if_neg (by omega)]
        exact decide_eq_false (by omega)
      · rw [if_neg e2] at h2
        have h2 := of_decide_eq_false h2
        rw [if_neg (by omega)]
        exact decide_eq_false (by omega)
theorem lexL_eq : ∀ xs ys : List Int, lexL xs ys = false → lexL ys xs = false → xs = ys
  | [], [], _, _ => rfl
  | [], _ :: _, h, _ => by cases h
  | _ :: _, [], _, h => by cases h
  | x :: xs, y :: ys, h1, h2 => by
    unfold lexL at h1 h2
    by_cases e : x = y
    · subst e
      rw [if_pos rfl] at h1 h2
      rw [lexL_eq xs ys h1 h2]
    · rw [if_neg e] at h1
      rw [if_neg (Ne.symm e)] at h2
      have h1 := of_decide_eq_false h1
      have h2 := of_decide_eq_false h2
      omega
def insR (x : List Int) : List (List Int) → List (List Int)
  | [] => [x]
  | y :: ys => if lexL y x = true then y :: insR x ys else x :: y :: ys
def sortR : List (List Int) → List (List Int)
  | [] => []
  | x :: xs => insR x (sortR xs)
theorem insR_perm (x : List Int) : ∀ ys : List (List Int), (insR x ys).Perm (x :: ys)
  | [] => .refl _
  | y :: ys => by
    unfold insR
    split
    · exact (List.Perm.cons y (insR_perm x ys)).trans (List.Perm.swap x y ys)
    · exact .refl _
theorem sortR_perm : ∀ xs : List (List Int), (sortR xs).Perm xs
  | [] => .refl _
  | x :: xs => (insR_perm x _).trans ((sortR_perm xs).cons x)
theorem insR_srt (x : List Int) : ∀ ys : List (List Int), ys.Pairwise (fun a b => lexL b a = false) → (insR x ys).Pairwise (fun a b => lexL b a = false)
  | [], _ => List.pairwise_singleton _ _
  | y :: ys, h => by
    obtain ⟨h1, h2⟩ := List.pairwise_cons.mp h
    unfold insR
    split
    · rename_i e
      refine List.pairwise_cons.mpr ⟨fun z hz => ?_, insR_srt x ys h2⟩
      rcases List.mem_cons.mp ((insR_perm x ys).mem_iff.mp hz) with rfl | hz
      · exact lexL_asym _ _ e
      · exact h1 z hz
    · rename_i e
      have e : lexL y x = false := by simpa using e
      refine List.pairwise_cons.mpr ⟨fun z hz => ?_, h⟩
      rcases List.mem_cons.mp hz with rfl | hz
      · exact e
      · exact lexL_tr _ _ _ e (h1 z hz)
theorem sortR_srt : ∀ xs : List (List Int), (sortR xs).Pairwise (fun a b => lexL b a = false)
  | [] => .nil
  | x :: xs => insR_srt x _ (sortR_srt xs)
theorem srtR_uniq : ∀ {xs ys : List (List Int)}, xs.Perm ys → xs.Pairwise (fun a b => lexL b a = false) → ys.Pairwise (fun a b => lexL b a = false) → xs = ys
  | [], ys, p, _, _ => (List.Perm.nil_eq p)
  | x :: xs, [], p, _, _ => (List.Perm.eq_nil p)
  | x :: xs, y :: ys, p, hx, hy => by
    have e : x = y := by
      have h1 : x ∈ y :: ys := p.mem_iff.mp List.mem_cons_self
      have h2 : y ∈ x :: xs := p.mem_iff.mpr List.mem_cons_self
      rcases List.mem_cons.mp h1 with e | h1
      · exact e
      · rcases List.mem_cons.mp h2 with e | h2
        · exact e.symm
        · exact lexL_eq _ _ ((List.pairwise_cons.mp hy).1 x h1) ((List.pairwise_cons.mp hx).1 y h2)
    subst e
    rw [srtR_uniq (List.perm_cons x |>.mp p) (List.pairwise_cons.mp hx).2 (List.pairwise_cons.mp hy).2]

/-- v is a tuple of the ints ns -/
def IsRow (h : Heap) (v : Value) (ns : List Int) : Prop := ∃ a o vs n, v = .ref a ∧ h.get? a = some o ∧ o.cls = .type "tuple" ∧ o.data = .seq (List.toArray vs) n ∧ IntsAre vs ns
theorem IsRow.keeps {h h' : Heap} {v : Value} {ns : List Int} (p : IsRow h v ns) (k : ∀ b o, h.get? b = some o → o.cls = .type "tuple" → h'.get? b = some o) : IsRow h' v ns := by
  obtain ⟨a, o, vs, n, e, ho, hc, hd, hi⟩ := p
  exact ⟨a, o, vs, n, e, k _ _ ho hc, hc, hd, hi⟩
section
variable {prog : Program} {w : World} {A : Around} {s : Shared}
theorem kat_row {fin : Bool} : ∀ {vs us : List Value} {ns ms : List Int} (i : Nat), IntsAre vs ns → IntsAre us ms → PySem.W.KatLex prog w A true fin (fun r s' => s' = s ∧ r = lexF fin ns ms) (vs.zip us) i s
  | _, _, _, _, i, .nil, .nil => PySem.W.kat_nil ⟨rfl, rfl⟩
  | _, _, _, _, i, .nil, .cons _ _ _ => PySem.W.kat_nil ⟨rfl, rfl⟩
  | _, _, _, _, i, .cons _ _ _, .nil => PySem.W.kat_nil ⟨rfl, rfl⟩
  | _, _, _, _, i, .cons (vs := vs) (ns := ns) x t h1, .cons (vs := us) (ns := ms) y u h2 => by
    show PySem.W.KatLex prog w A true fin (fun r s' => s' = s ∧ r = lexF fin (x :: ns) (y :: ms)) ((.int x t, .int y u) :: vs.zip us) i s
    refine PySem.W.kat_cons (SeqAt.EqAt.int_int x t y u prog w _ _ ?_)
    unfold lexF
    refine PySem.W.kat_go (fun e => ?_) (fun e => ?_)
    · have ex : x = y := by simpa using e
      refine PySem.W.kat_yes ?_
      rw [if_pos ex]
      exact kat_row (i + 1) h1 h2
    · have ex : ¬ x = y := by simpa using e
      refine PySem.W.kat_no ?_
      rw [if_neg ex]
      cases hb : (true && i == 0) with
      | true => exact oneLt_int ⟨rfl, rfl⟩
      | false => exact PySem.W.kat_one _ _ (PyProof.Rows.lt_int ⟨rfl, rfl⟩)
theorem row_cmp {vs : List Value} {k : Value → List Int} (hp : ∀ v ∈ vs, IsRow s.heap v (k v)) : SrtO.Cmp prog w A s (tuples' true) (fun p => p.1 ∈ vs) (SrtO.lt2 fun v u => lexL (k v) (k u)) := by
  intro p q hm hm'
  obtain ⟨a, o, us, n, e, ho, hc, hd, hi⟩ := hp _ hm
  obtain ⟨a', o', us', n', e', ho', hc', hd', hi'⟩ := hp _ hm'
  show wpAny (model prog w) A (keyLt' (tuples' true) p.1 q.1) (fun r s' => s' = s ∧ r = lexL (k p.1) (k q.1)) (fun _ _ => False) s
  rw [← lexF_len]
  generalize k p.1 = ns at hi ⊢
  generalize k q.1 = ms at hi' ⊢
  rw [e, e']
  refine PySem.W.kat_lt ho hd ho' hd' ?_
  have l1 := hi.length
  have l2 := hi'.length
  rw [show decide ((List.toArray us).size < (List.toArray us').size) = decide (ns.length < ms.length) from by simp [l1, l2]]
  exact kat_row 0 hi hi'
theorem row_firsts {h : Heap} : ∀ {vs : List Value}, (∀ v ∈ vs, ∃ ns, ns ≠ [] ∧ IsRow h v ns) → ∃ fs : List Value, PySem.W.KatTups h vs fs ∧ fs.length = vs.length ∧ ∀ f ∈ fs, ∃ x t, f = Value.int x t
  | [], _ => ⟨[], PySem.W.KatTups.nil, rfl, fun _ hm => by simp at hm⟩
  | v :: vs, hp => by
    obtain ⟨fs, h1, h2, h3⟩ := row_firsts (vs := vs) fun v' hm => hp v' (List.mem_cons_of_mem _ hm)
    obtain ⟨ns, hne, a, o, us, n, e, ho, hc, hd, hi⟩ := hp v (List.mem_cons_self ..)
    subst e
    cases hi with
    | nil => exact absurd rfl hne
    | cons x t r =>
      refine ⟨.int x t :: fs, PySem.W.KatTups.cons ho hc hd rfl h1, by rw [List.length_cons, List.length_cons, h2], fun f hm => ?_⟩
      rcases List.mem_cons.mp hm with rfl | hm
      · exact ⟨x, t, rfl⟩
      · exact h3 f hm
theorem rows_sortable {a : Addr} {vs : List Value} {k : Value → List Int} (h0 : 0 < vs.length) (hp : ∀ v ∈ vs, k v ≠ [] ∧ IsRow s.heap v (k v)) (ha : ∀ o, s.heap.get? a = some o → o.cls ≠ .type "tuple") : SrtO.SortableO prog w A s a vs fun v u => lexL (k v) (k u) := by
  intro h' keep
  have hp' : ∀ v ∈ vs, IsRow h' v (k v) := fun v hm => (hp v hm).2.keeps fun b o e c => keep b o (fun z => by subst z; exact ha o e c) e
  obtain ⟨fs, h1, h2, h3⟩ := row_firsts fun v hm => ⟨_, (hp v hm).1, hp' v hm⟩
  refine ⟨tuples' true, fun Q E hq => ?_, row_cmp hp'⟩
  refine PySem.W.kat_kind (T := .type "int") h1 (by omega) (fun f hm => ?_) (by rfl) ?_
  · obtain ⟨x, t, rfl⟩ := h3 f hm
    exact PySem.W.Looks.now
  · have e : (Value.type "int" != Value.type "tuple") = true := by first | decide +kernel | rfl | decide
    rw [e]
    exact hq
end
theorem swo_row (k : Value → List Int) : SrtO.Swo fun v u => lexL (k v) (k u) := ⟨fun x y h => lexL_asym _ _ h, fun x y z h1 h2 => lexL_tr _ _ _ h1 h2⟩
def kV' (k : V → List Int) : Value → List Int
  | .ref t => k (.ref t)
  | _ => []
def rSortedR (K : PySem.W.Frag) : List V → Hp → VK → Prop := fun vs H Q => ∃ (a : Addr) (xs : List V) (k : V → List Int), vs = [V.ref a] ∧ (SqL K H a xs ∨ SqT K H a xs) ∧ (∀ x ∈ xs, k x ≠ [] ∧ ∃ t, x = .ref t ∧ H t = some (.tup ((k x).map V.int))) ∧
  ∀ (zs : List V) (p : Addr), zs.Perm xs → zs.Pairwise (fun x y => lexL (k y) (k x) = false) → H p = none → Q (.ref p) (upd H p (.lst zs))
theorem ref_of {x : V} {u : Value} {t : Addr} (r : RelV x u) (h : x = .ref t) : u = .ref t := by
  subst h
  exact r
theorem refs_vals : ∀ {xs : List V} {us : List Value}, Vals xs us → (∀ x ∈ xs, ∃ t, x = V.ref t) → us = xs.map (fun x => match x with | .ref t => Value.ref t | _ => Value.none)
  | _, _, .nil, _ => rfl
  | _, _, .cons r h, hx => by
    obtain ⟨t, e⟩ := hx _ List.mem_cons_self
    subst e
    have r' : _ = Value.ref t := r
    subst r'
    rw [List.map_cons, refs_vals h fun x hm => hx x (List.mem_cons_of_mem _ hm)]
theorem vals_refs : ∀ {xs : List V}, (∀ x ∈ xs, ∃ t, x = V.ref t) → Vals xs (xs.map (fun x => match x with | .ref t => Value.ref t | _ => Value.none))
  | [], _ => .nil
  | x :: xs, hx => by
    obtain ⟨t, e⟩ := hx _ List.mem_cons_self
    subst e
    exact .cons rfl (vals_refs fun x hm => hx x (List.mem_cons_of_mem _ hm))
def refV : Value → V
  | .ref t => .ref t
  | _ => .non
theorem cr_sortedR {X : Cx} : CallR X (.builtin "sorted") (rSortedR X.K) := by
  intro pins s σ H vs us Q I r h
  obtain ⟨a, xs, k, rfl, hs, hk, q⟩ := h
  have hx : ∃ (T : String) (o : Obj) (its : List Value) (n : Nat), (T = "list" ∨ T = "tuple") ∧ s.heap.get? a = some o ∧ o.cls = .type T ∧ o.data = .seq its.toArray n ∧ Vals xs its ∧ xs.length ≤ sizeLine := by
    rcases hs with hs | hs
    · obtain ⟨its, rv, ⟨o, n, ho, hc, _, hd⟩, hz⟩ := I.list hs
      exact ⟨_, o, its, n, .inl rfl, ho, hc, hd, rv, hz⟩
    · obtain ⟨its, rv, ⟨o, ho, hc, n, hd⟩, hz⟩ := I.tuple hs
      exact ⟨_, o, its, n, .inr rfl, ho, hc, hd, rv, hz⟩
  obtain ⟨T, o, its, n, hT, ho, hc, hd, rv, hz⟩ := hx
  rw [Vals.ref1 r]
  have hrf : ∀ x ∈ xs, ∃ t, x = V.ref t := fun x hm => let ⟨_, t, e, _⟩ := hk x hm; ⟨t, e⟩
  have hits := refs_vals rv hrf
  have hrow : ∀ v ∈ its, kV' k v ≠ [] ∧ IsRow s.heap v (kV' k v) := fun v hv => by
    rw [hits] at hv
    obtain ⟨x, hm, e⟩ := List.mem_map.mp hv
    obtain ⟨hne, t, ex, ht⟩ := hk x hm
    subst ex
    subst e
    refine ⟨hne, ?_⟩
    obtain ⟨us, rv', ⟨o', ho', hc', n', hd'⟩, hz'⟩ := I.tuple (SqT.of ht)
    exact ⟨t, o', us, n', rfl, ho', hc', hd', rv'.ints⟩
  refine sorted_seqO (swo_row (kV' k)) hT ho hc hd (by rw [← rv.length]; exact hz) (fun h2 h₁ a' ha' kk => ?_) fun h' out hk1 h1 h2 => ?_
  · refine rows_sortable (s := { s with heap := h₁ }) (by omega) (fun v hm => ⟨(hrow v hm).1, (hrow v hm).2.keeps fun b o e _ => (kk b o e).2⟩) fun o e => ?_
    have e' : some o = some (seqObj "list" its.toArray 0) := e.symm.trans ha'
    cases e'
    intro c
    exact absurd (Value.type.inj c) (by decide)
  have I' : L2.Inv X pins σ H { s with heap := h' } := I.kept (t' := s.toks) hk1
  have hp : out.Perm its := h2.perm
  have hperm : (out.map refV).Perm xs := by
    have q1 := hp.map refV
    have e : its.map refV = xs := by
      rw [hits, List.map_map]
      conv => rhs; rw [← List.map_id xs]
      refine List.map_congr_left fun x hm => ?_
      obtain ⟨t, e⟩ := hrf x hm
      subst e
      rfl
    rw [e] at q1
    exact q1
  have hrf2 : ∀ x ∈ out.map refV, ∃ t, x = V.ref t := fun x hm => hrf x (hperm.mem_iff.mp hm)
  have hout : ∀ v ∈ out, ∃ t, v = Value.ref t := fun v hv => by
    obtain ⟨_, a, o, us, n, e, _⟩ := hrow v (hp.mem_iff.mp hv)
    exact ⟨a, e⟩
  have hvals : Vals (out.map refV) out := by
    have q1 := vals_refs hrf2
    have e : (out.map refV).map (fun x => match x with | .ref t => Value.ref t | _ => Value.none) = out := by
      rw [List.map_map]
      conv => rhs; rw [← List.map_id out]
      refine List.map_congr_left fun v hv => ?_
      obtain ⟨t, e⟩ := hout v hv
      subst e
      rfl
    rw [e] at q1
    exact q1
  have hlen : (out.map refV).length ≤ sizeLine := by
    rw [hperm.length_eq]
    exact hz
  have hsrt : (out.map refV).Pairwise (fun x y => lexL (k y) (k x) = false) := by
    refine List.pairwise_map.mpr ?_
    have h1 : out.Pairwise (fun x y => lexL (kV' k y) (kV' k x) = false) := h1
    refine (List.Pairwise.and_mem.mp h1).imp ?_
    rintro x y ⟨hx, hy, h⟩
    obtain ⟨t, rfl⟩ := hout x hx
    obtain ⟨u, rfl⟩ := hout y hy
    exact h
  obtain ⟨ep, he'⟩ := PyProof.Rows.sortedHeap_at (vs := its) (out := out.toArray) (n := 0) (h := h'.push (PyProof.Rows.seqObj "list" its.toArray 0)) (a := h'.objs.size) (Heap.get?_push_size _ rfl)
  refine ⟨.ref _, upd H h'.objs.size (.lst (out.map refV)), I'.laid (t' := s.toks) (fun b u e => ?_) (Nat.le_refl _) ⟨hlen, out, ep, hvals, he'⟩, rfl, q _ _ hperm hsrt (I'.hok.fresh (Nat.le_refl _))⟩
  have hlt : b < h'.objs.size := Heap.lt_size e
  rw [PyProof.Rows.sortedHeap_old (Nat.ne_of_lt hlt) (by rw [PyProof.Rows.size_push']; exact Nat.lt_succ_of_lt hlt)]
  exact Heap.get?_push_of_some _ e

/-! #### the reading -/
def rowsOf : List D → Option (List (List Int))
  | [] => some []
  | .tup es :: ds => match intsOf es with
    | some (n :: ns) => (rowsOf ds).map ((n :: ns) :: ·)
    | _ => none
  | _ :: _ => none
def rowD (ns : List Int) : D := .tup (ns.map D.int)
def sortedX (ds : List D) : R D := match intsOf ds with
  | some ns => .ok (.lst ((sortI ns).map D.int))
  | none => match rowsOf ds with
    | some rs => .ok (.lst ((sortR rs).map rowD))
    | none => .stuck
def sortedA : List D → R D
  | [.lst ds] => sortedX ds
  | [.tup ds] => sortedX ds
  | _ => .stuck
def rSortedA (K : PySem.W.Frag) : List V → Hp → VK → Prop := fun vs H Q => rSortedX K vs H Q ∨ rSortedR K vs H Q
theorem cr_sortedA {X : Cx} : CallR X (.builtin "sorted") (rSortedA X.K) := by
  intro pins s σ H vs us Q I r h
  rcases h with h | h
  · exact cr_sortedX pins s σ H vs us Q I r h
  · exact cr_sortedR pins s σ H vs us Q I r h
def vI : V → Int
  | .int i => i
  | _ => 0
def keyH (I : Hp) : V → List Int
  | .ref t => match I t with
    | some (.tup xs) => xs.map vI
    | _ => []
  | _ => []
theorem rows_key {K : PySem.W.Frag} {mg : Gm} {I : Hp} : ∀ {vs : List V} {ds : List D} {rs : List (List Int)}, Reps K mg I vs ds → rowsOf ds = some rs → vs.map (keyH I) = rs ∧ ∀ x ∈ vs, keyH I x ≠ [] ∧ (∃ t, x = .ref t ∧ I t = some (.tup ((keyH I x).map V.int)))
  | _, _, _, .nil, h => by
    cases h
    exact ⟨rfl, fun x hm => by cases hm⟩
  | _, _, rs, .cons (d := d) (ds := ds) a r, h => by
    cases a with
    | @tup t ws es hh ra =>
      unfold rowsOf at h
      split at h
      · rename_i n ns e
        cases e2 : rowsOf ds with
        | none =>
          rw [e2] at h
          cases h
        | some rs' =>
          rw [e2] at h
          cases h
          obtain ⟨h1, h2⟩ := rows_key r e2
          obtain ⟨ew, _⟩ := reps_ints ra e
          subst ew
          have ek : keyH I (.ref t) = n :: ns := by
            show (match I t with | some (HO.tup xs) => xs.map vI | _ => []) = n :: ns
            rw [hh]
            show ((n :: ns).map V.int).map vI = n :: ns
            rw [List.map_map]
            conv => rhs; rw [← List.map_id (n :: ns)]
            rfl
          refine ⟨by rw [List.map_cons, ek, h1], fun x hm => ?_⟩
          rcases List.mem_cons.mp hm with rfl | hm
          · rw [ek]
            exact ⟨by simp, t, rfl, hh⟩
          · exact h2 x hm
      · cases h
    | _ => cases h
theorem keys_reps {K : PySem.W.Frag} {mg : Gm} {I : Hp} : ∀ {zs : List V}, (∀ x ∈ zs, ∃ t, x = .ref t ∧ I t = some (.tup ((keyH I x).map V.int))) → Reps K mg I zs ((zs.map (keyH I)).map rowD)
  | [], _ => .nil
  | z :: zs, h => by
    obtain ⟨t, e, ht⟩ := h z List.mem_cons_self
    rw [List.map_cons, List.map_cons]
    refine .cons ?_ (keys_reps fun x hm => h x (List.mem_cons_of_mem _ hm))
    generalize keyH I z = ns at ht ⊢
    subst e
    exact .tup ht .ints
theorem cs_sortedA {K : PySem.W.Frag} {mg : Gm} : CSn K mg (rSortedA K) sortedA := by
  intro xs I H ds d Q ex rs h q
  have fin : ∀ (a : Addr) (es : List D) (vs : List V), Reps K mg I vs es → (SqL K H a vs ∨ SqT K H a vs) → sortedX es = .ok d → rSortedA K [.ref a] H Q := fun a es vs r hs h => by
    unfold sortedX at h
    cases e : intsOf es with
    | some ns =>
      rw [e] at h
      cases h
      obtain ⟨rfl, _⟩ := reps_ints r e
      refine .inl ⟨a, ns, rfl, hs, fun ns' p hp hs' hn => ?_⟩
      have e2 : ns' = sortI ns := srt_uniq (hp.trans (sortI_perm ns).symm) hs' (sortI_srt ns)
      subst e2
      exact q _ _ _ (.new ex hn) (new_lst ex hn .ints)
    | none =>
      rw [e] at h
      have h : (match rowsOf es with | some rs => R.ok (.lst ((sortR rs).map rowD)) | none => .stuck) = R.ok d := h
      cases e2 : rowsOf es with
      | none =>
        rw [e2] at h
        cases h
      | some rs =>
        rw [e2] at h
        cases h
        obtain ⟨h1, h2⟩ := rows_key r e2
        refine .inr ⟨a, vs, keyH I, rfl, hs, fun x hm => ?_, fun zs p hp hs' hn => ?_⟩
        · obtain ⟨hne, t, e, ht⟩ := h2 x hm
          exact ⟨hne, t, e, ex _ _ ht⟩
        · have e3 : zs.map (keyH I) = sortR rs := srtR_uniq ((hp.map _).trans (by rw [h1]; exact (sortR_perm rs).symm)) (List.pairwise_map.mpr hs') (sortR_srt rs)
          rw [← e3] at q
          exact q _ _ _ (.new ex hn) (new_lst ex hn (keys_reps fun x hm => (h2 x (hp.mem_iff.mp hm)).2))
  unfold sortedA at h
  split at h
  · obtain ⟨v, rfl, r⟩ := reps1 rs
    cases r with
    | lst hh ra => exact fin _ _ _ ra (.inl (SqL.of (ex _ _ hh))) h
  · obtain ⟨v, rfl, r⟩ := reps1 rs
    cases r with
    | tup hh ra => exact fin _ _ _ ra (.inr (SqT.of (ex _ _ hh))) h
  · cases h
end DL
namespace DL
open PySem PySem.Spec PyProof.Rows L2

/-! ### membership by deep equality -/
theorem hu65 {k : Nat} {A : Around} (hr : Room k A) : A.units + 65 < cLine := by have := hr.un; omega
def rInP (K : PySem.W.Frag) : R2 := fun x y H Q => ∃ d ds, Dp K H x d ∧ (Dp K H y (.list ds) ∧ SeqAt.shaped (.list ds) = true ∨ Dp K H y (.tuple ds) ∧ SeqAt.shaped (.tuple ds) = true) ∧ SeqAt.shaped d = true ∧ Q (.bl (ds.any fun z => PyData.eqv z d)) H
def rNinP (K : PySem.W.Frag) : R2 := fun x y H Q => ∃ d ds, Dp K H x d ∧ (Dp K H y (.list ds) ∧ SeqAt.shaped (.list ds) = true ∨ Dp K H y (.tuple ds) ∧ SeqAt.shaped (.tuple ds) = true) ∧ SeqAt.shaped d = true ∧ Q (.bl (!ds.any fun z => PyData.eqv z d)) H
theorem op_inP {X : Cx} (hu : X.A.units + 65 < cLine) : OpR X (compareOp .In) (rInP X.K) := by
  intro pins s σ H x y v u Q I rx ry h
  obtain ⟨d, ds, hd, he, sd, q⟩ := h
  obtain ⟨as, r1⟩ := Dp.reads I d x v hd rx
  rcases he with ⟨he, se⟩ | ⟨he, se⟩
  · obtain ⟨bs, r2⟩ := Dp.reads I (.list ds) y u he ry
    exact SeqAt.in_list_reads r2 r1 (SeqAt.canLay_of_shaped se) (SeqAt.canLay_of_shaped sd) (room_in_shaped sd hu) ⟨.bl _, H, I, rfl, q⟩
  · obtain ⟨bs, r2⟩ := Dp.reads I (.tuple ds) y u he ry
    exact SeqAt.in_tuple_reads r2 r1 (SeqAt.canLay_of_shaped se) (SeqAt.canLay_of_shaped sd) (room_in_shaped sd hu) ⟨.bl _, H, I, rfl, q⟩
theorem op_ninP {X : Cx} (hu : X.A.units + 65 < cLine) : OpR X (compareOp .NotIn) (rNinP X.K) := by
  intro pins s σ H x y v u Q I rx ry h
  obtain ⟨d, ds, hd, he, sd, q⟩ := h
  obtain ⟨as, r1⟩ := Dp.reads I d x v hd rx
  rcases he with ⟨he, se⟩ | ⟨he, se⟩
  · obtain ⟨bs, r2⟩ := Dp.reads I (.list ds) y u he ry
    exact SeqAt.notIn_list_reads r2 r1 (SeqAt.canLay_of_shaped se) (SeqAt.canLay_of_shaped sd) (room_in_shaped sd hu) ⟨.bl _, H, I, rfl, q⟩
  · obtain ⟨bs, r2⟩ := Dp.reads I (.tuple ds) y u he ry
    exact SeqAt.notIn_tuple_reads r2 r1 (SeqAt.canLay_of_shaped se) (SeqAt.canLay_of_shaped sd) (room_in_shaped sd hu) ⟨.bl _, H, I, rfl, q⟩
def inP : D → D → R D
  | x, .lst ds => gd (x.fine 60 = true ∧ (D.lst ds).fine 60 = true) (.bl ((D.pys ds).any fun z => PyData.eqv z x.py))
  | x, .tup ds => gd (x.fine 60 = true ∧ (D.tup ds).fine 60 = true) (.bl ((D.pys ds).any fun z => PyData.eqv z x.py))
  | _, _ => .stuck
def ninP (x y : D) : R D := notD (inP x y)
theorem inP_of {x y r : D} (h : inP x y = .ok r) : ∃ ds, (y = .lst ds ∨ y = .tup ds) ∧ x.fine 60 = true ∧ y.fine 60 = true ∧ r = .bl ((D.pys ds).any fun z => PyData.eqv z x.py) := by
  unfold inP at h
  split at h
  · obtain ⟨⟨a, b⟩, rfl⟩ := gd_of h
    exact ⟨_, .inl rfl, a, b, rfl⟩
  · obtain ⟨⟨a, b⟩, rfl⟩ := gd_of h
    exact ⟨_, .inr rfl, a, b, rfl⟩
  · cases h
theorem rs_inP {K : PySem.W.Frag} {mg : Gm} : RSn K mg (rInP K) inP := by
  intro x y I H dx dy d Q ex rx ry h q
  obtain ⟨ds, e, a, b, rfl⟩ := inP_of h
  have k1 := (ry.mono ex).dp _ b
  have k2 := D.fine_shaped b
  refine ⟨_, D.pys ds, (rx.mono ex).dp _ a, ?_, D.fine_shaped a, q _ _ _ (.refl ex) (.bl _)⟩
  rcases e with rfl | rfl
  · exact .inl ⟨k1, k2⟩
  · exact .inr ⟨k1, k2⟩
theorem rs_ninP {K : PySem.W.Frag} {mg : Gm} : RSn K mg (rNinP K) ninP := by
  intro x y I H dx dy d Q ex rx ry h q
  unfold ninP at h
  cases e : inP dx dy with
  | ok r =>
    obtain ⟨ds, e2, a, b, rfl⟩ := inP_of e
    rw [e] at h
    cases h
    have k1 := (ry.mono ex).dp _ b
    have k2 := D.fine_shaped b
    refine ⟨_, D.pys ds, (rx.mono ex).dp _ a, ?_, D.fine_shaped a, q _ _ _ (.refl ex) (.bl _)⟩
    rcases e2 with rfl | rfl
    · exact .inl ⟨k1, k2⟩
    · exact .inr ⟨k1, k2⟩
  | err _ _ =>
    rw [e] at h
    cases h
  | stuck =>
    rw [e] at h
    cases h
/-- the plain way where the items are plain, else the deep one -/
def flatIn (x y : D) : Bool := match y with
  | .lst ds => x.flat && ds.all D.flat
  | .tup ds => x.flat && ds.all D.flat
  | _ => true
def inG (x y : D) : R D := if flatIn x y = true then inA x y else inP x y
def ninG (x y : D) : R D := if flatIn x y = true then ninA x y else ninP x y
theorem o2_b {f g h : D → D → R D} (hf : ∀ x y, f x y = g x y ∨ f x y = h x y) (a b : R D) : o2 f a b = o2 g a b ∨ o2 f a b = o2 h a b := by
  cases a with
  | ok x =>
    cases b with
    | ok y =>
      rcases hf x y with e | e
      · refine .inl ?_
        show calm (f x y) = calm (g x y)
        rw [e]
      · refine .inr ?_
        show calm (f x y) = calm (h x y)
        rw [e]
    | err _ _ => exact .inl rfl
    | stuck => exact .inl rfl
  | err _ _ => exact .inl rfl
  | stuck => exact .inl rfl
theorem inG_or (x y : D) : inG x y = inA x y ∨ inG x y = inP x y := by
  unfold inG
  split
  · exact .inl rfl
  · exact .inr rfl
theorem ninG_or (x y : D) : ninG x y = ninA x y ∨ ninG x y = ninP x y := by
  unfold ninG
  split
  · exact .inl rfl
  · exact .inr rfl
section
variable {X : Cx} {E : Wh} {a b : Expr} {ta tb : TE} {ma mb : Env → R D} {pos : Pos}
theorem me_inG (K : PySem.W.Frag) (hu : X.A.units + 65 < cLine) (ha : ME X E a ta ma) (hb : ME X E b tb mb) (hm : behindInMarks .In b = false := by rfl) (hK : X.K = K := by rfl) : ME X E (.Compare a [.In] [b] pos) (fun σ H Q => (tDIn ta tb σ H Q ∨ tOp (rInX K) ta tb σ H Q) ∨ tOp (rInP K) ta tb σ H Q) (fun ρ => o2 inG (ma ρ) (mb ρ)) := by
  have h1 : ME X E (.Compare a [.In] [b] pos) _ _ := me_inA K (by omega) ha hb hm hK
  subst hK
  have h2 : ME X E (.Compare a [.In] [b] pos) _ _ := me_cmp (r := rInP X.K) (op_inP hu) rs_inP ha hb hm
  exact ⟨PE.or h1.pe h2.pe, sn_or h1.sn h2.sn fun ρ => o2_b inG_or _ _⟩
theorem me_ninG (K : PySem.W.Frag) (hu : X.A.units + 65 < cLine) (ha : ME X E a ta ma) (hb : ME X E b tb mb) (hm : behindInMarks .NotIn b = false := by rfl) (hK : X.K = K := by rfl) : ME X E (.Compare a [.NotIn] [b] pos) (fun σ H Q => (tDNotIn ta tb σ H Q ∨ tOp (rNinX K) ta tb σ H Q) ∨ tOp (rNinP K) ta tb σ H Q) (fun ρ => o2 ninG (ma ρ) (mb ρ)) := by
  have h1 : ME X E (.Compare a [.NotIn] [b] pos) _ _ := me_ninA K (by omega) ha hb hm hK
  subst hK
  have h2 : ME X E (.Compare a [.NotIn] [b] pos) _ _ := me_cmp (r := rNinP X.K) (op_ninP hu) rs_ninP ha hb hm
  exact ⟨PE.or h1.pe h2.pe, sn_or h1.sn h2.sn fun ρ => o2_b ninG_or _ _⟩
theorem mt_inG (K : PySem.W.Frag) (hu : X.A.units + 65 < cLine) (ha : ME X E a ta ma) (hb : ME X E b tb mb) (hm : behindInMarks .In b = false := by rfl) (hK : X.K = K := by rfl) : MT X E (.Compare a [.In] [b] pos) (fun σ H Q => (tB (tDIn ta tb) σ H Q ∨ tTest (tOp (rInX K) ta tb) σ H Q) ∨ tTest (tOp (rInP K) ta tb) σ H Q) (fun ρ => tst (o2 inG (ma ρ) (mb ρ))) := by
  have h1 : MT X E (.Compare a [.In] [b] pos) _ _ := mt_inA K (by omega) ha hb hm hK
  subst hK
  have h2 : MT X E (.Compare a [.In] [b] pos) _ _ := mt_cmp (r := rInP X.K) (op_inP hu) rs_inP ha hb hm
  exact ⟨PT.or h1.pe h2.pe, sn_or h1.sn h2.sn fun ρ => tst_or (o2_b inG_or _ _)⟩
theorem mt_ninG (K : PySem.W.Frag) (hu : X.A.units + 65 < cLine) (ha : ME X E a ta ma) (hb : ME X E b tb mb) (hm : behindInMarks .NotIn b = false := by rfl) (hK : X.K = K := by rfl) : MT X E (.Compare a [.NotIn] [b] pos) (fun σ H Q => (tB (tDNotIn ta tb) σ H Q ∨ tTest (tOp (rNinX K) ta tb) σ H Q) ∨ tTest (tOp (rNinP K) ta tb) σ H Q) (fun ρ => tst (o2 ninG (ma ρ) (mb ρ))) := by
  have h1 : MT X E (.Compare a [.NotIn] [b] pos) _ _ := mt_ninA K (by omega) ha hb hm hK
  subst hK
  have h2 : MT X E (.Compare a [.NotIn] [b] pos) _ _ := mt_cmp (r := rNinP X.K) (op_ninP hu) rs_ninP ha hb hm
  exact ⟨PT.or h1.pe h2.pe, sn_or h1.sn h2.sn fun ρ => tst_or (o2_b ninG_or _ _)⟩
end
end DL
namespace DL
open PySem PySem.Spec PyProof.Rows L2

/-! ### new lists from comprehensions -/
def lcN (vs : List Nat) (mi : Env → R (List D)) (ag : D → R As) (mt : Env → R Bool) (me : Env → R D) : Env → R (List D) :=
  fun ρ => mi ρ >>= fun ds => if ds.length ≤ LIM then calm (lcGo ag mt me (wipeE ρ vs) ds) else .stuck
section
variable {X : Cx} {E : XK} {elt tg iter : Expr} {ifs : List Expr} {scope : Scope} {own : List (Str × Nat)} {pos : Pos} {wi : TI} {g : TG} {tt : TT} {te : TE} {mi : Env → R (List D)} {ag : D → R As} {mt : Env → R Bool} {me : Env → R D}
theorem lc_coreN {K : PySem.W.Frag} {mg : Gm} {E1 : XK} {vs : List Nat} {σ : L2.St} {ρ : Env} {I1 H1 : Hp} {ds : List D} {J : It} {Q : VK} (sg : SnG K mg g ag) (st : Sn K mg (fun _ => E0) rB tt mt) (se : Sn K mg (fun _ => E0) (Rep K mg) te me) (hv : ∀ d as, ag d = .ok as → ∀ p ∈ as, p.1 ∈ vs) (re : RE K mg I1 σ ρ) (ex : Same I1 H1) (it : ItOk K mg I1 J ds)
    (h : OutN K mg E1 I1 H1 (if ds.length ≤ LIM then calm (lcGo ag mt me (wipeE ρ vs) ds) else .stuck) Q) : tLc (fun _ H R => R J H) g tt te vs σ H1 Q := by
  intro D0 hD
  obtain ⟨hl, h⟩ := outN_if h
  cases eo : lcGo ag mt me (wipeE ρ vs) ds with
  | err _ _ =>
    rw [eo] at h
    exact h.elim
  | stuck =>
    rw [eo] at h
    exact h.elim
  | ok out =>
    rw [eo] at h
    refine ⟨fun i m H => m = ds.length - i ∧ i ≤ ds.length ∧ ∃ I2 accD r, LcAt K mg I1 H1 D0 i accD I2 H ∧ lcGo ag mt me (wipeE ρ vs) (ds.drop i) = .ok r ∧ accD ++ r = out, ⟨ds.length, by simp, Nat.zero_le _, I1, [], out, .start ex hD, eo, rfl⟩, ?_⟩
    rintro i m H2 ⟨rfl, hi, I2, accD, r, p, hr, ho⟩
    have hit := it I2 H2 p.i p.e
    by_cases hlt : i < ds.length
    · have hd : ds[i]? = some ds[i] := List.getElem?_eq_getElem hlt
      obtain ⟨hgo, hy⟩ := hit.1 i _ hd
      refine .inr ⟨hgo, fun H' => ∃ I2 accD r, LcAt K mg I1 H1 D0 (i + 1) accD I2 H' ∧ lcGo ag mt me (wipeE ρ vs) (ds.drop (i + 1)) = .ok r ∧ accD ++ r = out, fun H' hN => ⟨ds.length - (i + 1), by omega, rfl, hlt, hN⟩, fun x H' y => ?_⟩
      obtain ⟨I3, s3, rx⟩ := hy x H' y
      rw [List.drop_eq_getElem_cons hlt] at hr
      unfold lcGo at hr
      obtain ⟨as, ha, hr⟩ := bind_ok hr
      have ha := calm_of ha
      obtain ⟨b, hb, hr⟩ := bind_ok hr
      have hb := calm_of hb
      refine sg x _ I3 H' _ as _ s3.e rx ha fun us ar => ?_
      have hus : ∀ p ∈ us, p.1 ∈ vs := fun p hp => by
        have hm : p.1 ∈ as.map (·.1) := by
          rw [← ar.slots]
          exact List.mem_map_of_mem hp
        obtain ⟨q, hq, e⟩ := List.mem_map.mp hm
        rw [← e]
        exact hv _ _ ha q hq
      refine ⟨by rw [wipe_setS hus, wipe_wipe], ?_⟩
      have re3 : RE K mg I3 (setS (wipe σ vs) us) (setE (wipeE ρ vs) as) := RE.setAll ar ((re.mono (p.i.trans s3.i)).wipe vs)
      have p3 := p.step s3
      refine st _ I3 H' _ _ re3 s3.e ?_
      rw [hb]
      intro b' I4 H4 s4 eb
      have eb : b' = b := eb
      subst eb
      have p4 := p3.step s4
      cases b' with
      | true =>
        show te _ H4 _
        rw [if_pos rfl] at hr
        obtain ⟨yd, hyd, hr⟩ := bind_ok hr
        have hyd := calm_of hyd
        obtain ⟨r', hr', hr⟩ := bind_ok hr
        cases hr
        refine se _ I4 H4 _ _ (re3.mono s4.i) s4.e ?_
        rw [hyd]
        intro yv I5 H5 s5 ry
        obtain ⟨acc, h1, h2, p5⟩ := (p4.step s5).push hD ry (by omega)
        exact ⟨acc, h1, h2, I5, _, r', p5, hr', by rw [List.append_assoc]; exact ho⟩
      | false =>
        rw [if_neg (by decide)] at hr
        exact ⟨I4, accD, r, p4.skip, hr, ho⟩
    · have e : i = ds.length := by omega
      subst e
      rw [List.drop_length] at hr
      cases hr
      rw [List.append_nil] at ho
      subst ho
      obtain ⟨ws, w1, w2, w3⟩ := p.l
      exact .inl ⟨hit.2, h D0 ws I2 H2 ⟨p.i, p.h, p.e, p.f⟩ p.z hD w1 w2⟩
theorem mn_lc (hc : X.calm = true) (hN : X.N.Nodup) (hi : MI X (kE E) tg iter wi mi) (ok : BlkOk X.N X.env.scope scope own)
    (hg : ∀ (s : Shared) (H : Hp) (C : Addr) (cl : List (Str × Addr)) (fp : List Addr), MG (X.blk s H scope (compEnvC scope cl C X.env) fp) tg g ag) (ht : ∀ (s : Shared) (H : Hp) (C : Addr) (cl : List (Str × Addr)) (fp : List Addr), MTs (X.blk s H scope (compEnvC scope cl C X.env) fp) (kE E).calm ifs tt mt)
    (he : ∀ (s : Shared) (H : Hp) (C : Addr) (cl : List (Str × Addr)) (fp : List Addr), ME (X.blk s H scope (compEnvC scope cl C X.env) fp) (kE E).calm elt te me) (hv : AgIn ag (· ∈ own.map (·.2))) (hs : ∀ x, foldedSetIterable iter X.env x = pure x := by intro _; rfl) :
    MN X E (.ListComp elt [⟨tg, iter, ifs, 0⟩] scope pos) (tLc wi g tt te (own.map (·.2))) (lcN (own.map (·.2)) mi ag mt me) :=
  ⟨pe_lc hc hN hi.pe ok (fun s H C cl fp => (hg s H C cl fp).pe) (fun s H C cl fp => (ht s H C cl fp).pe) (fun s H C cl fp => (he s H C cl fp).pe) hs, fun σ I H ρ Q re ex h => by
    have si := hi.sn
    refine si.runN re ex h fun ds J I1 H1 _ s1 it h => ?_
    exact lc_coreN ((hg X.s_0 X.H_0 0 [] []).sn _) (ht X.s_0 X.H_0 0 [] []).sn (he X.s_0 X.H_0 0 [] []).sn hv (re.mono s1.i) s1.e it h⟩
end

/-! ### new lists from calls -/
def spFr (K : PySem.W.Frag) (mg : Str → Option Value) (n : Nat) (g : List D → R (List D)) : Sp := fun vs H Q E => ∃ I ds, ds.length = n ∧ Same I H ∧ Reps K (g0 mg) I vs ds ∧ OutN K (g0 mg) E I H (g ds) Q
def endF : Fl → R (List D)
  | .rf ds => .ok ds
  | _ => .stuck
def runFr (n : Nat) (ms : Env → R Fl) (ds : List D) : R (List D) := ms (startE n ds) >>= endF
theorem fn_mirF {P : Program} {w : World} {K : PySem.W.Frag} {mg : Str → Option Value} {base : Heap} {x qual : Str} {st : Stmt} {f : Addr} {fd : FuncData} {N ps : List Str} {k : Nat} {M M' : List Nat} {ms : Env → R Fl} (F : Fun K x qual st f fd) (S : FnScope N ps (defScope st)) (hM : ∀ i ∈ M, ps.length ≤ i)
    (hb : ∀ (cdv : Value) (A : Around) (outer : List PySem.Env) (s : Shared) (H : Hp) (E : XK), Room k (A.deeper (PyProof.Rows.envOfC qual (defScope st) s.heap.objs.size f cdv)) →
      ∃ ts, MSs (cxOf (L2.CX P w) P w K mg base N qual (defScope st) f cdv A outer s H E) E [] M M' (defBody st) ts ms) : FnOk P w K mg base (L2.CX P w) (k + 1) f fd ps (spFr K mg ps.length (runFr N.length ms)) := by
  refine F.okX S (fun vs H Q E h => ?_) (fun cdv A outer s H vs Q E hr h => ?_)
  · obtain ⟨I, ds, hl, _, r, _⟩ := h
    exact r.len.trans hl
  obtain ⟨I, ds, hl, ex, rs, h⟩ := h
  obtain ⟨ts, hp⟩ := hb cdv A outer s H E hr
  refine ⟨ts, hp.pe, hp.sn (I, 0) H _ I H _ _ (start_SE ex rs (by rw [hl]; exact hM)) ?_⟩
  unfold runFr at h
  cases e : ms (startE N.length ds) with
  | err nm es =>
    rw [e] at h
    exact h
  | stuck =>
    rw [e] at h
    exact h.elim
  | ok fl =>
    rw [e] at h
    cases fl with
    | rf es => exact fun p vs I1 H1 s1 n1 n2 hp r => h p vs I1 H1 s1 n1 n2 hp r
    | nx ρ => exact h.elim
    | rt d => exact h.elim
    | bk ρ => exact h.elim
    | ct ρ => exact h.elim
structure KnF (P : Program) (w : World) (K : PySem.W.Frag) (mg : Str → Option Value) (base : Heap) (x : Str) (k n : Nat) (g : List D → R (List D)) : Prop where
  ex : ∃ f fd ps, FnOk P w K mg base (L2.CX P w) k f fd ps (spFr K mg n g) ∧ mg x = some (.ref f) ∧ PySem.W.keepIn K (.ref f) = true ∧ Binds K fd ps []
theorem KnF.mk' {P : Program} {w : World} {K : PySem.W.Frag} {mg : Str → Option Value} {base : Heap} {x : Str} {st : Stmt} {N ps : List Str} {k : Nat} {M M' : List Nat} {ms : Env → R Fl} (F : FnAt K mg x st ps) (S : FnScope N ps (defScope st)) (hM : ∀ i ∈ M, ps.length ≤ i)
    (hb : ∀ (f : Addr) (cdv : Value) (A : Around) (outer : List PySem.Env) (s : Shared) (H : Hp) (E : XK), Room k (A.deeper (PyProof.Rows.envOfC x (defScope st) s.heap.objs.size f cdv)) →
      ∃ ts, MSs (cxOf (L2.CX P w) P w K mg base N x (defScope st) f cdv A outer s H E) E [] M M' (defBody st) ts ms) : KnF P w K mg base x (k + 1) ps.length (runFr N.length ms) := by
  obtain ⟨f, fd, F, g, b⟩ := F.ex
  exact ⟨f, fd, ps, fn_mirF F S hM (hb f), g, F.kp, b⟩
def callF (n : Nat) (g : List D → R (List D)) (a : R (List D)) : R (List D) := a >>= fun ds => if ds.length = n then g ds else .stuck
theorem mn_callF {X : Cx} {E : XK} {P : Program} {w : World} {K : PySem.W.Frag} {mg : Str → Option Value} {base : Heap} {k j n : Nat} {g : List D → R (List D)} {x : Str} {p pos : Pos} {e : Expr} {es : List Expr} {tas : TA} {ms : Env → R (List D)} (F : KnF P w K mg base x k n g) (hr : Room j X.A) (hx : ∀ σ, PassesAt (L2.CX X.prog X.w) X σ ((kE E).e σ)) (hg : Gl X x) (ha : MA X (kE E) (e :: es) tas ms) (hj : k ≤ j := by decide)
    (hP : X.prog = P := by rfl) (hw : X.w = w := by rfl) (hK : X.K = K := by rfl) (hm : X.mg = mg := by rfl) (hb : X.base = base := by rfl)
    (hdb : (x == ("__debug__" : Str)) = false := by decide) (he : starEach (e :: es) X.env = (false, eval e X.env) :: starEach es X.env := by rfl) (hpl : (backTo pos (starEach es X.env)).any (·.1) = false := by rfl) :
    MN X E (.Call (.Name x p) (e :: es) [] pos) (tCallS (spFr K mg n g) (kE E).e tas) (fun ρ => callF n g (ms ρ)) := by
  subst hP hw hK hm hb
  obtain ⟨f, fd, ps, F, hm, hk, hb⟩ := F.ex
  obtain ⟨pt, st⟩ := ha
  refine ⟨pe_callS F (hr.mono hj) hg hm hk hb hx pt hdb he hpl, fun σ I H ρ Q re ex h => ?_⟩
  refine st.runN re ex h fun ds vs I1 H1 _ s1 rx h => ?_
  obtain ⟨hl, h⟩ := outN_if h
  exact ⟨I1, ds, hl, s1.e, rx, h⟩
/-! #### handing a new list back -/
section
variable {X : Cx} {E : XK} {Mb M M' : List Nat} {e : Expr} {te : TE} {m : Env → R (List D)} {pos px : Pos} {x : Str}
def retF (a : R (List D)) : R Fl := a >>= fun ds => .ok (.rf ds)
def retO (i : Nat) (ρ : Env) : R Fl := match ρ[i]? with
  | some (some (.lst ds)) => .ok (.rf ds)
  | _ => .stuck
theorem ms_retO (i : Nat) (hi : X.N[i]? = some x := by rfl) (hv : Vis X.env.scope x := by first | exact Or.inl rfl | exact Or.inr (Or.inl rfl)) (hM : i ∈ M := by decide) (hD : deep M i = false := by decide) (hd : (x == ("__debug__" : Str)) = false := by decide) (hcd : (x == ("__classdict__" : Str)) = false := by decide) : MS X E Mb M M' (.Return (some (.Name x px)) pos) (tRet (tVar i)) (retO i) :=
  ⟨ps_ret (pe_var (i := i) hi hv hd hcd), fun Ie He σ I H ρ D0 s h => by
    unfold retO at h
    split at h
    · rename_i ds q
      obtain ⟨p, vs, ds', e, h2, h3, h4, h5, r⟩ := s.ownL i ds hM hD q
      cases e
      exact ⟨_, h2, h p vs I H s.st h3 h4 h5 r⟩
    · exact h.elim⟩
theorem ms_retF (he : MN X E e te m) : MS X E Mb M M' (.Return (some e) pos) (tRet te) (fun ρ => retF (m (wipeE ρ M))) :=
  ⟨ps_ret he.pe, fun Ie He σ I H ρ D0 s h => he.sn σ I H _ _ s.re s.st.e (by
    have h : OutS X.K (g0 X.mg) E Mb M' Ie He I D0 (retF (m (wipeE ρ M))) := h
    cases q : m (wipeE ρ M) with
    | ok ds =>
      rw [q] at h
      exact fun p vs I1 H1 t n1 n2 hp r => h p vs I1 H1 (s.st.trans t) n1 (s.st.h.free n2) hp r
    | err nm ds =>
      rw [q] at h
      exact fun C od I1 H1 t xr => h C od I1 H1 (s.st.trans t) xr
    | stuck =>
      rw [q] at h
      exact h.elim)⟩
end
end DL
namespace DL
open PySem PySem.Spec PyProof.Rows L2

/-! ### new lists by operators and slices -/
def NewL (K : PySem.W.Frag) (mg : Gm) (I H : Hp) (ds : List D) (Q : VK) : Prop := ∀ p vs I' H', Stp I H I' H' → I' p = none → H p = none → H' p = some (.lst vs) → Reps K mg I' vs ds → Q (.ref p) H'
theorem NewL.at {K : PySem.W.Frag} {mg : Gm} {I H : Hp} {ds : List D} {Q : VK} {p : Addr} {vs : List V} (h : NewL K mg I H ds Q) (ex : Same I H) (hp : H p = none) (r : Reps K mg I vs ds) : Q (.ref p) (upd H p (.lst vs)) :=
  h p vs I _ (Stp.side ex hp) (ex.free hp) hp upd_same r
def RSnN (K : PySem.W.Frag) (mg : Gm) (r : R2) (f : D → D → R (List D)) : Prop :=
  ∀ (x y : V) (I H : Hp) (dx dy : D) (ds : List D) (Q : VK), Same I H → Rep K mg I x dx → Rep K mg I y dy → f dx dy = .ok ds → NewL K mg I H ds Q → r x y H Q
def o2N (f : D → D → R (List D)) (a b : R D) : R (List D) := a >>= fun x => b >>= fun y => calm (f x y)
theorem outN_calm {K : PySem.W.Frag} {mg : Gm} {E : XK} {I H : Hp} {r : R (List D)} {Q : VK} (h : OutN K mg E I H (calm r) Q) : ∃ ds, r = .ok ds ∧ NewL K mg I H ds Q := by
  cases r with
  | ok ds => exact ⟨ds, rfl, h⟩
  | err _ _ => exact h.elim
  | stuck => exact h.elim
section
variable {X : Cx} {E : XK} {a b : Expr} {ta tb : TE} {ma mb : Env → R D} {pos : Pos}
theorem mn_op {op : Operator} {r : R2} {f : D → D → R (List D)} (ho : OpR X (binaryOp op) r) (hs : RSnN X.K (g0 X.mg) r f) (ha : ME X (kE E) a ta ma) (hb : ME X (kE E) b tb mb) : MN X E (.BinOp a op b pos) (tOp r ta tb) (fun ρ => o2N f (ma ρ) (mb ρ)) := by
  obtain ⟨pa, sa⟩ := ha
  obtain ⟨pb, sb⟩ := hb
  refine ⟨pe_op ho pa pb, fun σ I H ρ Q re ex h => ?_⟩
  refine sa.runN re ex h fun d v I1 H1 _ st rx h => ?_
  refine sb.runN (re.mono st.i) st.e h fun d2 v2 I2 H2 _ st2 ry h => ?_
  obtain ⟨z, hz, h⟩ := outN_calm h
  exact hs v v2 I2 H2 d d2 z Q st2.e (rx.mono st2.i) ry hz h
end
def gdL (c : Prop) [Decidable c] (ds : List D) : R (List D) := if c then .ok ds else .stuck
theorem gdL_of {c : Prop} [Decidable c] {d e : List D} (h : gdL c d = .ok e) : c ∧ d = e := by
  unfold gdL at h
  by_cases hc : c
  · rw [if_pos hc] at h
    cases h
    exact ⟨hc, rfl⟩
  · rw [if_neg hc] at h
    cases h
def catN : D → D → R (List D)
  | .lst xs, .lst ys => gdL (xs.length + ys.length ≤ LIM) (xs ++ ys)
  | _, _ => .stuck
theorem rs_catN {K : PySem.W.Frag} {mg : Gm} : RSnN K mg (rAddX K) catN := by
  intro x y I H dx dy d Q ex rx ry h q
  cases rx with
  | @lst a vs ds ha ra =>
    cases ry with
    | @lst b ws es hb rb =>
      obtain ⟨hl, rfl⟩ := gdL_of h
      exact .inr (.inl ⟨a, b, vs, ws, rfl, rfl, ex _ _ ha, ex _ _ hb, lim_ok (by rw [ra.len, rb.len]; exact hl), fun p hp => q.at ex hp (ra.app rb)⟩)
    | _ => cases h
  | _ => cases h
def repN : D → D → R (List D)
  | .lst xs, .int k => gdL (0 ≤ k ∧ k ≤ LIM ∧ xs.length * k.toNat ≤ LIM) (List.replicate k.toNat xs).flatten
  | _, _ => .stuck
theorem rs_repN {K : PySem.W.Frag} {mg : Gm} : RSnN K mg rMulX repN := by
  intro x y I H dx dy d Q ex rx ry h q
  cases rx with
  | @lst a vs ds ha ra =>
    cases ry with
    | int k =>
      obtain ⟨⟨h0, h1, h2⟩, rfl⟩ := gdL_of h
      have h1 : k ≤ 1000000 := h1
      exact .inr ⟨a, k, vs, rfl, rfl, ex _ _ ha, by omega, by omega, lim_ok (by rw [ra.len]; exact h2), fun p hp => q.at ex hp (ra.rep _)⟩
    | _ => cases h
  | _ => cases h
def SSnN (K : PySem.W.Frag) (mg : Gm) (r : V → Option Int → Option Int → Hp → VK → Prop) (f : D → Option Int → Option Int → R (List D)) : Prop :=
  ∀ (x : V) (lo hi : Option Int) (I H : Hp) (dx : D) (ds : List D) (Q : VK), Same I H → Rep K mg I x dx → f dx lo hi = .ok ds → NewL K mg I H ds Q → r x lo hi H Q
def o3N (f : D → Option Int → Option Int → R (List D)) (a : R D) (l u : R (Option Int)) : R (List D) := a >>= fun d => l >>= fun lo => u >>= fun hi => calm (f d lo hi)
theorem mn_slice {X : Cx} {E : XK} {a : Expr} {ta : TE} {tl th : TO} {ma : Env → R D} {pos : Pos} {lo hi : Option Expr} {p2 : Pos} {r : V → Option Int → Option Int → Hp → VK → Prop} {f : D → Option Int → Option Int → R (List D)} {ml mh : Env → R (Option Int)} (hr : SlR X r) (hs : SSnN X.K (g0 X.mg) r f) (ha : ME X (kE E) a ta ma) (hl : MO X (kE E) lo tl ml) (hh : MO X (kE E) hi th mh) :
    MN X E (.Subscript a (.Slice lo hi none p2) pos) (tSl r ta tl th) (fun ρ => o3N f (ma ρ) (ml ρ) (mh ρ)) := by
  obtain ⟨pt, st⟩ := ha
  obtain ⟨pl, sl⟩ := hl
  obtain ⟨ph, sh⟩ := hh
  refine ⟨pe_slice hr pt pl ph, fun σ I H ρ Q re ex h => ?_⟩
  refine st.runN re ex h fun d v I1 H1 _ s1 rx h => ?_
  refine sl.runN (re.mono s1.i) s1.e h fun l l' I2 H2 _ s2 e1 h => ?_
  cases e1
  refine sh.runN ((re.mono s1.i).mono s2.i) s2.e h fun u u' I3 H3 _ s3 e2 h => ?_
  cases e2
  obtain ⟨z, hz, h⟩ := outN_calm h
  exact hs v _ _ I3 H3 d z Q s3.e ((rx.mono s2.i).mono s3.i) hz h
def cutN : D → Option Int → Option Int → R (List D)
  | .lst ds, lo, hi => .ok (cutD ds lo hi)
  | _, _, _ => .stuck
theorem ss_cutN {K : PySem.W.Frag} {mg : Gm} : SSnN K mg (rSlX K) cutN := by
  intro x lo hi I H dx d Q ex rx h q
  cases rx with
  | @lst a vs ds ha ra =>
    cases h
    exact .inl ⟨_, _, rfl, SqL.of (ex _ _ ha), fun p hp => q.at ex hp (ra.cut lo hi)⟩
  | _ => cases h
/-- sorted(rows) as a list of one's own -/
def sortedLA (ds : List D) : R (List D) := match sortedA ds with
  | .ok (.lst es) => .ok es
  | _ => .stuck
end DL
namespace DL
open PySem PySem.Spec PyProof.Rows L2

/-! ### new lists that read what is one's own -/
section
variable {K : PySem.W.Frag} {mg : Gm} {E : XK} {Mb M M' M1 : List Nat} {Ie : Hp × Addr} {He I H I' H' : Hp} {σ : L2.St} {ρ : Env} {D0 : Ends} {I0 : Hp}
theorem Reps.lessA {J I : Hp} {bad : Nat → Prop} (l : Less J I bad) : ∀ {vs : List V} {ds : List D}, Reps K mg I vs ds → (∀ d ∈ ds, ∀ k, bad k → D.has k d = false) → Reps K mg J vs ds
  | _, _, .nil, _ => .nil
  | _, _, .cons h r, q => .cons (h.less l (q _ List.mem_cons_self)) (Reps.lessA l r fun d hd => q d (List.mem_cons_of_mem _ hd))
theorem SnN.mild {te : L2.St → Hp → (V → Hp → Prop) → Prop} {m : Env → R (List D)} {k : List D → R Fl} {P : V → Hp → Prop} (h : SnN K mg E te m) (s : SE K mg M Ie He σ I H ρ) (hq : OutS K mg E Mb M' Ie He I0 D0 (m ρ >>= fun ds => if ds.all (keepOk M ρ) = true then k ds else .stuck))
    (hk : ∀ ds p vs I' H', SE K mg M Ie He σ I' H' ρ → Stp I H I' H' → I' p = none → H p = none → H' p = some (.lst vs) → Reps K mg I' vs ds → OutS K mg E Mb M' Ie He I0 D0 (k ds) → P (.ref p) H') : te σ H P := by
  obtain ⟨I1, k1, s1, f1⟩ := s.all2
  refine h σ I1 H _ P (RE.of s1) s1.st.e ?_
  cases e : m ρ with
  | err nm es =>
    rw [e] at hq
    exact fun C od I2 H2 t x => hq C od I2 H2 (s1.st.trans t) x
  | stuck =>
    rw [e] at hq
    exact hq.elim
  | ok ds =>
  rw [e] at hq
  have q : OutS K mg E Mb M' Ie He I0 D0 (if ds.all (keepOk M ρ) = true then k ds else .stuck) := hq
  intro p vs I2 H2 t n1 n2 hp r
  by_cases hd : ds.all (keepOk M ρ) = true
  · rw [if_pos hd] at q
    classical
    let J : Hp := fun a => if I a = none ∧ I1 a ≠ none then none else I2 a
    have ji : Same I J := fun a o z => by
      show (if I a = none ∧ I1 a ≠ none then none else I2 a) = some o
      rw [if_neg (fun w => by rw [z] at w; cases w.1)]
      exact t.i _ _ (k1 _ _ z)
    have jh : Same J H2 := fun a o z => by
      have z : (if I a = none ∧ I1 a ≠ none then none else I2 a) = some o := z
      split at z
      · cases z
      · exact t.e _ _ z
    have jf : ∀ a o, J a = some o → I a = some o ∨ Fr H a o := fun a o z => by
      have z : (if I a = none ∧ I1 a ≠ none then none else I2 a) = some o := z
      split at z
      · cases z
      · rename_i w
        rcases t.f _ _ z with y | y
        · cases e : I a with
          | none => exact absurd ⟨e, by rw [y]; exact fun w => by cases w⟩ w
          | some o' =>
            have := k1 _ _ e
            rw [y] at this
            cases this
            exact .inl rfl
        · exact .inr y
    have st : Stp I H J H2 := ⟨ji, t.h, jh, jf⟩
    have less : Less J I2 (fun kd => ∃ i ∈ M, ∃ d0, ρ[i]? = some (some d0) ∧ (kd = d0.kind ∨ (deep M i = true ∧ kd = 0))) := ⟨fun a o z => by
      by_cases w : I a = none ∧ I1 a ≠ none
      · cases e : I1 a with
        | none => exact absurd e w.2
        | some o' =>
          have z2 := t.i _ _ e
          rw [z] at z2
          cases z2
          rcases f1 a o e with y | ⟨i, hi, d0, q1, q2, q3⟩
          · rw [w.1] at y
            cases y
          · exact .inr ⟨⟨i, hi, d0, q1, q2⟩, q3⟩
      · refine .inl ?_
        show (if I a = none ∧ I1 a ≠ none then none else I2 a) = some o
        rw [if_neg w]
        exact z⟩
    have jp : J p = none := by
      show (if I p = none ∧ I1 p ≠ none then none else I2 p) = none
      split
      · rfl
      · exact n1
    refine hk ds p vs J H2 (s.step st) st jp n2 hp (r.lessA less fun d hm kd ⟨i, hi, d0, q1, q2⟩ => ?_) q
    obtain ⟨k1, k2⟩ := keepOk_of (List.all_eq_true.mp hd d hm) hi q1
    rcases q2 with rfl | ⟨y, rfl⟩
    · exact k1
    · exact k2 y
  · rw [if_neg hd] at q
    exact q.elim
end
section
variable {X : Cx} {E : XK} {Mb M M' M1 : List Nat} {e : Expr} {te : TE} {m : Env → R D} {ml : Env → R (List D)} {pos : Pos} {x : Str}
def appSV (M : List Nat) (i : Nat) (ρ : Env) (a : R D) : R Fl := calm (ownD ρ i) >>= fun ds => a >>= fun d => if keepOk M ρ d = true then (if ds.length < LIM then .ok (.nx (ρ.set i (some (.lst (ds ++ [d]))))) else .stuck) else .stuck
theorem ms_appV (i : Nat) {px pa pc : Pos} (he : ME X (kE E) e te m) (hi : X.N[i]? = some x := by rfl) (hv : Vis X.env.scope x := by first | exact Or.inl rfl | exact Or.inr (Or.inl rfl)) (hM : i ∈ M := by decide) (hD : deep M i = false := by decide)
    (hp : PE X e te → PE X (.Call (.Attribute (.Name x px) "append" pa) [e] [] pc) (tBM X.K "list" rAppend (tVar i) (tCons te tNil))) (hs : swapsWith (.Call (.Attribute (.Name x px) "append" pa) [e] [] pc) none pos.line X.env = pure false := by rfl) :
    MS X E Mb M M (.Expr (.Call (.Attribute (.Name x px) "append" pa) [e] [] pc) pos) (tDrop (tBM X.K "list" rAppend (tVar i) (tCons te tNil))) (fun ρ => appSV M i ρ (m ρ)) :=
  ⟨ps_expr (hp he.pe) hs, fun Ie He σ I H ρ D0 s h => by
    obtain ⟨ds, ho, h⟩ := outS_calm h
    have q := ownD_of ho
    obtain ⟨p, vs, ds', e1, h2, h3, h4, h5, h6⟩ := s.ownL i _ hM hD q
    cases e1
    refine ⟨_, h2, .inl ⟨rfl, vs, SqL.of h5⟩, he.sn.mild s h fun d v I1 H1 s1 t r k => ?_⟩
    obtain ⟨hl, k⟩ := outS_if k
    obtain ⟨p', vs', ds', e1, g2, g3, g4, g5, g6⟩ := s1.ownL i _ hM hD q
    cases e1
    rw [h2] at g2
    cases g2
    refine ⟨p, vs', v, rfl, rfl, g5, lim_lt (by rw [g6.len]; omega), k _ I1 _ (s1.put hM q h2 (g6.app (.cons r .nil)) hD) t.i⟩⟩
def appSF (M : List Nat) (i : Nat) (ρ : Env) (a : R (List D)) : R Fl := calm (ownD ρ i) >>= fun ds => a >>= fun es => if es.all (keepOk M ρ) = true then (if ds.length < LIM then .ok (.nx (ρ.set i (some (.lst (ds ++ [.lst es]))))) else .stuck) else .stuck
theorem ms_appF (i : Nat) {px pa pc : Pos} (he : MN X E e te ml) (hi : X.N[i]? = some x := by rfl) (hv : Vis X.env.scope x := by first | exact Or.inl rfl | exact Or.inr (Or.inl rfl)) (hM : i ∈ M := by decide) (hD : deep M i = false := by decide)
    (hp : PE X e te → PE X (.Call (.Attribute (.Name x px) "append" pa) [e] [] pc) (tBM X.K "list" rAppend (tVar i) (tCons te tNil))) (hs : swapsWith (.Call (.Attribute (.Name x px) "append" pa) [e] [] pc) none pos.line X.env = pure false := by rfl) :
    MS X E Mb M M (.Expr (.Call (.Attribute (.Name x px) "append" pa) [e] [] pc) pos) (tDrop (tBM X.K "list" rAppend (tVar i) (tCons te tNil))) (fun ρ => appSF M i ρ (ml ρ)) :=
  ⟨ps_expr (hp he.pe) hs, fun Ie He σ I H ρ D0 s h => by
    obtain ⟨ds, ho, h⟩ := outS_calm h
    have q := ownD_of ho
    obtain ⟨p, vs, ds', e1, h2, h3, h4, h5, h6⟩ := s.ownL i _ hM hD q
    cases e1
    refine ⟨_, h2, .inl ⟨rfl, vs, SqL.of h5⟩, he.sn.mild s h fun es p2 ws I1 H1 s1 t n1 n2 hp2 r k => ?_⟩
    obtain ⟨hl, k⟩ := outS_if k
    obtain ⟨t2, r2⟩ := stp_put t n1 n2 hp2 r
    have s2 := s.step t2
    obtain ⟨p', vs', ds', e1, g2, g3, g4, g5, g6⟩ := s2.ownL i _ hM hD q
    cases e1
    rw [h2] at g2
    cases g2
    refine ⟨p, vs', _, rfl, rfl, g5, lim_lt (by rw [g6.len]; omega), k _ _ _ (s2.put hM q h2 (g6.app (.cons r2 .nil)) hD) t2.i⟩⟩
/-- a slot beside one's own gets a new list -/
def asgF (M : List Nat) (i : Nat) (ρ : Env) (a : R (List D)) : R Fl := a >>= fun es => if es.all (keepOk M ρ) = true then .ok (.nx (ρ.set i (some (.lst es)))) else .stuck
theorem ms_setF (i : Nat) {px : Pos} (hN : X.N.Nodup) (he : MN X E e te ml) (hi : X.N[i]? = some x := by rfl) (hx : Loc X.env.scope x := by first | exact .inl rfl | exact .inr rfl) (hM : i ∉ M := by decide) (hs : swapsWith e (some (.Name x px)) pos.line X.env = pure false := by rfl) (hf : X.fn x = true ∨ X.env.scope.names.lookup x = some .local := by first | exact .inl rfl | exact .inr rfl) :
    MS X E Mb M M (.Assign [.Name x px] e pos) (tAsg te (gName i)) (fun ρ => asgF M i ρ (ml ρ)) :=
  ⟨ps_set hN hi hx he.pe hs hf, fun Ie He σ I H ρ D0 s h => he.sn.mild s h fun es p2 ws I1 H1 s1 t n1 n2 hp2 r k => by
    obtain ⟨t2, r2⟩ := stp_put t n1 n2 hp2 r
    exact k _ _ _ ((s.step t2).set hM r2) t2.i⟩
theorem ms_retFW (he : MN X E e te ml) : MS X E Mb M M' (.Return (some e) pos) (tRet te) (fun ρ => retF (ml ρ)) :=
  ⟨ps_ret he.pe, fun Ie He σ I H ρ D0 s h => by
    obtain ⟨I1, k1, s1⟩ := s.all
    refine he.sn σ I1 H _ _ (RE.of s1) s1.st.e ?_
    have h : OutS X.K (g0 X.mg) E Mb M' Ie He I D0 (retF (ml ρ)) := h
    cases q : ml ρ with
    | ok ds =>
      rw [q] at h
      exact fun p vs I2 H2 t n1 n2 hp r => h p vs I2 H2 (s1.st.trans t) n1 (s1.st.h.free n2) hp r
    | err nm ds =>
      rw [q] at h
      exact fun C od I2 H2 t xr => h C od I2 H2 (s1.st.trans t) xr
    | stuck =>
      rw [q] at h
      exact h.elim⟩
end
end DL
namespace DL
open PySem PySem.Spec PyProof.Rows L2

/-! ### {k: v for x in d if ..}, d a dict -/
section
variable {X : Cx} {E : Wh} {kx vx tg iter : Expr} {ifs : List Expr} {scope : Scope} {own : List (Str × Nat)} {pos : Pos} {wi : TI} {g : TG} {tt : TT} {tk tv : TE} {mi : Env → R (List D)} {ag : D → R As} {mt : Env → R Bool} {mk mv : Env → R D}
theorem dc_core {K : PySem.W.Frag} {mg : Gm} {E1 : XK} {vs : List Nat} {σ : L2.St} {ρ : Env} {I1 H1 : Hp} {ds : List D} {J : It} {Q : VK} (sg : SnG K mg g ag) (st : Sn K mg (fun _ => E0) rB tt mt) (sk : Sn K mg (fun _ => E0) (Rep K mg) tk mk) (se : Sn K mg (fun _ => E0) (Rep K mg) tv mv) (hv : ∀ d as, ag d = .ok as → ∀ p ∈ as, p.1 ∈ vs) (re : RE K mg I1 σ ρ) (ex : Same I1 H1) (it : ItOk K mg I1 J ds)
    (h : Out K mg E1 (Rep K mg) I1 H1 (if ds.length ≤ LIM then calm (dcGo ag mt mk mv (wipeE ρ vs) ds [] []) else .stuck) Q) : tDcT (fun _ H R => R J H) g tt tk tv vs σ H1 Q := by
  intro D0 hD
  obtain ⟨hl, h⟩ := out_if h
  cases eo : dcGo ag mt mk mv (wipeE ρ vs) ds [] [] with
  | err _ _ =>
    rw [eo] at h
    exact h.elim
  | stuck =>
    rw [eo] at h
    exact h.elim
  | ok out =>
    rw [eo] at h
    have h : Out K mg E1 (Rep K mg) I1 H1 (.ok out) Q := h
    refine ⟨fun i m H => m = ds.length - i ∧ i ≤ ds.length ∧ ∃ I2 ks es, DcAt K mg I1 H1 D0 i ks es I2 H ∧ dcGo ag mt mk mv (wipeE ρ vs) (ds.drop i) ks es = .ok out, ⟨ds.length, by simp, Nat.zero_le _, I1, [], [], .start ex hD, eo⟩, ?_⟩
    rintro i m H2 ⟨rfl, hi, I2, ks, es, p, hr⟩
    have hit := it I2 H2 p.i p.e
    by_cases hlt : i < ds.length
    · have hd : ds[i]? = some ds[i] := List.getElem?_eq_getElem hlt
      obtain ⟨hgo, hy⟩ := hit.1 i _ hd
      refine .inr ⟨hgo, fun H' => ∃ I2 ks es, DcAt K mg I1 H1 D0 (i + 1) ks es I2 H' ∧ dcGo ag mt mk mv (wipeE ρ vs) (ds.drop (i + 1)) ks es = .ok out, fun H' hN => ⟨ds.length - (i + 1), by omega, rfl, hlt, hN⟩, fun x H' y => ?_⟩
      obtain ⟨I3, s3, rx⟩ := hy x H' y
      rw [List.drop_eq_getElem_cons hlt] at hr
      unfold dcGo at hr
      obtain ⟨as, ha, hr⟩ := bind_ok hr
      have ha := calm_of ha
      obtain ⟨b, hb, hr⟩ := bind_ok hr
      have hb := calm_of hb
      refine sg x _ I3 H' _ as _ s3.e rx ha fun us ar => ?_
      have hus : ∀ p ∈ us, p.1 ∈ vs := fun p hp => by
        have hm : p.1 ∈ as.map (·.1) := by
          rw [← ar.slots]
          exact List.mem_map_of_mem hp
        obtain ⟨q, hq, e⟩ := List.mem_map.mp hm
        rw [← e]
        exact hv _ _ ha q hq
      refine ⟨by rw [wipe_setS hus, wipe_wipe], ?_⟩
      have re3 : RE K mg I3 (setS (wipe σ vs) us) (setE (wipeE ρ vs) as) := RE.setAll ar ((re.mono (p.i.trans s3.i)).wipe vs)
      have p3 := p.step s3
      refine st _ I3 H' _ _ re3 s3.e ?_
      rw [hb]
      intro b' I4 H4 s4 eb
      have eb : b' = b := eb
      subst eb
      have p4 := p3.step s4
      cases b' with
      | true =>
        show tk _ H4 _
        rw [if_pos rfl] at hr
        obtain ⟨kd, hkd, hr1⟩ := bind_ok hr
        have hkd := calm_of hkd
        obtain ⟨k, hk, hr2⟩ := bind_ok hr1
        have hk := calm_of hk
        obtain ⟨yd, hyd, hr3⟩ := bind_ok hr2
        have hyd := calm_of hyd
        clear hr hr1 hr2
        refine sk _ I4 H4 _ _ (re3.mono s4.i) s4.e ?_
        rw [hkd]
        intro kv I5 H5 s5 rk
        refine se _ I5 H5 _ _ ((re3.mono s4.i).mono s5.i) s5.e ?_
        rw [hyd]
        intro yv I6 H6 s6 ry
        obtain ⟨kvs, h1, h2, p6⟩ := ((p4.step s5).step s6).push hD k ry (by omega)
        cases rk with
        | @tup q ws es2 hq rws =>
          have hk : (match keysD es2 with | some k => R.ok k | none => .stuck) = .ok k := hk
          cases e2 : keysD es2 with
          | none =>
            rw [e2] at hk
            cases hk
          | some k2 =>
            rw [e2] at hk
            cases hk
            have := keysD_v rws e2
            subst this
            exact ⟨kvs, k, q, rfl, s6.h _ _ (s5.e _ _ hq), h1, h2, I6, _, _, p6, hr3⟩
        | _ => cases hk
      | false =>
        rw [if_neg (by decide)] at hr
        exact ⟨I4, ks, es, p4.skip, hr⟩
    · have e : i = ds.length := by omega
      subst e
      rw [List.drop_length] at hr
      cases hr
      obtain ⟨I', s', r'⟩ := p.done hD
      exact .inl ⟨hit.2, h.there s' r'⟩
end
def dcK (i : Nat) (vs : List Nat) (ag : D → R As) (mt : Env → R Bool) (mk mv : Env → R D) : Env → R D :=
  fun ρ => calm (get ρ i >>= keysI) >>= fun ds => calm (if ds.length ≤ LIM then calm (dcGo ag mt mk mv (wipeE ρ vs) ds [] []) else .stuck)
section
variable {X : Cx} {E : Wh} {kx vx tg : Expr} {ifs : List Expr} {scope : Scope} {own : List (Str × Nat)} {pos p : Pos} {g : TG} {tt : TT} {tk tv : TE} {ag : D → R As} {mt : Env → R Bool} {mk mv : Env → R D} {x : Str}
theorem me_dcK (i : Nat) (hu : X.A.units + 1 < cLine) (hc : X.calm = true) (hN : X.N.Nodup) (ok : BlkOk X.N X.env.scope scope own)
    (hg : ∀ (s : Shared) (H : Hp) (C : Addr) (cl : List (Str × Addr)) (fp : List Addr), MG (X.blk s H scope (compEnvC scope cl C X.env) fp) tg g ag) (ht : ∀ (s : Shared) (H : Hp) (C : Addr) (cl : List (Str × Addr)) (fp : List Addr), MTs (X.blk s H scope (compEnvC scope cl C X.env) fp) E.calm ifs tt mt)
    (hk : ∀ (s : Shared) (H : Hp) (C : Addr) (cl : List (Str × Addr)) (fp : List Addr), ME (X.blk s H scope (compEnvC scope cl C X.env) fp) E.calm kx tk mk) (he : ∀ (s : Shared) (H : Hp) (C : Addr) (cl : List (Str × Addr)) (fp : List Addr), ME (X.blk s H scope (compEnvC scope cl C X.env) fp) E.calm vx tv mv) (hv : AgIn ag (· ∈ own.map (·.2)))
    (hi : X.N[i]? = some x := by rfl) (hvi : Vis X.env.scope x := by first | exact Or.inl rfl | exact Or.inr (Or.inl rfl) | exact Or.inr (Or.inr rfl)) (hs : ∀ y, foldedSetIterable (.Name x p) X.env y = pure y := by intro _; rfl) (hd : (x == ("__debug__" : Str)) = false := by decide) (hcd : (x == ("__classdict__" : Str)) = false := by decide) :
    ME X E (.DictComp kx vx [⟨tg, .Name x p, ifs, 0⟩] scope pos) (fun σ H Q => tLockE (tDcT (iKeys (tVar i)) g tt tk tv (own.map (·.2))) σ H Q ∨ tDcT (iKeys (tVar i)) g tt tk tv (own.map (·.2)) σ H Q) (dcK i (own.map (·.2)) ag mt mk mv) := by
  have hp : PE X (.DictComp kx vx [⟨tg, .Name x p, ifs, 0⟩] scope pos) (tDcT (iKeys (tVar i)) g tt tk tv (own.map (·.2))) := pe_dcT hu hc hN (pi_keys (pe_var (i := i) hi hvi hd hcd)) ok (fun s H C cl fp => (hg s H C cl fp).pe) (fun s H C cl fp => (ht s H C cl fp).pe) (fun s H C cl fp => (hk s H C cl fp).pe) (fun s H C cl fp => (he s H C cl fp).pe) hs
  have sg := (hg X.s_0 X.H_0 0 [] []).sn E.x
  have st := (ht X.s_0 X.H_0 0 [] []).sn
  have sk := (hk X.s_0 X.H_0 0 [] []).sn
  have se := (he X.s_0 X.H_0 0 [] []).sn
  refine ⟨pe_orE (pe_lock hp) hp, fun σ I H ρ Q re ex h => ?_⟩
  unfold dcK at h
  cases q : (ρ : List (Option D))[i]? with
  | none =>
    simp only [get, q] at h
    exact h.elim
  | some o =>
    cases o with
    | none =>
      simp only [get, q] at h
      exact h.elim
    | some d =>
      obtain ⟨v, hv1, rv⟩ := re.at_ i d q
      have hget : get ρ i = .ok d := by simp only [get, q]
      rw [hget] at h
      -- the walk over the locked dict
      have core : ∀ (ds : List D) (J : It) (I1 H1 : Hp) (Q1 : VK), RE X.K (gm X E) I1 σ ρ → Same I1 H1 → ItOk X.K (gm X E) I1 J ds → (∀ z, (if ds.length ≤ LIM then calm (dcGo ag mt mk mv (wipeE ρ (own.map (·.2))) ds [] []) else .stuck : R D) = .ok z → ∀ w I' H', Stp I1 H1 I' H' → Rep X.K (gm X E) I' w z → Q1 w H') →
          (∃ z, (if ds.length ≤ LIM then calm (dcGo ag mt mk mv (wipeE ρ (own.map (·.2))) ds [] []) else .stuck : R D) = .ok z) → tDcT (fun _ H R => R J H) g tt tk tv (own.map (·.2)) σ H1 Q1 := by
        intro ds J I1 H1 Q1 re1 ex1 it hq ⟨z, hz⟩
        refine dc_core (E1 := E0) sg st sk se hv re1 ex1 it ?_
        rw [hz]
        exact fun w I' H' s r => hq z hz w I' H' s r
      cases rv with
      | @dk a kvs ds ha ra =>
        have h : Out X.K (gm X E) (E.e σ) (Rep X.K (gm X E)) I H (calm (if ((kvs.map (·.1)).map keyDD).length ≤ LIM then calm (dcGo ag mt mk mv (wipeE ρ (own.map (·.2))) ((kvs.map (·.1)).map keyDD) [] []) else .stuck)) Q := h
        obtain ⟨z, hz, h9⟩ := out_calm h
        rcases ha with ha | ⟨o, ha⟩
        · refine .inl ⟨a, .dK kvs, ex _ _ ha, trivial, fun od => ⟨.ref a, hv1, a, od, rfl, .inl ⟨kvs, upd_same, ?_⟩⟩⟩
          refine core _ (Itk a od kvs) (upd I a (.frz od (.dK kvs))) _ (fun v H' => H' a = some (.frz od (.dK kvs)) ∧ Q v (upd H' a (.dK kvs))) ⟨re.len, fun j d' q' => ?_⟩ (lock_same ex ha _) (it_keys upd_same) (fun z' hz' w I' H' s r => ?_) ⟨z, hz⟩
          · obtain ⟨v', a', b'⟩ := re.at_ j d' q'
            exact ⟨v', a', b'.lock (u := .dK kvs) trivial ha⟩
          · rw [hz] at hz'
            cases hz'
            exact ⟨s.h _ _ upd_same, h9 w _ _ (Stp.unlock ha (ex _ _ ha) s) (r.unlock (u := .dK kvs) trivial (s.i _ _ upd_same))⟩
        · refine .inr ⟨.ref a, hv1, a, o, rfl, .inl ⟨kvs, ex _ _ ha, ?_⟩⟩
          refine core _ (Itk a o kvs) I H Q re ex (it_keys ha) (fun z' hz' w I' H' s r => ?_) ⟨z, hz⟩
          rw [hz] at hz'
          cases hz'
          exact h9 w I' H' s r
      | @dt a kvs ds ha ra =>
        have h : Out X.K (gm X E) (E.e σ) (Rep X.K (gm X E)) I H (calm (if ((kvs.map (·.1)).map fun k => D.tup (k.map keyDD)).length ≤ LIM then calm (dcGo ag mt mk mv (wipeE ρ (own.map (·.2))) ((kvs.map (·.1)).map fun k => D.tup (k.map keyDD)) [] []) else .stuck)) Q := h
        obtain ⟨z, hz, h9⟩ := out_calm h
        rcases ha with ha | ⟨o, ha⟩
        · refine .inl ⟨a, .dT kvs, ex _ _ ha, trivial, fun od => ⟨.ref a, hv1, a, od, rfl, .inr ⟨kvs, upd_same, ?_⟩⟩⟩
          refine core _ (Itkt a od kvs) (upd I a (.frz od (.dT kvs))) _ (fun v H' => H' a = some (.frz od (.dT kvs)) ∧ Q v (upd H' a (.dT kvs))) ⟨re.len, fun j d' q' => ?_⟩ (lock_same ex ha _) (it_keysT upd_same) (fun z' hz' w I' H' s r => ?_) ⟨z, hz⟩
          · obtain ⟨v', a', b'⟩ := re.at_ j d' q'
            exact ⟨v', a', b'.lock (u := .dT kvs) trivial ha⟩
          · rw [hz] at hz'
            cases hz'
            exact ⟨s.h _ _ upd_same, h9 w _ _ (Stp.unlock ha (ex _ _ ha) s) (r.unlock (u := .dT kvs) trivial (s.i _ _ upd_same))⟩
        · refine .inr ⟨.ref a, hv1, a, o, rfl, .inr ⟨kvs, ex _ _ ha, ?_⟩⟩
          refine core _ (Itkt a o kvs) I H Q re ex (it_keysT ha) (fun z' hz' w I' H' s r => ?_) ⟨z, hz⟩
          rw [hz] at hz'
          cases hz'
          exact h9 w I' H' s r
      | _ => exact h.elim
end
end DL
namespace DL
open PySem PySem.Spec PyProof.Rows L2
/-! ### the same rules, the fragment given by name (for comprehensions) -/
section
variable {X : Cx} {E : Wh} {a : Expr} {ta : TE} {ma : Env → R D} {pos p p2 q : Pos}
theorem me_fldK (K : PySem.W.Frag) (ns : List Str) {g : Str} (hT : ClF X.K (gm X E) ns g) (ha : ME X E a ta ma) (hb : attributeBase a g X.env (eval a X.env) = eval a X.env := by rfl) (hK : X.K = K := by rfl) : ME X E (.Attribute a g pos) (tFld K ta g) (fun ρ => o1 (fldD ns g) (ma ρ)) := by
  subst hK
  exact me_fld ns hT ha hb
theorem me_lenSetK (K : PySem.W.Frag) (hc : X.calm = true) (hg : Gl X "len") (hm : X.mg "len" = none) (hg2 : Gl X "set") (hm2 : X.mg "set" = none) (ha : ME X E a ta ma) (na : starEach [a] X.env = [(false, eval a X.env)] := by rfl) (hK : X.K = K := by rfl) :
    ME X E (.Call (.Name "len" p) [.Call (.Name "set" p2) [a] [] q] [] pos) (tLenSetA K ta) (fun ρ => o1 lenSetD (ma ρ)) := by
  subst hK
  exact me_lenSet hc hg hm hg2 hm2 ha na
end
/-- a comprehension within one: what is asked of its names -/
theorem blkOk_in {X : Cx} {s : Shared} {H : Hp} {C : Addr} {cl : List (Str × Addr)} {fp : List Addr} {sc scope : Scope} {own : List (Str × Nat)} {N : List Str} (h : blkC N sc scope own = true) (hN : X.N = N := by rfl) : BlkOk (X.blk s H sc (compEnvC sc cl C X.env) fp).N (X.blk s H sc (compEnvC sc cl C X.env) fp).env.scope scope own := by
  subst hN
  obtain ⟨h1, h2, h3, h4, h5⟩ := blkOk_by h
  refine ⟨h1, h2, h3, fun y hy hf => ?_, h5⟩
  have key : ∀ {names : List (Str × NameKind)} {x : Str}, names.lookup x = some .cell ∨ names.lookup x = some .free →
      (names.map fun (n, k) => if (k == NameKind.free && X.env.scope.kind == .function && X.env.kindOf n == some .cell) then (n, NameKind.cell) else (n, k)).lookup x = some .cell ∨
      (names.map fun (n, k) => if (k == NameKind.free && X.env.scope.kind == .function && X.env.kindOf n == some .cell) then (n, NameKind.cell) else (n, k)).lookup x = some .free := by
    intro names
    induction names with
    | nil => intro x hx; rcases hx with hx | hx <;> simp at hx
    | cons p r ih =>
      intro x hx
      obtain ⟨n, k⟩ := p
      rw [List.map_cons]
      by_cases e : (x == n) = true
      · rw [List.lookup_cons, e] at hx
        have hk : k = .cell ∨ k = .free := by rcases hx with hx | hx <;> cases hx <;> simp
        show List.lookup x ((if (k == NameKind.free && X.env.scope.kind == .function && X.env.kindOf n == some .cell) = true then (n, NameKind.cell) else (n, k)) :: _) = some .cell ∨ List.lookup x ((if (k == NameKind.free && X.env.scope.kind == .function && X.env.kindOf n == some .cell) = true then (n, NameKind.cell) else (n, k)) :: _) = some .free
        split
        · rw [List.lookup_cons, e]
          exact .inl rfl
        · rw [List.lookup_cons, e]
          rcases hk with rfl | rfl
          · exact .inl rfl
          · exact .inr rfl
      · have e : (x == n) = false := by simpa using e
        rw [List.lookup_cons, e] at hx
        show List.lookup x ((if (k == NameKind.free && X.env.scope.kind == .function && X.env.kindOf n == some .cell) = true then (n, NameKind.cell) else (n, k)) :: _) = some .cell ∨ List.lookup x ((if (k == NameKind.free && X.env.scope.kind == .function && X.env.kindOf n == some .cell) = true then (n, NameKind.cell) else (n, k)) :: _) = some .free
        split <;> (rw [List.lookup_cons, e]; exact ih (by simpa using hx))
  exact key (h4 y hy hf)
end DL
namespace DL
open PySem PySem.Spec L2

/-! ### reckoning with what a text makes -/
@[simp] theorem get_zero (d : D) (ρ : Env) : get (some d :: ρ) 0 = .ok d := rfl
@[simp] theorem get_none (ρ : Env) : get (none :: ρ) 0 = .stuck := rfl
@[simp] theorem get_succ (o : Option D) (ρ : Env) (n : Nat) : get (o :: ρ) (n + 1) = get ρ n := rfl
@[simp] theorem wipeE_nil (ρ : Env) : wipeE ρ [] = ρ := rfl
@[simp] theorem wipeE_cons (ρ : Env) (v : Nat) (vs : List Nat) : wipeE ρ (v :: vs) = (wipeE ρ vs).set v none := rfl
@[simp] theorem setE_nil (ρ : Env) : setE ρ [] = ρ := rfl
@[simp] theorem setE_cons (ρ : Env) (i : Nat) (d : D) (as : As) : setE ρ ((i, d) :: as) = setE (ρ.set i (some d)) as := rfl
@[simp] theorem calm_calm {α : Type} (r : R α) : calm (calm r) = calm r := by cases r <;> rfl
@[simp] theorem endD_rt (d : D) : endD (.rt d) = .ok d := rfl
@[simp] theorem endD_nx (ρ : Env) : endD (.nx ρ) = .ok .non := rfl
theorem runF_rt {n : Nat} {ms : Env → R Fl} {ds : List D} {d : D} (h : ms (startE n ds) = .ok (.rt d)) : runF n ms ds = .ok d := by
  unfold runF
  rw [h]
  rfl
@[simp] theorem agV_ (i : Nat) (d : D) : agV i d = .ok [(i, d)] := rfl
@[simp] theorem agN_ : agN [] = .ok [] := rfl
@[simp] theorem agC_ (ag : D → R As) (bg : List D → R As) (d : D) (ds : List D) : agC ag bg (d :: ds) = (ag d >>= fun as => bg ds >>= fun bs => .ok (as ++ bs)) := rfl
@[simp] theorem tupAs_ (n : Nat) (ag : List D → R As) (ds : List D) : tupAs n ag (.tup ds) = if ds.length = n then ag ds else .stuck := rfl
@[simp] theorem addD_int (i j : Int) : addD (.int i) (.int j) = .ok (.int (i + j)) := rfl
@[simp] theorem subD_int (i j : Int) : subD (.int i) (.int j) = .ok (.int (i - j)) := rfl
@[simp] theorem negD_int (i : Int) : negD (.int i) = .ok (.int (-i)) := rfl
@[simp] theorem leD_int (i j : Int) : leD (.int i) (.int j) = .ok (.bl (decide (i ≤ j))) := rfl
@[simp] theorem ltD_int (i j : Int) : ltD (.int i) (.int j) = .ok (.bl (decide (i < j))) := rfl
@[simp] theorem gtD_int (i j : Int) : gtD (.int i) (.int j) = .ok (.bl (decide (j < i))) := rfl
@[simp] theorem geX_int (i j : Int) : geX (.int i) (.int j) = .ok (.bl (decide (j ≤ i))) := rfl
@[simp] theorem eqD_int (i j : Int) : eqD (.int i) (.int j) = .ok (.bl (decide (i = j))) := rfl
@[simp] theorem neD_int (i j : Int) : neD (.int i) (.int j) = .ok (.bl (!decide (i = j))) := rfl
@[simp] theorem notD_bl (b : Bool) : notD (.ok (.bl b)) = .ok (.bl !b) := rfl
@[simp] theorem asI_int (i : Int) : asI (.int i) = .ok (some i) := rfl
@[simp] theorem intD_int (i : Int) : intD [.int i] = .ok (.int i) := rfl
@[simp] theorem lenD_lst (ds : List D) : lenD [.lst ds] = .ok (.int ds.length) := rfl
@[simp] theorem lenD_tup (ds : List D) : lenD [.tup ds] = .ok (.int ds.length) := rfl
@[simp] theorem lenD_scr (ns : List Int) : lenD [.scr ns] = .ok (.int ns.length) := rfl
@[simp] theorem itemsD_lst (ds : List D) : itemsD (.lst ds) = .ok ds := rfl
@[simp] theorem itemsD_tup (ds : List D) : itemsD (.tup ds) = .ok ds := rfl
@[simp] theorem tupleD_lst (ds : List D) : tupleD [.lst ds] = .ok (.tup ds) := rfl
@[simp] theorem tupleD_tup (ds : List D) : tupleD [.tup ds] = .ok (.tup ds) := rfl
@[simp] theorem listD_lst (ds : List D) : listD [.lst ds] = .ok (.lst ds) := rfl
@[simp] theorem listL_lst (ds : List D) : listL [.lst ds] = .ok ds := rfl
@[simp] theorem listL_tup (ds : List D) : listL [.tup ds] = .ok ds := rfl
@[simp] theorem sliceD_lst (ds : List D) (l u : Option Int) : sliceD (.lst ds) l u = .ok (.lst (cutD ds l u)) := rfl
@[simp] theorem sliceD_tup (ds : List D) (l u : Option Int) : sliceD (.tup ds) l u = .ok (.tup (cutD ds l u)) := rfl
@[simp] theorem sortedD_lst (ns : List Int) : sortedD [.lst (ns.map D.int)] = .ok (.lst ((sortI ns).map D.int)) := by
  show (match intsOf (ns.map D.int) with | some ns => R.ok (D.lst ((sortI ns).map D.int)) | none => .stuck) = _
  rw [intsOf_map]
@[simp] theorem sortedD_tup (ns : List Int) : sortedD [.tup (ns.map D.int)] = .ok (.lst ((sortI ns).map D.int)) := by
  show (match intsOf (ns.map D.int) with | some ns => R.ok (D.lst ((sortI ns).map D.int)) | none => .stuck) = _
  rw [intsOf_map]
@[simp] theorem anyD_ (bs : List Bool) : anyD [.lst (bs.map D.bl)] = .ok (.bl (bs.any id)) := by
  show (match blsOf (bs.map D.bl) with | some bs => R.ok (D.bl (bs.any id)) | none => .stuck) = _
  rw [blsOf_map]
@[simp] theorem allD_ (bs : List Bool) : allD [.lst (bs.map D.bl)] = .ok (.bl (bs.all id)) := by
  show (match blsOf (bs.map D.bl) with | some bs => R.ok (D.bl (bs.all id)) | none => .stuck) = _
  rw [blsOf_map]
theorem modD_int {i j : Int} (h : 0 < j) : modD (.int i) (.int j) = .ok (.int (i % j)) := gd_ok h
theorem fdivD_int {i j : Int} (h : 0 < j ∧ j < 1073741824) : fdivD (.int i) (.int j) = .ok (.int (i / j)) := gd_ok h
theorem mulD_int {i j : Int} (h : (-(2 ^ 64) < i ∧ i < 2 ^ 64) ∨ (-(2 ^ 64) < j ∧ j < 2 ^ 64)) : mulD (.int i) (.int j) = .ok (.int (i * j)) := gd_ok h
theorem addD_lst {xs ys : List D} (h : xs.length + ys.length ≤ LIM) : addD (.lst xs) (.lst ys) = .ok (.lst (xs ++ ys)) := gd_ok h
theorem addD_tup {xs ys : List D} (h : xs.length + ys.length ≤ LIM) : addD (.tup xs) (.tup ys) = .ok (.tup (xs ++ ys)) := gd_ok h
theorem tupD_of {ds : List D} (h : ds.length ≤ LIM) : tupD ds = .ok (.tup ds) := if_pos h
theorem lstD_of {ds : List D} (h : ds.length ≤ LIM) : lstD ds = .ok (.lst ds) := if_pos h
@[simp] theorem lstD_nil : lstD [] = .ok (.lst []) := rfl
@[simp] theorem tupD_nil : tupD [] = .ok (.tup []) := rfl
@[simp] theorem tupD_1 (a : D) : tupD [a] = .ok (.tup [a]) := rfl
@[simp] theorem tupD_2 (a b : D) : tupD [a, b] = .ok (.tup [a, b]) := rfl
@[simp] theorem lstD_1 (a : D) : lstD [a] = .ok (.lst [a]) := rfl
@[simp] theorem lenOk_nil : lenOk [] = .ok [] := rfl
theorem lim63 {n : Nat} (h : n ≤ 100000) : n ≤ LIM := Nat.le_trans h (by decide)
theorem all_flat (ns : List Int) : (ns.map D.int).all D.flat = true := by
  induction ns with
  | nil => rfl
  | cons n ns ih => rw [List.map_cons, List.all_cons, ih]; rfl
theorem inB_int (x : Int) (ns : List Int) : inB (.int x) (ns.map D.int) = decide (x ∈ ns) := by
  induction ns with
  | nil => rfl
  | cons n ns ih =>
    show (eqF (.int n) (.int x) || inB (.int x) (ns.map D.int)) = _
    rw [ih]
    show ((n == x) || decide (x ∈ ns)) = decide (x ∈ n :: ns)
    by_cases h : n = x
    · subst h
      simp
    · have h2 : ¬ x = n := fun e => h e.symm
      simp [h, h2]
@[simp] theorem inD_tup (x : Int) (ns : List Int) : inD (.int x) (.tup (ns.map D.int)) = .ok (.bl (decide (x ∈ ns))) := by
  rw [← inB_int]
  exact gd_ok ⟨rfl, all_flat ns⟩
@[simp] theorem inD_lst (x : Int) (ns : List Int) : inD (.int x) (.lst (ns.map D.int)) = .ok (.bl (decide (x ∈ ns))) := by
  rw [← inB_int]
  exact gd_ok ⟨rfl, all_flat ns⟩
@[simp] theorem notInD_tup (x : Int) (ns : List Int) : notInD (.int x) (.tup (ns.map D.int)) = .ok (.bl (!decide (x ∈ ns))) := by
  unfold notInD
  rw [inD_tup]
  rfl
@[simp] theorem notInD_lst (x : Int) (ns : List Int) : notInD (.int x) (.lst (ns.map D.int)) = .ok (.bl (!decide (x ∈ ns))) := by
  unfold notInD
  rw [inD_lst]
  rfl
theorem cutD_map {α : Type} (f : α → D) (xs : List α) (l u : Option Int) : cutD (xs.map f) l u = (((xs.drop (HT.sIx xs.length 0 l)).take (HT.sIx xs.length xs.length u - HT.sIx xs.length 0 l)).map f) := by
  unfold cutD
  rw [List.length_map, List.map_take, List.map_drop]
/-- xs[:k], xs[k:] -/
theorem cutD_to {α : Type} (f : α → D) (xs : List α) (k : Nat) : cutD (xs.map f) none (some (k : Int)) = (xs.take k).map f := by
  rw [cutD_map, HT.sIx_none, HT.sIx_nat, Nat.sub_zero, List.drop_zero]
  by_cases h : k ≤ xs.length
  · rw [Nat.min_eq_left h]
  · rw [Nat.min_eq_right (by omega), List.take_of_length_le (by omega), List.take_of_length_le (by omega)]
theorem cutD_from {α : Type} (f : α → D) (xs : List α) (k : Nat) : cutD (xs.map f) (some (k : Int)) none = (xs.drop k).map f := by
  rw [cutD_map, HT.sIx_none, HT.sIx_nat]
  by_cases h : k ≤ xs.length
  · rw [Nat.min_eq_left h, List.take_of_length_le (by rw [List.length_drop]; omega)]
  · rw [Nat.min_eq_right (by omega), List.take_of_length_le (by rw [List.length_drop]; omega), List.drop_of_length_le (by omega), List.drop_of_length_le (by omega)]
theorem cutD_mid {α : Type} (f : α → D) (xs : List α) (j k : Nat) : cutD (xs.map f) (some (j : Int)) (some (k : Int)) = ((xs.take k).drop j).map f := by
  rw [cutD_map, HT.sIx_nat, HT.sIx_nat, List.drop_take]
  congr 1
  by_cases hj : j ≤ xs.length
  · rw [Nat.min_eq_left hj]
    by_cases hk : k ≤ xs.length
    · rw [Nat.min_eq_left hk]
    · rw [Nat.min_eq_right (by omega), List.take_of_length_le (by rw [List.length_drop]; exact Nat.le_refl _), List.take_of_length_le (by rw [List.length_drop]; omega)]
  · rw [Nat.min_eq_right (by omega : xs.length ≤ j), List.drop_of_length_le (Nat.le_refl _), List.drop_of_length_le (by omega), List.take_nil, List.take_nil]
theorem ixD_lst {α : Type} (f : α → D) (xs : List α) (k : Nat) {x : α} (h : xs[k]? = some x) : ixD (.lst (xs.map f)) (.int (k : Int)) = .ok (f x) := by
  show (match atI (xs.map f) (k : Int) with | some d => R.ok d | none => .stuck) = _
  rw [atI_nat (j := k) (v := f x) (by rw [List.getElem?_map, h]; rfl)]
theorem ixD_tup {α : Type} (f : α → D) (xs : List α) (k : Nat) {x : α} (h : xs[k]? = some x) : ixD (.tup (xs.map f)) (.int (k : Int)) = .ok (f x) := by
  show (match atI (xs.map f) (k : Int) with | some d => R.ok d | none => .stuck) = _
  rw [atI_nat (j := k) (v := f x) (by rw [List.getElem?_map, h]; rfl)]
theorem ixD_scr (xs : List Int) (k : Nat) {x : Int} (h : xs[k]? = some x) : ixD (.scr xs) (.int (k : Int)) = .ok (.int x) := by
  show (match atI xs (k : Int) with | some n => R.ok (D.int n) | none => .stuck) = _
  rw [atI_nat (j := k) (v := x) h]
theorem rangeD_01 (n : Nat) : rangeD 0 1 n = (List.range n).map fun (i : Nat) => D.int (i : Int) := by
  unfold rangeD
  congr 1
  funext i
  rw [Int.mul_one, Int.zero_add]
theorem rangeD_1 (lo : Int) (n : Nat) : rangeD lo 1 n = (List.range n).map fun (i : Nat) => D.int (lo + (i : Int)) := by
  unfold rangeD
  congr 1
  funext i
  rw [Int.mul_one]
theorem rg1_nat {n : Nat} (h : n ≤ LIM) : rg1 [.int (n : Int)] = .ok ((List.range n).map fun (i : Nat) => D.int (i : Int)) := by
  have h : n ≤ 1000000 := h
  have hc : -(2 ^ 62) ≤ (n : Int) ∧ (n : Int) < 2 ^ 62 := ⟨by omega, by omega⟩
  simp only [rg1]
  rw [if_pos hc, rangeD_01, Int.toNat_natCast]
/-! #### comprehensions and loops -/
theorem lcGo_map {α : Type} {ag : D → R As} {mt : Env → R Bool} {me : Env → R D} {ρ : Env} (emb : α → D) (f : α → Bool) (v : α → D) : ∀ (xs : List α), (∀ x ∈ xs, ∃ as, ag (emb x) = .ok as ∧ mt (setE ρ as) = .ok (f x) ∧ (f x = true → me (setE ρ as) = .ok (v x))) →
    lcGo ag mt me ρ (xs.map emb) = .ok ((xs.filter f).map v)
  | [], _ => rfl
  | x :: xs, h => by
    obtain ⟨as, h1, h2, h3⟩ := h x List.mem_cons_self
    have ih := lcGo_map emb f v xs fun y hy => h y (List.mem_cons_of_mem _ hy)
    rw [List.map_cons]
    unfold lcGo
    rw [h1, calm_ok, ok_bind, h2, calm_ok, ok_bind, ih, List.filter_cons]
    cases hf : f x with
    | true => rw [if_pos rfl, if_pos rfl, h3 hf, calm_ok, ok_bind, ok_bind]; rfl
    | false => rw [if_neg (by decide), if_neg (by decide)]
/-- every item is kept -/
theorem lcGo_all {α : Type} {ag : D → R As} {mt : Env → R Bool} {me : Env → R D} {ρ : Env} (emb : α → D) (v : α → D) (xs : List α) (h : ∀ x ∈ xs, ∃ as, ag (emb x) = .ok as ∧ mt (setE ρ as) = .ok true ∧ me (setE ρ as) = .ok (v x)) :
    lcGo ag mt me ρ (xs.map emb) = .ok (xs.map v) := by
  rw [lcGo_map emb (fun _ => true) v xs fun x hx => by
    obtain ⟨as, a, b, c⟩ := h x hx
    exact ⟨as, a, b, fun _ => c⟩, List.filter_eq_self.mpr (fun _ _ => rfl)]
theorem lcM_map {α : Type} {vs : List Nat} {mi : Env → R (List D)} {ag : D → R As} {mt : Env → R Bool} {me : Env → R D} {ρ : Env} (emb : α → D) (f : α → Bool) (v : α → D) (xs : List α) (hi : mi ρ = .ok (xs.map emb)) (hl : xs.length ≤ LIM)
    (h : ∀ x ∈ xs, ∃ as, ag (emb x) = .ok as ∧ mt (setE (wipeE ρ vs) as) = .ok (f x) ∧ (f x = true → me (setE (wipeE ρ vs) as) = .ok (v x))) : lcM vs mi ag mt me ρ = .ok (.lst ((xs.filter f).map v)) := by
  unfold lcM
  rw [hi, ok_bind, if_pos (by rw [List.length_map]; exact hl), lcGo_map emb f v xs h, calm_ok, ok_bind]
theorem lcM_all {α : Type} {vs : List Nat} {mi : Env → R (List D)} {ag : D → R As} {mt : Env → R Bool} {me : Env → R D} {ρ : Env} (emb : α → D) (v : α → D) (xs : List α) (hi : mi ρ = .ok (xs.map emb)) (hl : xs.length ≤ LIM)
    (h : ∀ x ∈ xs, ∃ as, ag (emb x) = .ok as ∧ mt (setE (wipeE ρ vs) as) = .ok true ∧ me (setE (wipeE ρ vs) as) = .ok (v x)) : lcM vs mi ag mt me ρ = .ok (.lst (xs.map v)) := by
  unfold lcM
  rw [hi, ok_bind, if_pos (by rw [List.length_map]; exact hl), lcGo_all emb v xs h, calm_ok, ok_bind]
theorem loopGo_inv {α : Type} {ag : D → R As} {mb : Env → R Fl} (emb : α → D) (xs : List α) (P : Nat → Env → Prop) {ρ : Env} (h0 : P 0 ρ) (hs : ∀ i x ρ, xs[i]? = some x → P i ρ → ∃ as ρ', ag (emb x) = .ok as ∧ (mb (setE ρ as) = .ok (.nx ρ') ∨ mb (setE ρ as) = .ok (.ct ρ')) ∧ P (i + 1) ρ') :
    ∃ ρ', loopGo ag mb (xs.map emb) ρ = .ok (.nx ρ') ∧ P xs.length ρ' := by
  induction xs generalizing ρ P with
  | nil => exact ⟨ρ, rfl, h0⟩
  | cons x xs ih =>
    obtain ⟨as, ρ1, h1, h2, h3⟩ := hs 0 x ρ rfl h0
    obtain ⟨ρ2, h4, h5⟩ := ih (fun i => P (i + 1)) h3 fun i y ρ hy hp => hs (i + 1) y ρ hy hp
    refine ⟨ρ2, ?_, h5⟩
    rw [List.map_cons]
    unfold loopGo
    rw [h1, calm_ok, ok_bind]
    rcases h2 with h2 | h2
    · rw [h2, ok_bind]
      exact h4
    · rw [h2, ok_bind]
      exact h4
def isT : R D → Bool
  | .ok (.bl true) => true
  | _ => false
theorem isT_of {r : R D} (h : isT r = true) : r = .ok (.bl true) := by
  unfold isT at h
  split at h
  · rfl
  · cases h
end DL
namespace DL
open PySem PySem.Spec L2

/-! ### one statement after the other -/
theorem th_asg {i : Nat} {ρ : Env} {a : R D} {d : D} {k : Env → R Fl} {out : R Fl} (h : a = .ok d) (h2 : k (ρ.set i (some d)) = out) : then_ (asg i ρ a) k = out := by
  subst h
  exact h2
theorem th_asgW {i : Nat} {ρ : Env} {a : R D} {d : D} {k : Env → R Fl} {out : R Fl} (h : a = .ok d) (hs : d.scal = true) (h2 : k (ρ.set i (some d)) = out) : then_ (asgW i ρ a) k = out := by
  subst h
  rw [asgW_ok, if_pos hs]
  exact h2
theorem th_own {i : Nat} {ρ : Env} {a : R (List D)} {ds : List D} {k : Env → R Fl} {out : R Fl} (h : a = .ok ds) (h2 : k (ρ.set i (some (.lst ds))) = out) : then_ (ownS i ρ a) k = out := by
  subst h
  exact h2
theorem th_skip {c : R Bool} {a : R Fl} {ρ : Env} {k : Env → R Fl} {out : R Fl} (h : c = .ok false) (h2 : k ρ = out) : then_ (ifv c a (.ok (.nx ρ))) k = out := by
  subst h
  exact h2
theorem th_if {c : R Bool} {b : Bool} {x y : R Fl} {k : Env → R Fl} {out : R Fl} (h : c = .ok b) (h1 : b = true → then_ x k = out) (h2 : b = false → then_ y k = out) : then_ (ifv c x y) k = out := by
  subst h
  cases b with
  | true => exact h1 rfl
  | false => exact h2 rfl
theorem ifv_of {α : Type} {c : R Bool} {b : Bool} {x y : R α} {out : R α} (h : c = .ok b) (h1 : b = true → x = out) (h2 : b = false → y = out) : ifv c x y = out := by
  subst h
  cases b with
  | true => exact h1 rfl
  | false => exact h2 rfl
theorem th_nx {x : R Fl} {ρ : Env} {k : Env → R Fl} {out : R Fl} (h : x = .ok (.nx ρ)) (h2 : k ρ = out) : then_ x k = out := by
  subst h
  exact h2
theorem rt_of {a : R D} {d : D} (h : a = .ok d) : ret a = .ok (.rt d) := by
  subst h
  rfl
theorem for_inv {α : Type} {rg : List D → R (List D)} {ag : D → R As} {mb : Env → R Fl} {ρ : Env} {r : R (List D)} {ds : List D} (emb : α → D) (xs : List α) (P : Nat → Env → Prop) (hr : r = .ok ds) (hg : rg ds = .ok (xs.map emb)) (h0 : P 0 ρ)
    (hs : ∀ i x ρ, xs[i]? = some x → P i ρ → ∃ as ρ', ag (emb x) = .ok as ∧ (mb (setE ρ as) = .ok (.nx ρ') ∨ mb (setE ρ as) = .ok (.ct ρ')) ∧ P (i + 1) ρ') :
    ∃ ρ', forR rg ag mb ρ r = .ok (.nx ρ') ∧ P xs.length ρ' := by
  subst hr
  rw [forR_ok, hg, calm_ok, ok_bind]
  exact loopGo_inv emb xs P h0 hs
theorem fors_inv {α : Type} {ag : D → R As} {mb : Env → R Fl} {ρ : Env} {r : R (List D)} (emb : α → D) (xs : List α) (P : Nat → Env → Prop) (hr : r = .ok (xs.map emb)) (h0 : P 0 ρ)
    (hs : ∀ i x ρ, xs[i]? = some x → P i ρ → ∃ as ρ', ag (emb x) = .ok as ∧ (mb (setE ρ as) = .ok (.nx ρ') ∨ mb (setE ρ as) = .ok (.ct ρ')) ∧ P (i + 1) ρ') :
    ∃ ρ', forS ag mb ρ r = .ok (.nx ρ') ∧ P xs.length ρ' := by
  subst hr
  exact loopGo_inv emb xs P h0 hs
theorem th_for {α : Type} {rg : List D → R (List D)} {ag : D → R As} {mb : Env → R Fl} {ρ : Env} {r : R (List D)} {ds : List D} {k : Env → R Fl} {out : R Fl} (emb : α → D) (xs : List α) (P : Nat → Env → Prop) (hr : r = .ok ds) (hg : rg ds = .ok (xs.map emb)) (h0 : P 0 ρ)
    (hs : ∀ i x ρ, xs[i]? = some x → P i ρ → ∃ as ρ', ag (emb x) = .ok as ∧ (mb (setE ρ as) = .ok (.nx ρ') ∨ mb (setE ρ as) = .ok (.ct ρ')) ∧ P (i + 1) ρ')
    (hk : ∀ ρ', P xs.length ρ' → k ρ' = out) : then_ (forR rg ag mb ρ r) k = out := by
  obtain ⟨ρ', h1, h2⟩ := for_inv emb xs P hr hg h0 hs
  rw [h1]
  exact hk _ h2
theorem th_fors {α : Type} {ag : D → R As} {mb : Env → R Fl} {ρ : Env} {r : R (List D)} {k : Env → R Fl} {out : R Fl} (emb : α → D) (xs : List α) (P : Nat → Env → Prop) (hr : r = .ok (xs.map emb)) (h0 : P 0 ρ)
    (hs : ∀ i x ρ, xs[i]? = some x → P i ρ → ∃ as ρ', ag (emb x) = .ok as ∧ (mb (setE ρ as) = .ok (.nx ρ') ∨ mb (setE ρ as) = .ok (.ct ρ')) ∧ P (i + 1) ρ')
    (hk : ∀ ρ', P xs.length ρ' → k ρ' = out) : then_ (forS ag mb ρ r) k = out := by
  obtain ⟨ρ', h1, h2⟩ := fors_inv emb xs P hr h0 hs
  rw [h1]
  exact hk _ h2
/-! ### own lists -/
theorem ixN_nat {n k : Nat} (h : k < n) : ixN n (k : Int) = some k := by
  unfold ixN
  rw [if_pos (by omega), if_pos (by omega), Int.toNat_natCast]
theorem seqIx_nat {n k : Nat} (h : k < n) : seqIndex? (k : Int) n = some k := by
  unfold seqIndex?
  simp
  omega
theorem ownD_of' {ρ : Env} {i : Nat} {ds : List D} (h : ρ[i]? = some (some (.lst ds))) : ownD ρ i = .ok ds := by
  unfold ownD
  rw [h]
theorem appPop_a1 {k n : Nat} (hl : k < n) (h1 : n ≤ LIM) : -(2 ^ 63) ≤ (k : Int) ∧ (k : Int) < 2 ^ 63 := by
  have h1 : n ≤ 1000000 := h1
  exact ⟨by omega, by omega⟩
theorem appPop_a2 {i j : Nat} {ρ : Env} {k : Nat} {ds es : List D} {d : D} (hk : es[k]? = some d) (hc : -(2 ^ 63) ≤ (k : Int) ∧ (k : Int) < 2 ^ 63 ∧ ds.length < LIM) (hs : seqIndex? (k : Int) es.length = some k) : appPopG i j ρ ds es (.int (k : Int)) = .ok (.nx ((ρ.set j (some (.lst (es.eraseIdx k)))).set i (some (.lst (ds ++ [d]))))) := by
  rw [appPopG]
  rw [if_pos hc]
  rw [hs]
  dsimp only
  rw [hk]
theorem appPopS_nat {i j : Nat} {ρ : Env} {a : R D} {k : Nat} {ds es : List D} {d : D} (hi : ρ[i]? = some (some (.lst ds))) (hj : ρ[j]? = some (some (.lst es))) (ha : a = .ok (.int (k : Int))) (hk : es[k]? = some d) (h1 : es.length ≤ LIM) (h2 : ds.length < LIM) :
    appPopS i j ρ a = .ok (.nx ((ρ.set j (some (.lst (es.eraseIdx k)))).set i (some (.lst (ds ++ [d]))))) := by
  have hl : k < es.length := (List.getElem?_eq_some_iff.mp hk).1
  obtain ⟨c1, c2⟩ := appPop_a1 hl h1
  unfold appPopS
  rw [ownD_of' hi, ownD_of' hj, ha, calm_ok, calm_ok, ok_bind, ok_bind, ok_bind]
  exact appPop_a2 hk ⟨c1, c2, h2⟩ (seqIx_nat hl)
theorem setixS_nat {i : Nat} {ρ : Env} {a b : R D} {k : Nat} {ds : List D} {d : D} (ha : a = .ok d) (hi : ρ[i]? = some (some (.lst ds))) (hb : b = .ok (.int (k : Int))) (hk : k < ds.length) : setixS i ρ a b = .ok (.nx (ρ.set i (some (.lst (ds.set k d))))) := by
  unfold setixS
  rw [ha, ok_bind, ownD_of' hi, calm_ok, ok_bind, hb, ok_bind]
  show (match ixN ds.length (k : Int) with
    | some j => R.ok (Fl.nx (ρ.set i (some (.lst (ds.set j d)))))
    | none => .stuck) = _
  rw [ixN_nat hk]
theorem setixSW_nat {i : Nat} {ρ : Env} {a b : R D} {k : Nat} {ds : List D} {d : D} (ha : a = .ok d) (hs : d.scal = true) (hi : ρ[i]? = some (some (.lst ds))) (hb : b = .ok (.int (k : Int))) (hk : k < ds.length) : setixSW i ρ a b = .ok (.nx (ρ.set i (some (.lst (ds.set k d))))) := by
  unfold setixSW
  rw [ha, ok_bind, if_pos hs, ownD_of' hi, calm_ok, ok_bind, hb, ok_bind]
  show (match ixN ds.length (k : Int) with
    | some j => R.ok (Fl.nx (ρ.set i (some (.lst (ds.set j d)))))
    | none => .stuck) = _
  rw [ixN_nat hk]
theorem rgL1_nat {n : Nat} (h : n ≤ LIM) : rgL1 [.int (n : Int)] = .ok ((List.range n).map fun (i : Nat) => D.int (i : Int)) := by
  have h : n ≤ 1000000 := h
  show rgL 0 (n : Int) = _
  unfold rgL
  rw [if_pos ⟨by omega, by omega, by omega, by omega, by show ((n : Int) - 0).toNat ≤ 1000000; omega⟩, Int.sub_zero, Int.toNat_natCast, rangeD_01]
theorem rg2_nat {lo n : Nat} (h1 : lo ≤ LIM) (h2 : n ≤ LIM) : rg2 [.int (lo : Int), .int (n : Int)] = .ok ((List.range (n - lo)).map fun (i : Nat) => D.int ((lo + i : Nat) : Int)) := by
  have h1 : lo ≤ 1000000 := h1
  have h2 : n ≤ 1000000 := h2
  have hc : -(2 ^ 62) ≤ (lo : Int) ∧ (lo : Int) < 2 ^ 62 ∧ -(2 ^ 62) ≤ (n : Int) ∧ (n : Int) < 2 ^ 62 := ⟨by omega, by omega, by omega, by omega⟩
  simp -implicitDefEqProofs only [rg2, if_pos hc, show ((n : Int) - lo).toNat = n - lo from by omega, rangeD_1, Int.natCast_add]
end DL
namespace DL
open PySem PySem.Spec L2

/-! ### what a def gives is reckoned: rows of ints, pairs, dicts by rows -/
mutual
theorem eqv_refl : ∀ d : D, PyData.eqv d.py d.py = true
  | .non => by simp [D.py, PyData.eqv]
  | .bl b => by simp [D.py, PyData.eqv]
  | .int i => by simp [D.py, PyData.eqv]
  | .str x => by simp [D.py, PyData.eqv]
  | .lst ds => by simp only [D.py, PyData.eqv]; exact eqvs_refl ds
  | .tup ds => by simp only [D.py, PyData.eqv]; exact eqvs_refl ds
  | .scr _ => by simp [D.py, PyData.eqv]
  | .rng _ _ => by simp [D.py, PyData.eqv]
  | .ty _ => by simp [D.py, PyData.eqv]
  | .cls _ => by simp [D.py, PyData.eqv]
  | .obj _ _ _ => by simp [D.py, PyData.eqv]
  | .dk _ _ => by simp [D.py, PyData.eqv]
  | .dt _ _ => by simp [D.py, PyData.eqv]
  | .exc _ _ _ => by simp [D.py, PyData.eqv]
theorem eqvs_refl : ∀ ds : List D, PyData.eqvAll (D.pys ds) (D.pys ds) = true
  | [] => by simp [D.pys, PyData.eqvAll]
  | d :: ds => by simp only [D.pys, PyData.eqvAll]; rw [eqv_refl d, eqvs_refl ds]; rfl
end
/-- a == a -/
theorem eqD_refl {d : D} (h : d.fine 60 = true) : eqD d d = .ok (.bl true) := by
  unfold eqD
  split
  · simp
  · rfl
  · rw [eqv_refl]
    exact gd_ok ⟨h, h⟩
theorem neD_refl {d : D} (h : d.fine 60 = true) : neD d d = .ok (.bl false) := by
  unfold neD
  rw [eqD_refl h]
  rfl
def rowL (r : List Int) : D := .lst (r.map D.int)
theorem eqv_rows : ∀ (r q : List Int), PyData.eqvAll (D.pys (r.map D.int)) (D.pys (q.map D.int)) = decide (r = q)
  | [], [] => by simp [D.pys, PyData.eqvAll]
  | [], _ :: _ => by simp [D.pys, PyData.eqvAll]
  | _ :: _, [] => by simp [D.pys, PyData.eqvAll]
  | x :: r, y :: q => by
    simp only [List.map_cons, D.pys, PyData.eqvAll, D.py, PyData.eqv]
    rw [eqv_rows r q]
    by_cases h : x = y
    · subst h
      simp
    · simp [h]
theorem fine_ints (n : Nat) (r : List Int) : (r.map D.int).all (D.fine n) = true := by
  rw [List.all_eq_true]
  intro d hd
  obtain ⟨i, _, rfl⟩ := List.mem_map.mp hd
  cases n <;> simp [D.fine]
theorem fine_rowL (n : Nat) (r : List Int) : (rowL r).fine (n + 1) = true := by
  simp only [rowL, D.fine]
  exact fine_ints n r
theorem fine_rowD (n : Nat) (r : List Int) : (rowD r).fine (n + 1) = true := by
  simp only [rowD, D.fine]
  exact fine_ints n r
theorem fine_rowsL (n : Nat) (R : List (List Int)) : (D.lst (R.map rowL)).fine (n + 2) = true := by
  simp only [D.fine]
  rw [List.all_eq_true]
  intro d hd
  obtain ⟨i, _, rfl⟩ := List.mem_map.mp hd
  exact fine_rowL n i
theorem fine_rowsD (n : Nat) (R : List (List Int)) : (D.lst (R.map rowD)).fine (n + 2) = true := by
  simp only [D.fine]
  rw [List.all_eq_true]
  intro d hd
  obtain ⟨i, _, rfl⟩ := List.mem_map.mp hd
  exact fine_rowD n i
theorem pys_map {α : Type} (f : α → D) (xs : List α) : D.pys (xs.map f) = xs.map fun x => (f x).py := by
  induction xs with
  | nil => simp [D.pys]
  | cons x xs ih => simp [D.pys, ih]
theorem eqv_rowL (r q : List Int) : PyData.eqv (rowL r).py (rowL q).py = decide (r = q) := by
  simp only [rowL, D.py, PyData.eqv]
  exact eqv_rows r q
theorem eqv_rowsL : ∀ (R Q : List (List Int)), PyData.eqvAll (D.pys (R.map rowL)) (D.pys (Q.map rowL)) = decide (R = Q)
  | [], [] => by simp [D.pys, PyData.eqvAll]
  | [], _ :: _ => by simp [D.pys, PyData.eqvAll]
  | _ :: _, [] => by simp [D.pys, PyData.eqvAll]
  | x :: r, y :: q => by
    simp only [List.map_cons, D.pys, PyData.eqvAll]
    rw [eqv_rowsL r q, eqv_rowL]
    by_cases h : x = y
    · subst h
      simp
    · simp [h]
theorem eqD_rowsL (R Q : List (List Int)) : eqD (.lst (R.map rowL)) (.lst (Q.map rowL)) = .ok (.bl (decide (R = Q))) := by
  have h : eqD (.lst (R.map rowL)) (.lst (Q.map rowL)) = gd ((D.lst (R.map rowL)).fine 60 = true ∧ (D.lst (Q.map rowL)).fine 60 = true) (.bl (PyData.eqv (D.lst (R.map rowL)).py (D.lst (Q.map rowL)).py)) := rfl
  rw [h, gd_ok ⟨fine_rowsL 58 R, fine_rowsL 58 Q⟩]
  simp only [D.py, PyData.eqv]
  rw [eqv_rowsL]
theorem any_rowsL (r : List Int) (S : List (List Int)) : ((D.pys (S.map rowL)).any fun z => PyData.eqv z (rowL r).py) = decide (r ∈ S) := by
  induction S with
  | nil => simp [D.pys]
  | cons x S ih =>
    simp only [List.map_cons, D.pys, List.any_cons]
    rw [ih, eqv_rowL]
    by_cases h : x = r
    · subst h
      simp
    · have h2 : ¬ r = x := fun e => h e.symm
      simp [h, h2]
/-- row in rows -/
theorem inG_rowsL (r : List Int) (S : List (List Int)) : inG (rowL r) (.lst (S.map rowL)) = .ok (.bl (decide (r ∈ S))) := by
  have hf : flatIn (rowL r) (.lst (S.map rowL)) = false := by simp [flatIn, rowL, D.flat]
  unfold inG
  rw [hf, if_neg (by decide)]
  show gd ((rowL r).fine 60 = true ∧ (D.lst (S.map rowL)).fine 60 = true) _ = _
  rw [gd_ok ⟨fine_rowL 59 r, fine_rowsL 58 S⟩, any_rowsL]
/-- int in row -/
theorem inG_row (x : Int) (r : List Int) : inG (.int x) (.lst (r.map D.int)) = .ok (.bl (decide (x ∈ r))) := by
  have hf : flatIn (.int x) (.lst (r.map D.int)) = true := by simp [flatIn, D.flat]
  unfold inG
  rw [hf, if_pos rfl]
  exact inD_lst x r
def kyI (r : List Int) : List Key := r.map Sum.inl
theorem kyI_inj {r q : List Int} : kyI r = kyI q ↔ r = q := by
  constructor
  · intro h
    induction r generalizing q with
    | nil => cases q with
      | nil => rfl
      | cons => simp [kyI] at h
    | cons x r ih => cases q with
      | nil => simp [kyI] at h
      | cons y q =>
        simp only [kyI, List.map_cons, List.cons.injEq, Sum.inl.injEq] at h
        rw [h.1, ih h.2]
  · intro h
    rw [h]
theorem mem_kyI (r : List Int) (S : List (List Int)) : kyI r ∈ S.map kyI ↔ r ∈ S := by
  rw [List.mem_map]
  constructor
  · rintro ⟨q, h1, h2⟩
    rw [← kyI_inj.mp h2]
    exact h1
  · intro h
    exact ⟨r, h, rfl⟩
theorem keysD_ints : ∀ r : List Int, keysD (r.map D.int) = some (kyI r)
  | [] => rfl
  | x :: r => by
    simp only [List.map_cons, keysD, keyD, keysD_ints r, kyI]
theorem getK_some {κ : Type} [DecidableEq κ] {k : κ} : ∀ {ks : List κ} {ds : List D}, k ∈ ks → ks.length = ds.length → ∃ d, getK k ks ds = some d
  | k' :: ks, d :: ds, h, hl => by
    by_cases e : k' = k
    · exact ⟨d, by simp [getK, e]⟩
    · have h2 : k ∈ ks := by
        cases h with
        | head => exact absurd rfl e
        | tail _ h => exact h
      obtain ⟨d2, h3⟩ := getK_some (ds := ds) h2 (by simpa using hl)
      exact ⟨d2, by simp [getK, e, h3]⟩
/-- row in dict -/
theorem inG_dt (r : List Int) (S : List (List Int)) (ds : List D) (hl : ds.length = S.length) : inG (rowD r) (.dt (S.map kyI) ds) = .ok (.bl (decide (r ∈ S))) := by
  have hg : (getK (kyI r) (S.map kyI) ds).isSome = decide (r ∈ S) := by
    by_cases h : r ∈ S
    · obtain ⟨d, hd⟩ := getK_some (ds := ds) ((mem_kyI r S).mpr h) (by simp [hl])
      rw [hd]
      simp [h]
    · rw [getK_none fun e => h ((mem_kyI r S).mp e)]
      simp [h]
  have hk : lookD (.dt (S.map kyI) ds) (rowD r) = some (getK (kyI r) (S.map kyI) ds) := by
    show (keysD (r.map D.int)).map _ = _
    rw [keysD_ints]
    rfl
  show dinD (rowD r) (.dt (S.map kyI) ds) = _
  unfold dinD
  rw [hk]
  show R.ok (D.bl (getK (kyI r) (S.map kyI) ds).isSome) = _
  rw [hg]
theorem putKs_new (r : List Int) (S : List (List Int)) (h : r ∉ S) : putKs (kyI r) (S.map kyI) = (S ++ [r]).map kyI := by
  unfold putKs
  rw [if_neg fun e => h ((mem_kyI r S).mp e), List.map_append]
  rfl
theorem putKd_new (r : List Int) (S : List (List Int)) (d : D) (ds : List D) (h : r ∉ S) : putKd (kyI r) d (S.map kyI) ds = ds ++ [d] := by
  unfold putKd
  rw [if_neg fun e => h ((mem_kyI r S).mp e)]
theorem intsOf_rowsD_nil : intsOf (([] : List (List Int)).map rowD) = some [] := rfl
theorem rowsOf_map : ∀ R : List (List Int), (∀ r ∈ R, r ≠ []) → rowsOf (R.map rowD) = some R
  | [], _ => rfl
  | [] :: R, h => absurd rfl (h [] List.mem_cons_self)
  | (x :: r) :: R, h => by
    have ih := rowsOf_map R fun q hq => h q (List.mem_cons_of_mem _ hq)
    show (match intsOf ((x :: r).map D.int) with
      | some (n :: ns) => (rowsOf (R.map rowD)).map ((n :: ns) :: ·)
      | _ => none) = _
    rw [intsOf_map, ih]
    rfl
/-- sorted of rows: tuples -/
theorem sortedA_rows (R : List (List Int)) (h : ∀ r ∈ R, r ≠ []) : sortedA [.lst (R.map rowD)] = .ok (.lst ((sortR R).map rowD)) := by
  show sortedX (R.map rowD) = _
  cases R with
  | nil => rfl
  | cons x R =>
    have hi : intsOf ((x :: R).map rowD) = none := rfl
    unfold sortedX
    rw [hi, rowsOf_map _ h]
theorem sortedA_ints (r : List Int) : sortedA [.lst (r.map D.int)] = .ok (.lst ((sortI r).map D.int)) := by
  show sortedX (r.map D.int) = _
  unfold sortedX
  rw [intsOf_map]
theorem sortedA_intsT (r : List Int) : sortedA [.tup (r.map D.int)] = .ok (.lst ((sortI r).map D.int)) := by
  show sortedX (r.map D.int) = _
  unfold sortedX
  rw [intsOf_map]
/-! #### statements -/
theorem appS_nx {i : Nat} {ρ : Env} {a : R D} {ds : List D} {d : D} (h : ρ[i]? = some (some (.lst ds))) (ha : a = .ok d) (hl : ds.length < LIM) : appS i ρ a = .ok (.nx (ρ.set i (some (.lst (ds ++ [d]))))) := by
  unfold appS
  rw [ownD_of' h, ha, calm_ok, ok_bind, ok_bind, if_pos hl]
theorem th_app {i : Nat} {ρ : Env} {a : R D} {ds : List D} {d : D} {k : Env → R Fl} {out : R Fl} (h : ρ[i]? = some (some (.lst ds))) (ha : a = .ok d) (hl : ds.length < LIM) (h2 : k (ρ.set i (some (.lst (ds ++ [d])))) = out) : then_ (appS i ρ a) k = out := by
  rw [appS_nx h ha hl]
  exact h2
theorem nd_t {p : Prop} [Decidable p] (h : (!decide p) = true) : ¬ p := by simpa using h
theorem nd_f {p : Prop} [Decidable p] (h : (!decide p) = false) : p := by simpa using h
theorem lim_le {n : Nat} (h : n ≤ 100000) : n ≤ LIM := lim63 h
theorem lim_lt' {n : Nat} (h : n ≤ 100000) : n < LIM := Nat.lt_of_le_of_lt h (by decide)
theorem dputS_dt {M : List Nat} {i : Nat} {ρ : Env} {a k : R D} {d : D} {r : List Int} {S : List (List Int)} {ds : List D} (ha : a = .ok d) (hk : keepOk M ρ d = true) (hg : get ρ i = .ok (.dt (S.map kyI) ds)) (hr : k = .ok (rowD r)) (hl : S.length < LIM) (hn : r ∉ S) :
    dputS M i ρ a k = .ok (.nx (ρ.set i (some (.dt ((S ++ [r]).map kyI) (ds ++ [d]))))) := by
  unfold dputS
  rw [ha, ok_bind, if_pos hk, hg, calm_ok, ok_bind, hr, ok_bind]
  show (match keysD (r.map D.int) with
    | some k => if (S.map kyI).length < LIM then R.ok (Fl.nx (ρ.set i (some (.dt (putKs k (S.map kyI)) (putKd k d (S.map kyI) ds))))) else .stuck
    | none => .stuck) = _
  rw [keysD_ints]
  show (if (S.map kyI).length < LIM then R.ok (Fl.nx (ρ.set i (some (.dt (putKs (kyI r) (S.map kyI)) (putKd (kyI r) d (S.map kyI) ds))))) else .stuck) = _
  rw [if_pos (by rw [List.length_map]; exact hl), putKs_new r S hn, putKd_new r S d ds hn]
theorem enumD_map {α : Type} (emb : α → D) (xs : List α) (d0 : α) : ∀ k, enumD k (xs.map emb) = (List.range xs.length).map fun j => .tup [.int ((k + j : Nat) : Int), emb (xs.getD j d0)] := by
  induction xs with
  | nil => intro k; rfl
  | cons x xs ih =>
    intro k
    rw [List.map_cons]
    show D.tup [.int (k : Int), emb x] :: enumD (k + 1) (xs.map emb) = _
    rw [ih (k + 1), List.length_cons, List.range_succ_eq_map, List.map_cons, List.map_map]
    congr 1
    refine List.map_congr_left fun j _ => ?_
    show D.tup [.int ((k + 1 + j : Nat) : Int), emb (xs.getD j d0)] = D.tup [.int ((k + (j + 1) : Nat) : Int), emb ((x :: xs).getD (j + 1) d0)]
    rw [show k + 1 + j = k + (j + 1) from by omega, List.getD_cons_succ]
/-! #### what may be kept -/
theorem has_map {α : Type} {k : Nat} (f : α → D) (xs : List α) (h : ∀ x ∈ xs, (f x).has k = false) : D.hasAny k (xs.map f) = false := by
  induction xs with
  | nil => simp [D.hasAny]
  | cons x xs ih =>
    simp only [List.map_cons, D.hasAny]
    rw [h x List.mem_cons_self, ih fun y hy => h y (List.mem_cons_of_mem _ hy)]
    rfl
theorem has_rowD (k : Nat) (r : List Int) : (rowD r).has k = false := by
  simp only [rowD, D.has]
  exact has_map _ _ fun x _ => by simp [D.has]
theorem has_rowsT (k : Nat) (R : List (List Int)) : (D.tup (R.map rowD)).has k = false := by
  simp only [D.has]
  exact has_map _ _ fun x _ => has_rowD k x
theorem tkey_row (r : List Int) : tkey (rowD r) = .ok (kyI r) := by
  unfold tkey
  show (match keysD (r.map D.int) with
    | some k => DL.R.ok k
    | none => .stuck) = _
  rw [keysD_ints]
/-- a dict from rows -/
theorem dcGo_rows {ag : D → R As} {mt : Env → R Bool} {mk mv : Env → R D} {ρ : Env} (v : List Int → D) : ∀ (Q S : List (List Int)) (ds : List D), (S ++ Q).Nodup → (∀ q ∈ Q, ∃ as, ag (rowD q) = .ok as ∧ mt (setE ρ as) = .ok true ∧ mk (setE ρ as) = .ok (rowD q) ∧ mv (setE ρ as) = .ok (v q)) →
    dcGo ag mt mk mv ρ (Q.map rowD) (S.map kyI) ds = .ok (.dt ((S ++ Q).map kyI) (ds ++ Q.map v))
  | [], S, ds, _, _ => by simp [dcGo]
  | q :: Q, S, ds, hn, h => by
    obtain ⟨as, h1, h2, h3, h4⟩ := h q List.mem_cons_self
    have hq : q ∉ S := fun e => by
      rw [List.nodup_append] at hn
      exact hn.2.2 q e q List.mem_cons_self rfl
    have ih := dcGo_rows (ρ := ρ) (ag := ag) (mt := mt) (mk := mk) (mv := mv) v Q (S ++ [q]) (ds ++ [v q]) (by rw [List.append_assoc]; exact hn) fun p hp => h p (List.mem_cons_of_mem _ hp)
    rw [List.map_cons]
    unfold dcGo
    rw [h1, calm_ok, ok_bind, h2, calm_ok, ok_bind, if_pos rfl, h3, calm_ok, ok_bind, tkey_row, calm_ok, ok_bind, h4, calm_ok, ok_bind, putKs_new q S hq, putKd_new q S _ ds hq, ih]
    simp [List.append_assoc]
theorem dcM_rows {vs : List Nat} {mi : Env → R (List D)} {ag : D → R As} {mt : Env → R Bool} {mk mv : Env → R D} {ρ : Env} (v : List Int → D) (Q : List (List Int)) (hi : mi ρ = .ok (Q.map rowD)) (hl : Q.length ≤ LIM) (hn : Q.Nodup)
    (h : ∀ q ∈ Q, ∃ as, ag (rowD q) = .ok as ∧ mt (setE (wipeE ρ vs) as) = .ok true ∧ mk (setE (wipeE ρ vs) as) = .ok (rowD q) ∧ mv (setE (wipeE ρ vs) as) = .ok (v q)) :
    dcM vs mi ag mt mk mv ρ = .ok (.dt (Q.map kyI) (Q.map v)) := by
  unfold dcM
  have h2 := dcGo_rows v Q [] [] (by simpa using hn) h
  simp only [List.map_nil, List.nil_append] at h2
  rw [hi, ok_bind, if_pos (by rw [List.length_map]; exact hl), h2, calm_ok]
theorem th_rt {x : R Fl} {d : D} {k : Env → R Fl} (h : x = .ok (.rt d)) : then_ x k = .ok (.rt d) := by
  subst h
  rfl
end DL
namespace DL
open PySem PySem.Spec L2

/-! ### tables of faces, counts by rows -/
def facesP (r : List Int) : List (List Int) := (List.range r.length).map fun k => r.take k ++ r.drop (k + 1)
def addT (f r : List Int) : List (List Int × List (List Int)) → List (List Int × List (List Int))
  | [] => [(f, [r])]
  | p :: T => if p.1 = f then (p.1, p.2 ++ [r]) :: T else p :: addT f r T
def tabF (ps : List (List Int × List Int)) : List (List Int × List (List Int)) := ps.foldl (fun T p => addT p.1 p.2 T) []
def facePairs (Q : List (List Int)) : List (List Int × List Int) := Q.flatMap fun r => (facesP r).map fun f => (f, r)
def tabD (T : List (List Int × List (List Int))) : D := .dt (T.map fun p => kyI p.1) (T.map fun p => .lst (p.2.map rowD))
theorem addT_len (f r : List Int) : ∀ T, (addT f r T).length ≤ T.length + 1
  | [] => by simp [addT]
  | p :: T => by
    have := addT_len f r T
    simp only [addT]
    split
    · simp
    · simp only [List.length_cons]
      omega
theorem addT_in (f r : List Int) (n : Nat) (h0 : 1 ≤ n) : ∀ T, (∀ p ∈ T, p.2.length < n) → ∀ p ∈ addT f r T, p.2.length ≤ n
  | [], _, p, hp => by
    simp only [addT, List.mem_singleton] at hp
    subst hp
    simpa using h0
  | q :: T, h, p, hp => by
    simp only [addT] at hp
    split at hp
    · rcases List.mem_cons.mp hp with rfl | hp
      · have := h q List.mem_cons_self
        simp only [List.length_append, List.length_singleton]
        omega
      · exact Nat.le_of_lt (h p (List.mem_cons_of_mem _ hp))
    · rcases List.mem_cons.mp hp with rfl | hp
      · exact Nat.le_of_lt (h p List.mem_cons_self)
      · exact addT_in f r n h0 T (fun p hp => h p (List.mem_cons_of_mem _ hp)) p hp
theorem tabF_snoc (ps : List (List Int × List Int)) (p : List Int × List Int) : tabF (ps ++ [p]) = addT p.1 p.2 (tabF ps) := by
  unfold tabF
  rw [List.foldl_append]
  rfl
theorem tabF_len' (ps : List (List Int × List Int)) : ∀ n, n ≤ ps.length → (tabF (ps.take n)).length ≤ n ∧ ∀ p ∈ tabF (ps.take n), p.2.length ≤ n
  | 0, _ => by simp [tabF]
  | n + 1, h => by
    obtain ⟨h1, h2⟩ := tabF_len' ps n (by omega)
    rw [List.take_succ_eq_append_getElem (by omega), tabF_snoc]
    refine ⟨?_, addT_in _ _ _ (by omega) _ fun p hp => Nat.lt_succ_of_le (h2 p hp)⟩
    have := addT_len (ps[n]).1 (ps[n]).2 (tabF (ps.take n))
    omega
theorem tabF_len (ps : List (List Int × List Int)) : (tabF ps).length ≤ ps.length ∧ ∀ p ∈ tabF ps, p.2.length ≤ ps.length := by
  have := tabF_len' ps ps.length (Nat.le_refl _)
  rwa [List.take_length] at this
theorem getK_tab (f : List Int) : ∀ T : List (List Int × List (List Int)), getK (kyI f) (T.map fun p => kyI p.1) (T.map fun p => D.lst (p.2.map rowD)) = (T.find? fun p => decide (p.1 = f)).map fun p => .lst (p.2.map rowD)
  | [] => rfl
  | p :: T => by
    simp only [List.map_cons, getK, List.find?_cons]
    by_cases h : p.1 = f
    · rw [if_pos (kyI_inj.mpr h), decide_eq_true h]
      rfl
    · rw [if_neg fun e => h (kyI_inj.mp e), decide_eq_false h, getK_tab f T]
theorem sd_tab (f r : List Int) : ∀ T : List (List Int × List (List Int)), ((T.find? fun p => decide (p.1 = f)).isSome → (addT f r T).map (fun p => kyI p.1) = T.map (fun p => kyI p.1) ∧ (addT f r T).map (fun p => D.lst (p.2.map rowD)) = sdGo (kyI f) (rowD r) (T.map fun p => kyI p.1) (T.map fun p => .lst (p.2.map rowD))) ∧
    ((T.find? fun p => decide (p.1 = f)) = none → addT f r T = T ++ [(f, [r])])
  | [] => ⟨fun h => (by cases h), fun _ => rfl⟩
  | p :: T => by
    obtain ⟨h1, h2⟩ := sd_tab f r T
    simp only [List.map_cons, sdGo, List.find?_cons, addT]
    by_cases h : p.1 = f
    · rw [if_pos h, if_pos (kyI_inj.mpr h), decide_eq_true h]
      refine ⟨fun _ => ⟨rfl, ?_⟩, fun e => (by cases e)⟩
      simp only [List.map_cons, List.map_append, List.map_nil]
    · rw [if_neg h, if_neg fun e => h (kyI_inj.mp e), decide_eq_false h]
      refine ⟨fun e => ?_, fun e => ?_⟩
      · obtain ⟨a, b⟩ := h1 e
        simp only [List.map_cons]
        rw [a, b]
        exact ⟨rfl, rfl⟩
      · rw [h2 e]
        rfl
theorem sdS_tab {M : List Nat} {i : Nat} {ρ : Env} {kd a : R D} {f r : List Int} {T : List (List Int × List (List Int))} (h : ρ[i]? = some (some (tabD T))) (hk : kd = .ok (rowD f)) (ha : a = .ok (rowD r)) (hl : T.length < LIM) (hs : ∀ p ∈ T, p.2.length < LIM) :
    sdS M i ρ kd a = .ok (.nx (ρ.set i (some (tabD (addT f r T))))) := by
  obtain ⟨h1, h2⟩ := sd_tab f r T
  unfold sdS
  rw [h]
  show (kd >>= fun kd => calm (tkey kd) >>= fun k => if (T.map fun p => kyI p.1).length < LIM then (a >>= fun d => match getK k (T.map fun p => kyI p.1) (T.map fun p => D.lst (p.2.map rowD)) with
    | some (.lst es) => if es.length < LIM then R.ok (Fl.nx (ρ.set i (some (.dt (T.map fun p => kyI p.1) (sdGo k d (T.map fun p => kyI p.1) (T.map fun p => D.lst (p.2.map rowD))))))) else .stuck
    | some _ => .stuck
    | none => .ok (.nx (ρ.set i (some (.dt ((T.map fun p => kyI p.1) ++ [k]) ((T.map fun p => D.lst (p.2.map rowD)) ++ [.lst [d]])))))) else .stuck) = _
  rw [hk, ok_bind, tkey_row, calm_ok, ok_bind, if_pos (by rw [List.length_map]; exact hl), ha, ok_bind, getK_tab]
  cases hf : T.find? fun p => decide (p.1 = f) with
  | none =>
    have h2 := h2 hf
    rw [h2]
    simp [tabD]
  | some p =>
    obtain ⟨h3, h4⟩ := h1 (by rw [hf]; rfl)
    have hp := hs p (List.mem_of_find?_eq_some hf)
    show (if (p.2.map rowD).length < LIM then R.ok (Fl.nx (ρ.set i (some (.dt (T.map fun p => kyI p.1) (sdGo (kyI f) (rowD r) (T.map fun p => kyI p.1) (T.map fun p => D.lst (p.2.map rowD))))))) else .stuck) = _
    rw [if_pos (by rw [List.length_map]; exact hp)]
    unfold tabD
    rw [h3, h4]
/-! #### counts -/
def addC (f : List Int) : List (List Int × Int) → List (List Int × Int)
  | [] => [(f, 1)]
  | p :: C => if p.1 = f then (p.1, p.2 + 1) :: C else p :: addC f C
def cntD (C : List (List Int × Int)) : D := .dt (C.map fun p => kyI p.1) (C.map fun p => .int p.2)
def sizes (T : List (List Int × List (List Int))) : List (List Int × Int) := T.map fun p => (p.1, (p.2.length : Int))
theorem addC_sizes (f r : List Int) : ∀ T, addC f (sizes T) = sizes (addT f r T)
  | [] => by simp [sizes, addC, addT]
  | p :: T => by
    have ih := addC_sizes f r T
    unfold sizes at ih ⊢
    simp only [List.map_cons, addC, addT]
    split
    · simp
    · rw [ih]
      rfl
def getC (f : List Int) (C : List (List Int × Int)) : Option Int := (C.find? fun p => decide (p.1 = f)).map (·.2)
theorem getK_cnt (f : List Int) : ∀ C : List (List Int × Int), getK (kyI f) (C.map fun p => kyI p.1) (C.map fun p => D.int p.2) = (getC f C).map D.int
  | [] => rfl
  | p :: C => by
    unfold getC
    simp only [List.map_cons, getK, List.find?_cons]
    by_cases h : p.1 = f
    · rw [if_pos (kyI_inj.mpr h), decide_eq_true h]
      rfl
    · rw [if_neg fun e => h (kyI_inj.mp e), decide_eq_false h, getK_cnt f C]
      rfl
theorem look_cnt (f : List Int) (C : List (List Int × Int)) : lookD (cntD C) (rowD f) = some ((getC f C).map D.int) := by
  rw [← getK_cnt]
  show (keysD (f.map D.int)).map _ = _
  rw [keysD_ints]
  rfl
theorem mem_cnt (f : List Int) (C : List (List Int × Int)) : kyI f ∈ C.map (fun p => kyI p.1) ↔ (getC f C).isSome := by
  induction C with
  | nil => simp [getC]
  | cons p C ih =>
    unfold getC at ih ⊢
    rw [List.map_cons, List.mem_cons, ih, List.find?_cons]
    by_cases h : p.1 = f
    · rw [decide_eq_true h, h]
      simp
    · rw [decide_eq_false h]
      constructor
      · rintro (e | e)
        · exact absurd (kyI_inj.mp e).symm h
        · exact e
      · exact .inr
theorem putC (f : List Int) : ∀ (C : List (List Int × Int)), (C.map fun p => p.1).Nodup → putKs (kyI f) (C.map fun p => kyI p.1) = (addC f C).map (fun p => kyI p.1) ∧ putKd (kyI f) (.int ((getC f C).getD 0 + 1)) (C.map fun p => kyI p.1) (C.map fun p => D.int p.2) = (addC f C).map fun p => D.int p.2
  | [], _ => by simp [putKs, putKd, addC, getC]
  | p :: C, hn => by
    rw [List.map_cons, List.nodup_cons] at hn
    obtain ⟨h1, h2⟩ := putC f C hn.2
    unfold putKs at h1
    unfold putKd at h2
    unfold putKs putKd
    by_cases h : p.1 = f
    · have hc : getC f (p :: C) = some p.2 := by
        unfold getC
        rw [List.find?_cons, decide_eq_true h]
        rfl
      have hm : kyI f ∈ (p :: C).map (fun p => kyI p.1) := by
        rw [mem_cnt, hc]
        rfl
      have hno : ∀ C' : List (List Int × Int), f ∉ C'.map (fun p => p.1) → ∀ d : D, repK (kyI f) d (C'.map fun p => kyI p.1) (C'.map fun p => D.int p.2) = C'.map fun p => D.int p.2 := by
        intro C'
        induction C' with
        | nil => intro _ d; rfl
        | cons q C' ih =>
          intro hq d
          simp only [List.map_cons, List.mem_cons, not_or] at hq
          simp only [List.map_cons, repK]
          rw [if_neg fun e => hq.1 (kyI_inj.mp e).symm, ih hq.2 d]
      rw [if_pos hm, if_pos hm, hc]
      simp only [List.map_cons, repK, addC, if_pos h, if_pos (kyI_inj.mpr h)]
      rw [hno C (h ▸ hn.1)]
      exact ⟨trivial, rfl⟩
    · have hc : getC f (p :: C) = getC f C := by
        unfold getC
        rw [List.find?_cons, decide_eq_false h]
      have hk : ¬ kyI p.1 = kyI f := fun e => h (kyI_inj.mp e)
      rw [hc]
      by_cases hm : kyI f ∈ C.map (fun p => kyI p.1)
      · have hm1 : kyI f ∈ (p :: C).map (fun p => kyI p.1) := List.mem_cons_of_mem _ hm
        rw [if_pos hm] at h1 h2
        rw [if_pos hm1, if_pos hm1]
        simp only [List.map_cons, addC, if_neg h, repK]
        rw [if_neg hk, h2, ← h1]
        exact ⟨rfl, rfl⟩
      · rw [if_neg hm] at h1 h2
        have hm2 : kyI f ∉ (p :: C).map (fun p => kyI p.1) := fun e => by
          rcases List.mem_cons.mp e with e | e
          · exact hk e.symm
          · exact hm e
        rw [if_neg hm2, if_neg hm2]
        simp only [List.map_cons, addC, if_neg h]
        rw [← h1, ← h2]
        exact ⟨rfl, rfl⟩
theorem addT_keys (f r : List Int) : ∀ T, (T.map fun p => p.1).Nodup → ((addT f r T).map fun p => p.1).Nodup ∧ ∀ g, g ∈ (addT f r T).map (fun p => p.1) ↔ g = f ∨ g ∈ T.map fun p => p.1
  | [], _ => by simp [addT]
  | p :: T, hn => by
    rw [List.map_cons, List.nodup_cons] at hn
    obtain ⟨h1, h2⟩ := addT_keys f r T hn.2
    simp only [addT]
    by_cases h : p.1 = f
    · rw [if_pos h]
      simp only [List.map_cons, List.nodup_cons, List.mem_cons]
      refine ⟨⟨hn.1, hn.2⟩, fun g => ?_⟩
      rw [h]
      constructor
      · rintro (e | e)
        · exact .inl e
        · exact .inr (.inr e)
      · rintro (e | e | e)
        · exact .inl e
        · exact .inl e
        · exact .inr e
    · rw [if_neg h]
      simp only [List.map_cons, List.nodup_cons, List.mem_cons]
      refine ⟨⟨fun e => ?_, h1⟩, fun g => ?_⟩
      · rcases (h2 _).mp e with e | e
        · exact h e
        · exact hn.1 e
      · rw [h2]
        constructor
        · rintro (e | e | e)
          · exact .inr (.inl e)
          · exact .inl e
          · exact .inr (.inr e)
        · rintro (e | e | e)
          · exact .inr (.inl e)
          · exact .inl e
          · exact .inr (.inr e)
theorem tabF_keys (ps : List (List Int × List Int)) : ((tabF ps).map fun p => p.1).Nodup := by
  have : ∀ n, n ≤ ps.length → ((tabF (ps.take n)).map fun p => p.1).Nodup := by
    intro n
    induction n with
    | zero => intro _; simp [tabF]
    | succ n ih =>
      intro h
      rw [List.take_succ_eq_append_getElem (by omega), tabF_snoc]
      exact (addT_keys _ _ _ (ih (by omega))).1
  have h := this ps.length (Nat.le_refl _)
  rwa [List.take_length] at h
/-- d[k] = d.get(k, 0) + 1 -/
theorem dput_cnt {M : List Nat} {i : Nat} {ρ : Env} {a k : R D} {f : List Int} {C : List (List Int × Int)} (hg : get ρ i = .ok (cntD C)) (hr : k = .ok (rowD f)) (ha : a = .ok (.int ((getC f C).getD 0 + 1))) (hk : keepOk M ρ (.int ((getC f C).getD 0 + 1)) = true) (hl : C.length < LIM) (hn : (C.map fun p => p.1).Nodup) :
    dputS M i ρ a k = .ok (.nx (ρ.set i (some (cntD (addC f C))))) := by
  obtain ⟨h1, h2⟩ := putC f C hn
  unfold dputS
  rw [ha, ok_bind, if_pos hk, hg, calm_ok, ok_bind, hr, ok_bind]
  show (match keysD (f.map D.int) with
    | some k => if (C.map fun (p : List Int × Int) => kyI p.1).length < LIM then R.ok (Fl.nx (ρ.set i (some (.dt (putKs k (C.map fun (p : List Int × Int) => kyI p.1)) (putKd k (.int ((getC f C).getD 0 + 1)) (C.map fun (p : List Int × Int) => kyI p.1) (C.map fun (p : List Int × Int) => D.int p.2)))))) else .stuck
    | none => .stuck) = _
  rw [keysD_ints]
  show (if (C.map fun (p : List Int × Int) => kyI p.1).length < LIM then R.ok (Fl.nx (ρ.set i (some (.dt (putKs (kyI f) (C.map fun (p : List Int × Int) => kyI p.1)) (putKd (kyI f) (.int ((getC f C).getD 0 + 1)) (C.map fun (p : List Int × Int) => kyI p.1) (C.map fun (p : List Int × Int) => D.int p.2)))))) else .stuck) = _
  rw [if_pos (by rw [List.length_map]; exact hl), h1, h2]
  rfl
/-- d.get(k, 0) -/
theorem get_cnt {f : List Int} {C : List (List Int × Int)} : og2 dgetE (.ok (cntD C)) (.ok (rowD f)) (.ok (.int 0)) = .ok (.int ((getC f C).getD 0)) := by
  show calm (dgetE (cntD C) (rowD f) (.int 0)) = _
  unfold dgetE
  rw [look_cnt]
  cases getC f C with
  | none => rfl
  | some z => rfl
/-! #### what is read of the tables -/
theorem keyDD_ky (f : List Int) : (D.tup ((kyI f).map keyDD)) = rowD f := by
  unfold kyI rowD
  rw [List.map_map]
  rfl
theorem keysI_tab (T : List (List Int × List (List Int))) : keysI (tabD T) = .ok (T.map fun p => rowD p.1) := by
  show R.ok ((T.map fun p => kyI p.1).map fun k => D.tup (k.map keyDD)) = _
  rw [List.map_map]
  refine congrArg R.ok (List.map_congr_left fun p _ => ?_)
  exact keyDD_ky p.1
theorem keysI_cnt (C : List (List Int × Int)) : keysI (cntD C) = .ok (C.map fun p => rowD p.1) := by
  show R.ok ((C.map fun p => kyI p.1).map fun k => D.tup (k.map keyDD)) = _
  rw [List.map_map]
  refine congrArg R.ok (List.map_congr_left fun p _ => ?_)
  exact keyDD_ky p.1
theorem find_self {β : Type} : ∀ (T : List (List Int × β)), (T.map fun p => p.1).Nodup → ∀ p ∈ T, (T.find? fun q => decide (q.1 = p.1)) = some p
  | q :: T, hn, p, hp => by
    rw [List.map_cons, List.nodup_cons] at hn
    rw [List.find?_cons]
    by_cases h : q.1 = p.1
    · rw [decide_eq_true h]
      rcases List.mem_cons.mp hp with rfl | hp
      · rfl
      · exact absurd (h ▸ List.mem_map.mpr ⟨p, hp, rfl⟩) hn.1
    · rw [decide_eq_false h]
      rcases List.mem_cons.mp hp with rfl | hp
      · exact absurd rfl h
      · exact find_self T hn.2 p hp
theorem at_tab {T : List (List Int × List (List Int))} (hn : (T.map fun p => p.1).Nodup) {p : List Int × List (List Int)} (hp : p ∈ T) : ixA (tabD T) (rowD p.1) = .ok (.lst (p.2.map rowD)) := by
  have h : lookD (tabD T) (rowD p.1) = some (some (.lst (p.2.map rowD))) := by
    show (keysD (p.1.map D.int)).map (fun k => getK k (T.map fun p => kyI p.1) (T.map fun p => D.lst (p.2.map rowD))) = _
    rw [keysD_ints]
    show some (getK (kyI p.1) (T.map fun p => kyI p.1) (T.map fun p => D.lst (p.2.map rowD))) = _
    rw [getK_tab, find_self T hn p hp]
    rfl
  show dgetD (tabD T) (rowD p.1) = _
  unfold dgetD
  rw [h]
theorem at_cnt {C : List (List Int × Int)} (hn : (C.map fun p => p.1).Nodup) {p : List Int × Int} (hp : p ∈ C) : ixA (cntD C) (rowD p.1) = .ok (.int p.2) := by
  have h := look_cnt p.1 C
  unfold getC at h
  rw [find_self C hn p hp] at h
  show dgetD (cntD C) (rowD p.1) = _
  unfold dgetD
  rw [h]
  rfl
theorem sizes_keys (T : List (List Int × List (List Int))) : (sizes T).map (fun p => p.1) = T.map fun p => p.1 := by
  unfold sizes
  rw [List.map_map]
  rfl
/-- [k for k in d ..] -/
theorem lcK_map {α : Type} {i : Nat} {vs : List Nat} {ag : D → R As} {mt : Env → R Bool} {me : Env → R D} {ρ : Env} {d : D} (emb : α → D) (f : α → Bool) (v : α → D) (xs : List α) (hg : get ρ i = .ok d) (hk : keysI d = .ok (xs.map emb)) (hl : xs.length ≤ LIM)
    (h : ∀ x ∈ xs, ∃ as, ag (emb x) = .ok as ∧ mt (setE (wipeE ρ vs) as) = .ok (f x) ∧ (f x = true → me (setE (wipeE ρ vs) as) = .ok (v x))) : lcK i vs ag mt me ρ = .ok (.lst ((xs.filter f).map v)) := by
  unfold lcK
  rw [hg, ok_bind, hk, calm_ok, ok_bind, if_pos (by rw [List.length_map]; exact hl), lcGo_map emb f v xs h, calm_ok, ok_bind]
  rfl
theorem facePairs_snoc (Q : List (List Int)) (r : List Int) : facePairs (Q ++ [r]) = facePairs Q ++ (facesP r).map fun f => (f, r) := by
  unfold facePairs
  rw [List.flatMap_append]
  simp
theorem facesP_len (r : List Int) : (facesP r).length = r.length := by simp [facesP]
theorem facePairs_len (n : Nat) : ∀ Q : List (List Int), (∀ r ∈ Q, r.length ≤ n) → (facePairs Q).length ≤ n * Q.length
  | [], _ => by simp [facePairs]
  | r :: Q, h => by
    have ih := facePairs_len n Q fun q hq => h q (List.mem_cons_of_mem _ hq)
    have h0 := h r List.mem_cons_self
    unfold facePairs at ih ⊢
    rw [List.flatMap_cons, List.length_append, List.length_map, facesP_len, List.length_cons, Nat.mul_succ]
    omega
def bookI (n s : Int) (Q : List (List Int)) : D := .obj "Book" ["places", "size", "rooms", "_known"] [.int n, .int s, .tup (Q.map rowD), .dt (Q.map kyI) (Q.map fun _ => .bl true)]
end DL
namespace DL
open PySem PySem.Spec L2

/-! ### operators that a class of the text's own has -/
theorem inst_at {X : Cx} {pins : List (Addr × Obj)} {σ : L2.St} {H : Hp} {s : Shared} {a C dx : Addr} {fs : List (Str × V)} (I : L2.Inv X pins σ H s) (e : H a = some (.ins C dx fs)) : ∃ ox od, PySem.W.InstAt s.heap a ox C od := by
  obtain ⟨h1, _, _, h4, _⟩ := I.hok a _ e
  obtain ⟨o, h6⟩ := I.hok dx _ h1
  exact ⟨PySem.W.instObj C dx, some o, h4, rfl, rfl, h6⟩
theorem cmpBack_of {Q : Value → Shared → Prop} {v : V} {r : Value} {s' : Shared} (h : RelV v r) (hq : Q r s') : PySem.W.CmpBack Q r s' := by
  cases v with
  | non => obtain rfl : r = .none := h; exact hq
  | bl b => obtain rfl : r = .bool b := h; exact hq
  | int i => obtain ⟨t, rfl⟩ := h; exact hq
  | str i => obtain ⟨t, rfl⟩ := h; exact hq
  | byt i => obtain ⟨t, rfl⟩ := h; exact hq
  | flt i => obtain ⟨t, rfl⟩ := h; exact hq
  | ref a => obtain rfl : r = .ref a := h; exact hq
  | ty n => obtain rfl : r = .type n := h; exact hq
/-- a def called from elsewhere in the same frame -/
theorem run_fnA {X : Cx} {CX : CXT} {A : Around} {k : Nat} {f : Addr} {fd : FuncData} {ps : List Str} {sp : Sp} {E : XS} {pins : List (Addr × Obj)} {σ : L2.St} {H : Hp} {s : Shared} {Q : VK} {us : List Value} {vs : List V} (hA : A.frames = X.A.frames) (F : FnOk X.prog X.w X.K X.mg X.base CX k f fd ps sp) (hr : Room k A) (hb : Binds X.K fd ps [])
    (hx : PassesAt CX X σ (E σ)) (I : L2.Inv X pins σ H s) (r : Vals vs us) (h : sp vs H Q (E σ)) : wpAny (model X.prog X.w) A (call (Value.ref f) us) (EP X pins σ Q) X.xe s := by
  have hl : us.length = ps.length := (Vals.length r).symm.trans (F.len vs H Q (E σ) h)
  have b := hb s us I.kIn (by rw [List.append_nil]; exact hl)
  rw [List.append_nil] at b
  have e0 := I.env0
  have e1 : Env0 X.prog X.w X.K X.mg X.base A X.stack s H := ⟨hA.trans e0.frames, e0.mod, e0.bs, e0.bsz, e0.funs, e0.frf, e0.hok, e0.bare⟩
  refine wpAny_call (codeAny_mono (F.run A X.stack s H ⟨us, []⟩ us vs Q (E σ) hr e1 b r h) fun r s' hq => ?_)
  cases r with
  | error e => exact hx pins H s e s' I hq
  | ok fl =>
    cases fl with
    | ret u => exact Inv.after I hq
    | _ => exact hq.elim
def opOf {α : Type} (n : Str) : List (Str × α) → Option α
  | [] => none
  | p :: t => if p.1 = n then some p.2 else opOf n t
structure OpsAt (P : Program) (w : World) (K : PySem.W.Frag) (mg : Str → Option Value) (base : Heap) (m : Str) (j na : Nat) (tab : List (Str × (List D → R D))) : Prop where
  at_ : ∀ n g, opOf n tab = some g → ∃ C k, k ≤ j ∧ MtAt P w K mg base n C m k na g ∧ PySem.W.selfFirst K C = true
section
variable {P : Program} {w : World} {K : PySem.W.Frag} {mg : Str → Option Value} {base : Heap} {m n : Str} {j k na : Nat} {tab : List (Str × (List D → R D))} {g : List D → R D} {C : Addr}
theorem OpsAt.nil : OpsAt P w K mg base m j na [] := ⟨fun n g h => by cases h⟩
theorem OpsAt.cons (F : MtAt P w K mg base n C m k na g) (sf : PySem.W.selfFirst K C = true) (hk : k ≤ j) (T : OpsAt P w K mg base m j na tab) : OpsAt P w K mg base m j na ((n, g) :: tab) := ⟨fun n' g' h => by
  have h : (if n = n' then some g else opOf n' tab) = some g' := h
  by_cases e : n = n'
  · rw [if_pos e] at h
    cases h
    subst e
    exact ⟨C, k, hk, F, sf⟩
  · rw [if_neg e] at h
    exact T.at_ n' g' h⟩
end
/-- a * b, a == b: both of one class -/
def o2G (tab : List (Str × (List D → R D))) : D → D → R D
  | .obj n ks ds, .obj n2 ls es => if n2 = n then (match opOf n tab with | some g => g [.obj n ks ds, .obj n2 ls es] | none => .stuck) else .stuck
  | _, _ => .stuck
def o2T (tab : List (Str × (List D → R D))) (a b : R D) : R D := a >>= fun x => b >>= fun y => o2G tab x y
def tOwn2 (K : PySem.W.Frag) (mg : Str → Option Value) (E : XS) (tab : List (Str × (List D → R D))) (ta tb : TE) : TE := fun σ H Q => ta σ H fun x H1 => tb σ H1 fun y H2 => ∃ n g C a b dx dy fs gs, opOf n tab = some g ∧ mg n = some (.ref C) ∧ x = .ref a ∧ y = .ref b ∧ H2 a = some (.ins C dx fs) ∧ H2 b = some (.ins C dy gs) ∧ spOf K (g0 mg) 2 g [x, y] H2 Q (E σ)
section
variable {X : Cx} {P : Program} {w : World} {K : PySem.W.Frag} {mg : Str → Option Value} {base : Heap} {m n : Str} {j na : Nat} {tab : List (Str × (List D → R D))} {a b : Expr} {pos : Pos} {ta tb : TE} {ma mb : Env → R D}
theorem own2_run {E : XS} {pins : List (Addr × Obj)} {σ : L2.St} {H2 : Hp} {s2 : Shared} {v u : Value} {x y : V} {Q : VK} {F : Value → Value → Sem Value} (T : OpsAt X.prog X.w X.K X.mg X.base m j 2 tab) (hr : Room j X.A) (hx : ∀ σ, PassesAt (L2.CX X.prog X.w) X σ (E σ)) (I2 : L2.Inv X pins σ H2 s2) (rx : RelV x v) (ry : RelV y u)
    (q : ∃ n g C a b dx dy fs gs, opOf n tab = some g ∧ X.mg n = some (.ref C) ∧ x = .ref a ∧ y = .ref b ∧ H2 a = some (.ins C dx fs) ∧ H2 b = some (.ins C dy gs) ∧ spOf X.K (g0 X.mg) 2 g [x, y] H2 Q (E σ))
    (run : ∀ {C a b f : Addr} {ox oy : Obj} {od oe : Option Obj} {m' : Str → Option Value}, PyProof.Rows.Fr X.base X.env.locals s2.heap m' → X.K.In X.base → PySem.W.InstAt s2.heap a ox C od → PySem.W.InstAt s2.heap b oy C oe → PySem.W.selfFirst X.K C = true → PySem.W.findIn X.K (.ref C) m = some (some (.ref f)) → PySem.W.isFn X.K (.ref f) = true →
      wpAny (model X.prog X.w) X.A (call (.ref f) [.ref a, .ref b]) (PySem.W.CmpBack (EP X pins σ Q)) X.xe s2 → wpAny (model X.prog X.w) X.A (F (.ref a) (.ref b)) (EP X pins σ Q) X.xe s2) :
    wpAny (model X.prog X.w) X.A (F v u) (EP X pins σ Q) X.xe s2 := by
  obtain ⟨n, g, C, a', b', dx, dy, fs, gs, ho, hC, rfl, rfl, ha, hb, hs⟩ := q
  obtain rfl : v = .ref a' := rx
  obtain rfl : u = .ref b' := ry
  obtain ⟨C', k, hk, F1, sf⟩ := T.at_ n g ho
  obtain ⟨f, fd, ps, hC', c, hm, F2, hbd⟩ := F1.ex
  have e1 : C = C' := by
    have z := hC.symm.trans hC'
    cases z
    rfl
  subst e1
  obtain ⟨m', fr⟩ := I2.fr
  obtain ⟨ox, od, i1⟩ := inst_at I2 ha
  obtain ⟨oy, oe, i2⟩ := inst_at I2 hb
  exact run fr I2.ok.mod.kin i1 i2 sf hm.at_ hm.fn (thn (run_fnS F2 (hr.mono hk) hbd (hx σ) I2 (Paired.cons (show RelV (.ref a') (.ref a') from rfl) (Paired.cons (show RelV (.ref b') (.ref b') from rfl) .nil)) hs) fun r s' hh => by
    obtain ⟨v, H', I', rv, hq⟩ := hh
    exact cmpBack_of rv ⟨v, H', I', rv, hq⟩)
theorem pe_binO {op : Operator} {E : XS} (T : OpsAt X.prog X.w X.K X.mg X.base (dunder op.info.2) j 2 tab) (hr : Room j X.A) (hx : ∀ σ, PassesAt (L2.CX X.prog X.w) X σ (E σ)) (pa : PE X a ta) (pb : PE X b tb) : PE X (.BinOp a op b pos) (tOwn2 X.K X.mg E tab ta tb) :=
  ⟨fun pins s σ H Q I h => wpAny_BinOp (binT pa pb I h fun v u s2 x y H2 I2 rx ry q => own2_run T hr hx I2 rx ry q fun fr kin i1 i2 sf ha hf h => PySem.W.binop_K fr kin i1 (PySem.W.InstAt.type i2) sf ha hf h)⟩
theorem pe_eqO {E : XS} (T : OpsAt X.prog X.w X.K X.mg X.base "__eq__" j 2 tab) (hr : Room j X.A) (hx : ∀ σ, PassesAt (L2.CX X.prog X.w) X σ (E σ)) (pa : PE X a ta) (pb : PE X b tb) (hm : behindInMarks .Eq b = false := by exact nomark _) : PE X (.Compare a [.Eq] [b] pos) (tOwn2 X.K X.mg E tab ta tb) :=
  ⟨fun pins s σ H Q I h => wpAny_Compare1 (binT pa pb I h fun v u s2 x y H2 I2 rx ry q => own2_run (F := fun v u => compareOp .Eq v u) T hr hx I2 rx ry q fun {C} {a} {b} {f} {ox} {oy} {od} {oe} {m'} fr kin i1 i2 sf ha hf h => PySem.W.cmp_K (op := .Eq) (by have := hr.un; omega) fr kin i1 (PySem.W.InstAt.type i2) (by simp [PySem.W.notFirst]) ha hf h) hm⟩
theorem own2_sn {E : Wh} (sa : Sn X.K (gm X E) E.e (Rep X.K (gm X E)) ta ma) (sb : Sn X.K (gm X E) E.e (Rep X.K (gm X E)) tb mb) (h0 : E.x = fun _ => none) : Sn X.K (gm X E) E.e (Rep X.K (gm X E)) (tOwn2 X.K X.mg E.e tab ta tb) (fun ρ => o2T tab (ma ρ) (mb ρ)) := by
  obtain ⟨E1, E2⟩ := E
  have h0 : E2 = fun _ => none := h0
  subst h0
  intro σ I H ρ Q re ex h
  refine sa.run re ex h fun d v I1 H1 _ s1 rx h => ?_
  refine sb.run (re.mono s1.i) s1.e h fun d2 v2 I2 H2 _ s2 ry h => ?_
  have rx := rx.mono s2.i
  cases rx with
  | @obj a C dx n fs ds ha hc ra =>
    cases ry with
    | @obj b C2 dy n2 gs es hb hc2 rb =>
      have h : Out X.K (g0 X.mg) (E1 σ) (Rep X.K (g0 X.mg)) I2 H2 (if n2 = n then (match opOf n tab with | some g => g [.obj n (fs.map (·.1)) ds, .obj n2 (gs.map (·.1)) es] | none => .stuck) else .stuck) Q := h
      obtain ⟨hn, h⟩ := out_if h
      subst hn
      cases ho : opOf n2 tab with
      | none =>
        rw [ho] at h
        exact h.elim
      | some g =>
        rw [ho] at h
        have e1 : C2 = C := by
          have z := hc2.symm.trans hc
          cases z
          rfl
        subst e1
        exact ⟨n2, g, C2, a, b, dx, dy, fs, gs, ho, hc, rfl, rfl, s2.e _ _ ha, s2.e _ _ hb, I2, [_, _], rfl, s2.e, .cons (Rep.obj ha hc ra) (.cons (Rep.obj hb hc2 rb) .nil), h⟩
    | _ => exact h.elim
  | _ => exact h.elim
theorem me_binO {op : Operator} {E : Wh} (T : OpsAt P w K mg base (dunder op.info.2) j 2 tab) (hr : Room j X.A) (hx : ∀ σ, PassesAt (L2.CX X.prog X.w) X σ (E.e σ)) (ha : ME X E a ta ma) (hb : ME X E b tb mb) (h0 : E.x = fun _ => none := by rfl) (hP : X.prog = P := by rfl) (hw : X.w = w := by rfl) (hK : X.K = K := by rfl) (hmg : X.mg = mg := by rfl) (hbs : X.base = base := by rfl) :
    ME X E (.BinOp a op b pos) (tOwn2 K mg E.e tab ta tb) (fun ρ => o2T tab (ma ρ) (mb ρ)) := by
  subst hP hw hK hmg hbs
  exact ⟨pe_binO T hr hx ha.pe hb.pe, own2_sn ha.sn hb.sn h0⟩
theorem me_eqO {E : Wh} (T : OpsAt P w K mg base "__eq__" j 2 tab) (hr : Room j X.A) (hx : ∀ σ, PassesAt (L2.CX X.prog X.w) X σ (E.e σ)) (ha : ME X E a ta ma) (hb : ME X E b tb mb) (h0 : E.x = fun _ => none := by rfl) (hm : behindInMarks .Eq b = false := by exact nomark _) (hP : X.prog = P := by rfl) (hw : X.w = w := by rfl) (hK : X.K = K := by rfl) (hmg : X.mg = mg := by rfl) (hbs : X.base = base := by rfl) :
    ME X E (.Compare a [.Eq] [b] pos) (tOwn2 K mg E.e tab ta tb) (fun ρ => o2T tab (ma ρ) (mb ρ)) := by
  subst hP hw hK hmg hbs
  exact ⟨pe_eqO T hr hx ha.pe hb.pe hm, own2_sn ha.sn hb.sn h0⟩
end
end DL
namespace DL
open PySem PySem.Spec L2

/-! ### a def whose promise speaks of the state it is called in -/
def FnS (P : Program) (w : World) (K : PySem.W.Frag) (mg : Str → Option Value) (base : Heap) (CX : CXT) (k : Nat) (f : Addr) (fd : FuncData) (ps : List Str) (sp : Shared → Sp) : Prop :=
  ∀ (A : Around) (outer : List PySem.Env) (s : Shared) (H : Hp) (args : Args) (us : List Value) (vs : List V) (Q : VK) (E : XK), Room k A → Env0 P w K mg base A outer s H → BindsTo s fd args (ps.zip us) → Vals vs us → sp s vs H Q E → codeAny (model P w) A (Code.call (Value.ref f) args) (CR CX outer P w H s Q E) s
theorem fn_ofS {CX : CXT} {P : Program} {w : World} {K : PySem.W.Frag} {mg : Str → Option Value} {base : Heap} {k : Nat} {f : Addr} {name qual : Str} {params : Arguments} {body : List Stmt} {scope : Scope} {dV kV doc pm cdv ct oc : Value} {an od : Option Addr} {osl : Array (Option Value)} {N ps : List Str} {sp : Shared → Sp}
    (lk : List.lookup f K = some { cls := oc, dict := od, data := Data.func (PySem.W.fnOf name qual params body scope dV kV doc pm an cdv ct), slots := osl }) (hcd : PySem.W.codeIn K cdv qual = true) (S : FnScope N ps scope) (len : ∀ s vs H Q E, sp s vs H Q E → vs.length = ps.length)
    (hbody : ∀ (A : Around) (outer : List PySem.Env) (s : Shared) (H : Hp) (vs : List V) (Q : VK) (E : XK), Room k (A.deeper (PyProof.Rows.envOfC qual scope s.heap.objs.size f cdv)) → sp s vs H Q E → ∃ t, PSs (cxOf CX P w K mg base N qual scope f cdv A outer s H E) body t ∧ t { nx := fun x H' => Q V.non H', rt := Q } (L2.start N vs) H) :
    FnS P w K mg base CX (k + 1) f (PySem.W.fnOf name qual params body scope dV kV doc pm an cdv ct) ps sp := by
  intro A outer s H args us vs Q E hr e0 hb r hsp
  have hl := len s vs H Q E hsp
  have KX := PySem.W.Frag.In.keeps e0.mod.kin fun b o e => (e0.bs b o e).1
  have lim := Heap.NoLimit.keeps e0.mod.nolimit fun b o e => (e0.bs b o e).1
  refine codeAny_call_function (Room.depth hr) (KX f _ lk) rfl S.co S.gen rfl (PySem.W.codeRec_of KX hcd) (hb (model P w) A.in1 _ _ ?_)
  refine wpAny_newFunctionEnv_cells S.kind (fun x hy => by
    obtain ⟨n, v⟩ := x
    rcases S.par n (List.of_mem_zip hy).1 with q | q
    · exact .inl q
    · exact .inr ⟨q, PySem.W.cellsFrom_some scope.names (s.heap.objs.size + 1) [] (Or.inl q)⟩) fun env he s1 x => ?_
  subst he
  refine ⟨Heap.NoLimit.keeps lim x.toInCall.keep, codeAny_func ?_⟩
  obtain ⟨t, ht, hq⟩ := hbody A outer s H vs Q E (Room.deeper hr (PyProof.Rows.envOfC qual scope s.heap.objs.size f cdv)) hsp
  have I := inv_start (CX := CX) (E := E) S hr.hd e0 hl r x
  refine wpAny_mono (ht.run [] s1 (L2.start N vs) H { nx := fun x H' => Q V.non H', rt := Q } I hq) (fun fl s' hs => ?_) fun e s' hs => hs
  cases fl with
  | next =>
    obtain ⟨σ', H', J, q⟩ := hs
    exact ⟨V.non, H', J.os, J.bare, J.base, J.hok, rfl, q⟩
  | brk =>
    obtain ⟨_, _, _, q⟩ := hs
    exact q.elim
  | cont =>
    obtain ⟨_, _, _, q⟩ := hs
    exact q.elim
  | ret u =>
    obtain ⟨v, σ', H', J, rv, q⟩ := hs
    exact ⟨v, H', J.os, J.bare, J.base, J.hok, rv, q⟩
/-! ### objects of the text's own, walked by their __iter__ -/
abbrev tupIt (l : Addr) : Obj := { cls := Value.type "tuple_iterator", data := Data.fields #[Value.ref l, Value.int 0 0] }
def ItT (l it : Addr) : HO := .ext fun h => h.get? it = some (tupIt l)
theorem itT_ok {l it : Addr} {P : Program} {w : World} {H : Hp} {h : Heap} (e : h.get? it = some (tupIt l)) : ObjOk P w H h it (ItT l it) :=
  ⟨e, ⟨_, e⟩, fun h1 h2 e1 k => k _ e1⟩
theorem call_iter_tup {prog : Program} {w : World} {A : Around} {E : Value → Shared → Prop} {s : Shared} {l : Addr} {items : Array Value} {Q : Value → Shared → Prop} (ht : s.heap.IsTuple l items)
    (h : Q (Value.ref s.heap.objs.size) { heap := s.heap.push (tupIt l), gens := s.gens, drawn := s.drawn, toks := s.toks, os := s.os }) : wpAny (model prog w) A (call (Value.builtin "iter") [Value.ref l]) Q E s :=
  Calls.call_function_entry (by decide +kernel) (by decide +kernel) PySem.W.kdk_entry_iter (PySem.W.kdk_args_iter (Value.ref l))
    (id (wpAny_bind (wpAny_of_eq (Eq.refl (someArgs "iter" 1 2 { pos := [Value.ref l] })) (id (wpAny_bind (wpAny_pyIter_tuple ht (wpAny_pure ⟨_, rfl, h⟩)))))))
def rIterT (K : PySem.W.Frag) (n : Nat) : List V → Hp → VK → Prop := fun xs H Q => ∃ (l : Addr) (zs : List V), xs = [.ref l] ∧ SqT K H l zs ∧ ∀ it, H it = none → n ≤ it → Q (.ref it) (upd H it (ItT l it))
theorem call_iterT {X : Cx} : CallR X (Value.builtin "iter") (rIterT X.K X.s_0.heap.objs.size) := by
  intro pins s σ H xs us Q I r h
  obtain ⟨l, zs, rfl, hq, q⟩ := h
  obtain rfl := Vals.ref1 r
  obtain ⟨its, rv, pl, hz⟩ := Inv.tuple I hq
  refine call_iter_tup (items := its.toArray) pl ?_
  exact ⟨V.ref s.heap.objs.size, upd H s.heap.objs.size (ItT l s.heap.objs.size), Inv.laid I (fun b u e => Heap.get?_push_of_some (tupIt l) e) (Nat.le_refl s.heap.objs.size) (itT_ok (Heap.get?_push_size s.heap rfl)), rfl, q s.heap.objs.size (HOk.fresh I.hok (Nat.le_refl s.heap.objs.size)) (Inv.sz I)⟩
/-- what __iter__ promises: the iterator of the field, new -/
def spIt (K : PySem.W.Frag) (C : Addr) (F : Str) (s : Shared) : Sp := fun vs H Q _ => ∃ a dx fs l zs, vs = [.ref a] ∧ H a = some (.ins C dx fs) ∧ fs.lookup F = some (.ref l) ∧ SqT K H l zs ∧ ∀ it, H it = none → s.heap.objs.size ≤ it → Q (.ref it) (upd H it (ItT l it))
structure ItAt (P : Program) (w : World) (K : PySem.W.Frag) (mg : Str → Option Value) (base : Heap) (n F : Str) (k : Nat) : Prop where
  ex : ∃ C f fd ps, mg n = some (.ref C) ∧ Meth K C "__iter__" f ∧ ps.length = 1 ∧ FnS P w K mg base (L2.CX P w) k f fd ps (spIt K C F) ∧ Binds K fd ps []
structure ItsAt (P : Program) (w : World) (K : PySem.W.Frag) (mg : Str → Option Value) (base : Heap) (j : Nat) (tab : List (Str × Str)) : Prop where
  at_ : ∀ n F, opOf n tab = some F → ∃ k, k ≤ j ∧ ItAt P w K mg base n F k
def iOwn (K : PySem.W.Frag) (mg : Str → Option Value) (tab : List (Str × Str)) (t : TE) : TI := fun σ H R => t σ H fun x H1 => ∃ n F C a dx fs l zs, opOf n tab = some F ∧ mg n = some (.ref C) ∧ x = .ref a ∧ H1 a = some (.ins C dx fs) ∧ fs.lookup F = some (.ref l) ∧ SqT K H1 l zs ∧ R (Itt K l) H1
theorem it_run {X : Cx} {pins : List (Addr × Obj)} {σ : L2.St} {H : Hp} {s : Shared} {tab : List (Str × Str)} {tg : Expr} {R : It → Hp → Prop} {j : Nat} {n F : Str} {C a dx l : Addr} {fs : List (Str × V)} {zs : List V} (T : ItsAt X.prog X.w X.K X.mg X.base j tab) (hr : Room j X.A) (I : L2.Inv X pins σ H s)
    (ho : opOf n tab = some F) (hC : X.mg n = some (.ref C)) (ha : H a = some (.ins C dx fs)) (hl : fs.lookup F = some (.ref l)) (hz : SqT X.K H l zs) (hR : R (Itt X.K l) H) : wpAny (model X.prog X.w) X.A (pyIter (.ref a)) (PIE X pins σ tg R) X.xe s := by
  obtain ⟨k, hk, F1⟩ := T.at_ n F ho
  obtain ⟨C', f, fd, ps, hC', hm, hp1, F2, hb⟩ := F1.ex
  have e1 : C = C' := by
    have z := hC.symm.trans hC'
    cases z
    rfl
  subst e1
  obtain ⟨m', fr⟩ := I.fr
  obtain ⟨ox, od, i1⟩ := inst_at I ha
  refine PySem.W.owit_iter fr I.ok.mod.kin i1 hm.at_ hm.fn ?_
  have hsp : spIt X.K C F s [.ref a] H (fun v H' => ∃ it, v = .ref it ∧ H it = none ∧ s.heap.objs.size ≤ it ∧ H' = upd H it (ItT l it)) E0 := ⟨a, dx, fs, l, zs, rfl, ha, hl, hz, fun it hi hs => ⟨it, rfl, hi, hs, rfl⟩⟩
  have r : Vals [V.ref a] [Value.ref a] := Paired.cons (show RelV (.ref a) (.ref a) from rfl) .nil
  have b := hb s [Value.ref a] I.kIn (by rw [List.append_nil]; exact hp1.symm)
  rw [List.append_nil] at b
  refine wpAny_call (codeAny_mono (F2 X.A X.stack s H ⟨[Value.ref a], []⟩ [Value.ref a] _ _ E0 (hr.mono hk) I.env0 b r hsp) fun r s' hq => ?_)
  cases r with
  | error e => exact (cx_no hq).elim
  | ok fl =>
    cases fl with
    | ret u =>
      obtain ⟨v, H', I', rv, it, rfl, hi, hs, rfl⟩ := Inv.after I hq
      obtain rfl : u = .ref it := rv
      have hget : s'.heap.get? it = some (tupIt l) := (I'.hok it _ upd_same).1
      have hd : ItX.dropH (upd H it (ItT l it)) it = H := by
        funext b
        unfold ItX.dropH
        by_cases e : b = it
        · rw [if_pos e, e, hi]
        · rw [if_neg e, upd_ne e]
      have I2 : L2.Inv X pins σ H s' := by
        have := ItX.inv_drop I' (a := it) upd_same
        rwa [hd] at this
      have hfp : FpOk X pins H it := by
        have := ItX.inv_fp I' (a := it) upd_same (Nat.le_trans (Inv.sz I) hs)
        rwa [hd] at this
      refine wpAny_specialOf (T := "tuple_iterator") ⟨_, hget, rfl⟩ PySem.F.slot_tuple_iterator_next.lookup ?_
      exact ⟨it, [it], fun i h => h.IsTupleIter it l i, Itt X.K l, H, rfl, I2, turn_tuple l it, ⟨_, hget, rfl, rfl⟩, fun b hb => (by
        rw [List.mem_singleton] at hb
        subst hb
        exact hfp), hR⟩
    | _ => exact hq.elim
theorem pi_own {X : Cx} {tab : List (Str × Str)} {tg e : Expr} {t : TE} {j : Nat} (T : ItsAt X.prog X.w X.K X.mg X.base j tab) (hr : Room j X.A) (pt : PE X e t) : PI X tg e (iOwn X.K X.mg tab t) := ⟨fun pins s σ H R I h => thn (pt.run pins s σ H _ I h) fun u s1 hh => by
  obtain ⟨x, H1, I1, rx, n, F, C, a, dx, fs, l, zs, ho, hC, rfl, ha, hl, hz, hR⟩ := hh
  obtain rfl : u = .ref a := rx
  exact it_run T hr I1 ho hC ha hl hz hR⟩
def ownG (tab : List (Str × Str)) : D → R (List D)
  | .obj n ks ds => match opOf n tab with
    | some F => (match getF F ks ds with
      | some (.tup es) => .ok es
      | _ => .stuck)
    | none => .stuck
  | _ => .stuck
def ownIts (tab : List (Str × Str)) (a : R D) : R (List D) := a >>= ownG tab
theorem mi_own {X : Cx} {P : Program} {w : World} {K : PySem.W.Frag} {mg : Str → Option Value} {base : Heap} {E : Wh} {tab : List (Str × Str)} {tg e : Expr} {t : TE} {m : Env → R D} {j : Nat} (T : ItsAt P w K mg base j tab) (hr : Room j X.A) (h : ME X E e t m) (h0 : E.x = fun _ => none := by rfl) (hP : X.prog = P := by rfl) (hw : X.w = w := by rfl) (hK : X.K = K := by rfl) (hmg : X.mg = mg := by rfl) (hb : X.base = base := by rfl) :
    MI X E tg e (iOwn K mg tab t) (fun ρ => ownIts tab (m ρ)) := by
  subst hP hw hK hmg hb
  obtain ⟨E1, E2⟩ := E
  have h0 : E2 = fun _ => none := h0
  subst h0
  obtain ⟨pt, st⟩ := h
  refine ⟨pi_own T hr pt, fun σ I H ρ Q re ex h => ?_⟩
  refine st.run re ex h fun d v I1 H1 _ s1 rx h => ?_
  cases rx with
  | @obj a C dx n fs ds ha hc ra =>
    have h : Out X.K (g0 X.mg) (E1 σ) (ItOk X.K (g0 X.mg)) I1 H1 (match opOf n tab with
      | some F => (match getF F (fs.map (·.1)) ds with
        | some (.tup es) => R.ok es
        | _ => .stuck)
      | none => .stuck) Q := h
    cases ho : opOf n tab with
    | none =>
      rw [ho] at h
      exact h.elim
    | some F =>
      rw [ho] at h
      have h : Out X.K (g0 X.mg) (E1 σ) (ItOk X.K (g0 X.mg)) I1 H1 (match getF F (fs.map (·.1)) ds with
        | some (.tup es) => R.ok es
        | _ => .stuck) Q := h
      cases hf : getF F (fs.map (·.1)) ds with
      | none =>
        rw [hf] at h
        exact h.elim
      | some d' =>
        rw [hf] at h
        obtain ⟨v', hv, rv⟩ := getF_rep ra hf
        cases d' with
        | tup es =>
          cases rv with
          | tup hh ra2 => exact ⟨n, F, C, a, dx, fs, _, _, ho, hc, rfl, s1.e _ _ ha, hv, SqT.of (s1.e _ _ hh), h.here s1.e (it_tup (SqT.of hh) ra2)⟩
        | _ => exact h.elim
  | _ => exact h.elim
/-- of either kind -/
def itsO (tab : List (Str × Str)) (a : R D) : R (List D) := a >>= fun d => match d with
  | .obj n ks ds => ownG tab (.obj n ks ds)
  | d => itemsD d
theorem MI.or {X : Cx} {E : Wh} {tg e : Expr} {t t' : TI} {m m' mm : Env → R (List D)} (h : MI X E tg e t m) (h' : MI X E tg e t' m') (hc : ∀ ρ, mm ρ = m ρ ∨ mm ρ = m' ρ) : MI X E tg e (fun σ H R => t σ H R ∨ t' σ H R) mm :=
  ⟨PI.or h.pe h'.pe, sn_or h.sn h'.sn hc⟩
theorem mi_seqO {X : Cx} {P : Program} {w : World} (K : PySem.W.Frag) {mg : Str → Option Value} {base : Heap} {E : Wh} {tab : List (Str × Str)} {tg e : Expr} {t : TE} {m : Env → R D} {j k : Nat} (T : ItsAt P w K mg base j tab) (hr : Room k X.A) (h : ME X E e t m) (hj : j ≤ k := by first | decide | omega) (h0 : E.x = fun _ => none := by rfl) (hP : X.prog = P := by rfl) (hw : X.w = w := by rfl) (hK : X.K = K := by rfl) (hmg : X.mg = mg := by rfl) (hb : X.base = base := by rfl) :
    MI X E tg e (fun σ H R => iOwn K mg tab t σ H R ∨ (iList K t σ H R ∨ iTup K t σ H R)) (fun ρ => itsO tab (m ρ)) := by
  have h1 : MI X E tg e _ _ := mi_own T (hr.mono hj) h h0 hP hw hK hmg hb
  refine MI.or h1 (mi_seq K h hK) fun ρ => ?_
  unfold itsO ownIts its
  cases m ρ with
  | ok d => cases d <;> first | exact .inl rfl | exact .inr rfl
  | err _ _ => exact .inl rfl
  | stuck => exact .inl rfl
theorem ItsAt.nil {P : Program} {w : World} {K : PySem.W.Frag} {mg : Str → Option Value} {base : Heap} {j : Nat} : ItsAt P w K mg base j [] := ⟨fun n g h => by cases h⟩
theorem ItsAt.cons {P : Program} {w : World} {K : PySem.W.Frag} {mg : Str → Option Value} {base : Heap} {j k : Nat} {n F : Str} {tab : List (Str × Str)} (T1 : ItAt P w K mg base n F k) (hk : k ≤ j) (T : ItsAt P w K mg base j tab) : ItsAt P w K mg base j ((n, F) :: tab) := ⟨fun n' g' h => by
  have h : (if n = n' then some F else opOf n' tab) = some g' := h
  by_cases e : n = n'
  · rw [if_pos e] at h
    cases h
    subst e
    exact ⟨k, hk, T1⟩
  · rw [if_neg e] at h
    exact T.at_ n' g' h⟩
/-- def __iter__(self): return iter(self.F) -/
theorem ItAt.mk' {P : Program} {w : World} {K : PySem.W.Frag} {mg : Str → Option Value} {base : Heap} {n F : Str} {qual : Str} {st : Stmt} {f C : Addr} {fd : FuncData} {p p2 p3 p4 p5 : Pos} (F0 : Fun K "__iter__" qual st f fd) (hC : mg n = some (.ref C)) (hc : Cls K C) (no : NoAttr K C F) (hm : Meth K C "__iter__" f) (b : Binds K fd ["self"] [])
    (S : FnScope ["self"] ["self"] (defScope st)) (hbody : defBody st = [.Return (some (.Call (.Name "iter" p) [.Attribute (.Name "self" p2) F p3] [] p4)) p5]) (bi : mg "iter" = none)
    (hg : ∀ (cdv : Value) (A : Around) (outer : List PySem.Env) (s : Shared) (H : Hp) (E : XK), Gl (cxOf (L2.CX P w) P w K mg base ["self"] qual (defScope st) f cdv A outer s H E) "iter") (hv : Vis (defScope st) "self")
    (ha : ∀ (cdv : Value) (A : Around) (outer : List PySem.Env) (s : Shared) (H : Hp) (E : XK), attributeBase (.Name "self" p2) F (cxOf (L2.CX P w) P w K mg base ["self"] qual (defScope st) f cdv A outer s H E).env (eval (.Name "self" p2) (cxOf (L2.CX P w) P w K mg base ["self"] qual (defScope st) f cdv A outer s H E).env) = eval (.Name "self" p2) (cxOf (L2.CX P w) P w K mg base ["self"] qual (defScope st) f cdv A outer s H E).env) :
    ItAt P w K mg base n F 1 := by
  obtain ⟨⟨oc, od, kV, doc, pm, an, cdv, ct, osl, rfl, lk, hcd⟩, kp⟩ := F0
  refine ⟨C, f, _, ["self"], hC, hm, rfl, fn_ofS (k := 0) lk hcd S (fun s vs H Q E h => ?_) (fun A outer s H vs Q E hr h => ?_), b⟩
  · obtain ⟨_, _, _, _, _, rfl, _⟩ := h
    rfl
  · obtain ⟨a, dx, fs, l, zs, rfl, h1, h2, h3, h4⟩ := h
    rw [hbody]
    refine ⟨_, pss_one (ps_ret (pe_callB (call_iterT (X := cxOf (L2.CX P w) P w K mg base ["self"] qual (defScope st) f cdv A outer s H E)) (hg cdv A outer s H E) bi (by decide +kernel) (pa_cons (pe_fld (pe_var (i := 0) rfl hv) (ha cdv A outer s H E)) pa_nil))), ?_⟩
    exact ⟨.ref a, rfl, a, C, dx, fs, .ref l, rfl, h1, hc, no, h2, l, zs, rfl, h3, h4⟩
end DL
namespace DL
open PySem PySem.Spec L2

/-! ### list(o), o an object of the text's own with __iter__ and __len__ -/
theorem hint_own {prog : Program} {w : World} {A : Around} {E : Value → Shared → Prop} {s : Shared} {K : PySem.W.Frag} {x C L f : Addr} {h₀ : Heap} {m : Str → Option Value} {ox : Obj} {od : Option Obj} {Q : Bool → Shared → Prop} (fr : PyProof.Rows.Fr h₀ L s.heap m) (kin : K.In h₀) (J : PySem.W.InstAt s.heap x ox C od)
    (hl : PySem.W.findIn K (.ref C) "__len__" = some (some (.ref f))) (hf : PySem.W.isFn K (.ref f) = true)
    (h : wpAny (model prog w) A.in1 (call (.ref f) [.ref x]) (fun v s' => ∃ (n : Int) (t : Tok), v = .int n t ∧ 0 ≤ n ∧ n ≤ 1000000 ∧ ∀ tk, Q (n != 0) { s' with toks := tk }) (fun _ _ => False) s) :
    wpAny (model prog w) A (Builtin.List.listLengthHint (.ref x)) Q E s := by
  have hK : K.In s.heap := PySem.W.Frag.In.keeps kin fr.keep
  refine id (wpAny_bind (wpAny_bind (PySem.W.Looks.here (PySem.W.InstAt.type J) (PySem.W.Looks.here (PySem.W.looks_findIn hK hl) (PySem.W.KFB.if_not rfl ?_)))))
  refine PySem.wpAny_ite_true (by rfl) ?_
  refine wpAny_bind (wpAny_rule (wpAny_bind (wpAny_attempt (PySem.W.len_K fr kin J hl hf ?_))))
  refine wpAny_mono h (fun v s' hv => ?_) (fun e s' he => he.elim)
  obtain ⟨n, t, rfl, h0, h1, hq⟩ := hv
  refine ⟨⟨h0, by omega⟩, ?_⟩
  refine id (wpAny_bind (wpAny_pure (PySem.W.KFB.if_not ?_ (wpAny_pure (hq _)))))
  unfold Builtin.List.listTooLong
  have h2 : n.toNat ≤ 1000000 := by omega
  exact decide_eq_false (Nat.not_lt.mpr (Nat.le_trans h2 (by decide)))
theorem unpin {X : Cx} {pins more : List (Addr × Obj)} {σ : L2.St} {H : Hp} {s : Shared} (I : L2.Inv X (pins ++ more) σ H s) : L2.Inv X pins σ H s :=
  { I with pin := fun p hp => I.pin p (by
      rw [← List.append_assoc]
      exact List.mem_append_left _ hp) }
theorem pinned_at {X : Cx} {pins more : List (Addr × Obj)} {σ : L2.St} {H : Hp} {s : Shared} {b : Addr} {o : Obj} (I : L2.Inv X (pins ++ more) σ H s) (h : (b, o) ∈ more) : s.heap.get? b = some o ∧ H b = none := by
  obtain ⟨h1, h2, _⟩ := I.pin (b, o) (List.mem_append_right _ (List.mem_append_right _ h))
  exact ⟨h1, h2⟩
theorem env_at {X : Cx} {A : Around} {pins : List (Addr × Obj)} {σ : L2.St} {H : Hp} {s : Shared} (hA : A.frames = X.A.frames) (I : L2.Inv X pins σ H s) : Env0 X.prog X.w X.K X.mg X.base A X.stack s H := by
  have e0 := I.env0
  exact ⟨hA.trans e0.frames, e0.mod, e0.bs, e0.bsz, e0.funs, e0.frf, e0.hok, e0.bare⟩
/-- o.__iter__() -/
theorem iter_call {X : Cx} {A : Around} {pins : List (Addr × Obj)} {σ : L2.St} {H : Hp} {s : Shared} {F : Str} {k : Nat} {C a dx l f : Addr} {fd : FuncData} {ps : List Str} {fs : List (Str × V)} {zs : List V} {Q : Value → Shared → Prop} {E : Value → Shared → Prop} (hA : A.frames = X.A.frames)
    (F2 : FnS X.prog X.w X.K X.mg X.base (L2.CX X.prog X.w) k f fd ps (spIt X.K C F)) (hb : Binds X.K fd ps []) (hp1 : ps.length = 1) (hr : Room k A) (I : L2.Inv X pins σ H s) (ha : H a = some (.ins C dx fs)) (hl : fs.lookup F = some (.ref l)) (hz : SqT X.K H l zs)
    (hQ : ∀ (it : Addr) (s' : Shared), L2.Inv X pins σ H s' → FpOk X pins H it → s'.heap.get? it = some (tupIt l) → Q (.ref it) s') : wpAny (model X.prog X.w) A (call (.ref f) [.ref a]) (PySem.W.OwitIt (model X.prog X.w) A Q E) E s := by
  have hsp : spIt X.K C F s [.ref a] H (fun v H' => ∃ it, v = .ref it ∧ H it = none ∧ s.heap.objs.size ≤ it ∧ H' = upd H it (ItT l it)) E0 := ⟨a, dx, fs, l, zs, rfl, ha, hl, hz, fun it hi hs => ⟨it, rfl, hi, hs, rfl⟩⟩
  have r : Vals [V.ref a] [Value.ref a] := Paired.cons (show RelV (.ref a) (.ref a) from rfl) .nil
  have b := hb s [Value.ref a] I.kIn (by rw [List.append_nil]; exact hp1.symm)
  rw [List.append_nil] at b
  refine wpAny_call (codeAny_mono (F2 A X.stack s H ⟨[Value.ref a], []⟩ [Value.ref a] _ _ E0 hr (env_at hA I) b r hsp) fun r s' hq => ?_)
  cases r with
  | error e => exact (cx_no hq).elim
  | ok fl =>
    cases fl with
    | ret u =>
      obtain ⟨v, H', I', rv, it, rfl, hi, hs, rfl⟩ := Inv.after I hq
      obtain rfl : u = .ref it := rv
      have hget : s'.heap.get? it = some (tupIt l) := (I'.hok it _ upd_same).1
      have hd : ItX.dropH (upd H it (ItT l it)) it = H := by
        funext b
        unfold ItX.dropH
        by_cases e : b = it
        · rw [if_pos e, e, hi]
        · rw [if_neg e, upd_ne e]
      have I2 : L2.Inv X pins σ H s' := by
        have := ItX.inv_drop I' (a := it) upd_same
        rwa [hd] at this
      have hfp : FpOk X pins H it := by
        have := ItX.inv_fp I' (a := it) upd_same (Nat.le_trans (Inv.sz I) hs)
        rwa [hd] at this
      exact wpAny_specialOf (T := "tuple_iterator") ⟨_, hget, rfl⟩ PySem.F.slot_tuple_iterator_next.lookup (hQ it s' I2 hfp hget)
    | _ => exact hq.elim
/-- the items go into the list -/
theorem loop_tup {prog : Program} {w : World} {A : Around} {R : Result → Shared → Prop} {s : Shared} {S it l : Addr} {its : List Value} {c : Nat} {res : Value} (hh : A.handled = none) (h1 : S ≠ it) (h2 : s.heap.get? S = some { cls := Value.type "list", data := Data.seq #[] c }) (h3 : s.heap.get? it = some (tupIt l)) (h4 : PyProof.Rows.IsTup s.heap l its.toArray) (hl : its.length ≤ sizeLine)
    (hR : ∀ (s' : Shared) (c' : Nat), (∀ b o, b ≠ S → b ≠ it → s.heap.get? b = some o → s'.heap.get? b = some o) → s'.gens = s.gens → s'.drawn = s.drawn → s'.os = s.os → s'.heap.get? S = some { cls := Value.type "list", data := Data.seq its.toArray c' } → R (Except.ok (Flow.ret res)) s') :
    codeAny (model prog w) A (Code.builtin "list.extend.loop" { pos := [Value.ref S, Value.ref it, res] }) R s := by
  obtain ⟨o, g1, g2, n, g3⟩ := h4
  have hli : l ≠ it := fun e => by
    rw [e, h3] at g1
    cases g1
    injection g2 with g2
    exact absurd g2 (by decide)
  have hSl : S ≠ l := fun e => by
    rw [← e, h2] at g1
    cases g1
    injection g2 with g2
    exact absurd g2 (by decide)
  refine codeAny_extend_loopS (Walks.tuple (A := A.in1) hh it l hli its.toArray).toS (by simpa using hl) S (by simp [h1, hSl]) res _ 0 s #[] c rfl (Nat.zero_le _) ⟨⟨_, h3, rfl, rfl⟩, ⟨o, g1, g2, n, g3⟩⟩ h2 ⟨rfl, fun j v h => by simp at h⟩ fun s' acc' c' hm hS' hacc => ?_
  refine hR s' c' (fun b o hb hb2 e => hm.heap b o (by simp [hb, hb2]) e) hm.gens hm.drawn hm.os ?_
  have : acc' = its.toArray := by
    obtain ⟨hz, hi⟩ := hacc
    refine Array.ext hz fun i h1 h2 => ?_
    have this : its.toArray[i]? = some acc'[i] := hi i acc'[i] (Array.getElem?_eq_getElem h1)
    rw [Array.getElem?_eq_getElem h2] at this
    exact (Option.some.inj this).symm
  rw [this] at hS'
  exact hS'
def rListO (K : PySem.W.Frag) (mg : Str → Option Value) (itab : List (Str × Str)) (ltab : List (Str × (List D → R D))) : List V → Hp → VK → Prop := fun xs H Q => ∃ n F g C a dx fs l zs, opOf n itab = some F ∧ opOf n ltab = some g ∧ mg n = some (.ref C) ∧ xs = [.ref a] ∧ H a = some (.ins C dx fs) ∧ fs.lookup F = some (.ref l) ∧ SqT K H l zs ∧ zs.length ≤ LIM ∧
  spOf K (g0 mg) 1 g [.ref a] H (fun v H' => ∃ k : Int, v = .int k ∧ 0 ≤ k ∧ k ≤ 1000000 ∧ SqT K H' l zs ∧ ∀ p, H' p = none → Q (.ref p) (upd H' p (.lst zs))) E0
theorem wp_if {M : Model} {A : Around} {α : Type} {E : Value → Shared → Prop} {s : Shared} {Q : α → Shared → Prop} {c : Bool} {a b : Sem α} (h1 : wpAny M A a Q E s) (h2 : wpAny M A b Q E s) : wpAny M A (if c = true then a else b) Q E s := by
  cases c with
  | true => exact h1
  | false => exact h2
theorem call_listO {X : Cx} {itab : List (Str × Str)} {ltab : List (Str × (List D → R D))} {j : Nat} (T : ItsAt X.prog X.w X.K X.mg X.base j itab) (L : OpsAt X.prog X.w X.K X.mg X.base "__len__" j 1 ltab) (hr : Room (j + 3) X.A) : CallR X (.type "list") (rListO X.K X.mg itab ltab) := by
  intro pins s σ H xs us Q I rv h
  obtain ⟨n, F, g, C, a, dx, fs, l, zs, hoF, hog, hC, rfl, ha, hlF, hz, hzl, hsp⟩ := h
  obtain rfl := Vals.ref1 rv
  obtain ⟨kI, hkI, F1⟩ := T.at_ n F hoF
  obtain ⟨C', fI, fdI, psI, hC', hmI, hp1, FI, bI⟩ := F1.ex
  have e1 : C = C' := by
    have z := hC.symm.trans hC'
    cases z
    rfl
  subst e1
  obtain ⟨C2, kL, hkL, F2, sf⟩ := L.at_ n g hog
  obtain ⟨fL, fdL, psL, hC2, c, hmL, FL, bL⟩ := F2.ex
  have e2 : C = C2 := by
    have z := hC.symm.trans hC2
    cases z
    rfl
  subst e2
  have hr2 : Room (j + 1) X.A.in1.in1 := Room.in1 (Room.in1 hr)
  have hr3 : Room j X.A.in1.in1.in1 := Room.in1 hr2
  refine callType_codes PySem.F.called_list (PySem.F.typeCall_list_1 (.ref a)) PySem.F.entry_list_init (code_list_new (Q₁ := fun obj s₁ => obj = Value.ref s.heap.objs.size ∧ s₁ = { heap := s.heap.push { cls := Value.type "list", data := Data.seq #[] }, gens := s.gens, drawn := s.drawn, toks := s.toks, os := s.os }) (.ref a) ⟨rfl, rfl⟩) fun obj s₁ h₁ => ?_
  obtain ⟨e3, e4⟩ := h₁
  subst e3 e4
  have hS := Heap.get?_push_size (o := { cls := Value.type "list", data := Data.seq #[] }) s.heap rfl
  refine ⟨⟨_, hS, rfl⟩, PySem.F.args_list_init_2 _ _, ?_⟩
  refine id (wpAny_bind (id (wpAny_bind (wpAny_seqItems hS rfl (wpAny_pure (id (wpAny_bind (wpAny_updateSeq hS rfl (wpAny_bind (wpAny_letGo ?_)) (by simp) (by simp)))))))))
  have hfS : FpOk X pins H s.heap.objs.size := Inv.fpOk I (Nat.le_refl _) (HOk.fresh I.hok (Nat.le_refl _))
  have hS2 := Heap.get?_update_self (Obj.mapSeq fun x => #[]) hS rfl
  have I2 : L2.Inv X pins σ H { heap := (s.heap.push { cls := Value.type "list", data := Data.seq #[] }).update s.heap.objs.size (Obj.mapSeq fun x => #[]), gens := s.gens, drawn := s.drawn, toks := s.toks, os := s.os } := Inv.kept I fun b u e => by
    rw [Heap.get?_update_other _ _ (Nat.ne_of_gt (Heap.lt_size e))]
    exact Heap.get?_push_of_some _ e
  generalize hs2 : ({ heap := (s.heap.push { cls := Value.type "list", data := Data.seq #[] }).update s.heap.objs.size (Obj.mapSeq fun x => #[]), gens := s.gens, drawn := s.drawn, toks := s.toks, os := s.os } : Shared) = s2 at I2
  have hS2 : ∃ c0, s2.heap.get? s.heap.objs.size = some { cls := Value.type "list", data := Data.seq #[] c0 } := by
    subst hs2
    exact ⟨_, hS2⟩
  obtain ⟨c0, hS2⟩ := hS2
  clear hs2 hS
  generalize s.heap.objs.size = S at hfS hS2 ⊢
  show wpAny (model X.prog X.w) X.A.in1.in1 (Builtin.List.listExtendWith (Value.ref S) (Value.ref a) Value.none) _ _ s2
  have hnS : ∀ v : Option Value, ({ cls := Value.type "list", data := Data.seq #[] c0 } : Obj).data ≠ Data.cell v := fun v e => by cases e
  have I3 : L2.Inv X (pins ++ pinsAt [S] s2.heap) σ H s2 := Inv.pinned I2 (fp := [S]) (fun b hb => by
    rw [List.mem_singleton] at hb
    subst hb
    exact hfS) (fun b hb => by
    rw [List.mem_singleton] at hb
    subst hb
    exact ⟨_, hS2, hnS⟩)
  have hpS : (S, ({ cls := Value.type "list", data := Data.seq #[] c0 } : Obj)) ∈ pinsAt [S] s2.heap := by
    unfold pinsAt
    simp [hS2]
  generalize pinsAt [S] s2.heap = P1 at I3 hpS
  obtain ⟨m', fr⟩ := I2.fr
  obtain ⟨ox, od, J⟩ := inst_at I2 ha
  have hSa : S ≠ a := fun e => by
    have := hfS.1
    rw [e, ha] at this
    cases this
  refine id (wpAny_bind (PySem.W.Looks.here (PySem.W.InstAt.type J) (PySem.W.KFB.if_not ?_ ?_)))
  · have h1 : Builtin.List.listSameRef (Value.ref S) (Value.ref a) = false := by simp [Builtin.List.listSameRef, hSa]
    rw [h1]
    rfl
  refine wpAny_bind (PySem.W.owit_iter fr I2.ok.mod.kin J hmI.at_ hmI.fn ?_)
  refine iter_call (A := X.A.in1.in1) rfl FI bI hp1 (hr2.mono (by omega)) I3 ha hlF hz fun it s3 I4 hfp hit => ?_
  obtain ⟨gS, _⟩ := pinned_at I4 hpS
  have hnit : ∀ v : Option Value, (tupIt l).data ≠ Data.cell v := fun v e => by cases e
  have I5 : L2.Inv X ((pins ++ P1) ++ pinsAt [it] s3.heap) σ H s3 := Inv.pinned I4 (fp := [it]) (fun b hb => by
    rw [List.mem_singleton] at hb
    subst hb
    exact hfp) (fun b hb => by
    rw [List.mem_singleton] at hb
    subst hb
    exact ⟨_, hit, hnit⟩)
  have hpit : (it, tupIt l) ∈ pinsAt [it] s3.heap := by
    unfold pinsAt
    simp [hit]
  generalize pinsAt [it] s3.heap = P2 at I5 hpit
  obtain ⟨m3, fr3⟩ := I4.fr
  obtain ⟨ox3, od3, J3⟩ := inst_at I4 ha
  refine wpAny_bind (wpAny_holding (hint_own fr3 I4.ok.mod.kin J3 hmL.at_ hmL.fn ?_))
  have r : Vals [V.ref a] [Value.ref a] := Paired.cons (show RelV (.ref a) (.ref a) from rfl) .nil
  have hl2 : [Value.ref a].length = psL.length := (Vals.length r).symm.trans (FL.len _ H _ E0 hsp)
  have b := bL s3 [Value.ref a] I4.kIn (by rw [List.append_nil]; exact hl2)
  rw [List.append_nil] at b
  refine wpAny_call (codeAny_mono (FL.run X.A.in1.in1.in1 X.stack s3 H ⟨[Value.ref a], []⟩ [Value.ref a] _ _ E0 (hr3.mono hkL) (env_at rfl I5) b r hsp) fun r s4 hq => ?_)
  cases r with
  | error e => exact (cx_no hq).elim
  | ok fl =>
    cases fl with
    | ret u =>
      obtain ⟨v, H', I6, rv2, k, rfl, k0, k1, hz', hQ⟩ := Inv.after I5 hq
      obtain ⟨t, rfl⟩ := rv2
      obtain ⟨git, nit⟩ := pinned_at I6 hpit
      obtain ⟨gS4, nS4⟩ := pinned_at (unpin I6) hpS
      refine ⟨k, t, rfl, k0, k1, fun tk => ?_⟩
      have I7 : L2.Inv X pins σ H' s4 := unpin (unpin I6)
      have hfS' : FpOk X pins H' S := ⟨nS4, hfS.2⟩
      have hfit : FpOk X pins H' it := ⟨nit, hfp.2.1, hfp.2.2.1, hfp.2.2.2.1, hfp.2.2.2.2.1, fun p hp => hfp.2.2.2.2.2 p (by
        rw [← List.append_assoc]
        exact List.mem_append_left _ hp)⟩
      obtain ⟨its, rz, htup, hzl2⟩ := Inv.tuple I7 hz'
      have hSit : S ≠ it := fun e => by
        rw [e, git] at gS4
        have := congrArg (fun o => o.map (·.cls)) gS4
        injection this with this
        injection this with this
        exact absurd this (by decide)
      have hlS : l ≠ S := fun e => by
        obtain ⟨o, g1, g2, _⟩ := htup
        rw [e, gS4] at g1
        cases g1
        injection g2 with g2
        exact absurd g2 (by decide)
      have done : ∀ (s5 : Shared) (c1 : Nat), (∀ b o, b ≠ S → s4.heap.get? b = some o → s5.heap.get? b = some o) → s5.gens = s4.gens → s5.drawn = s4.drawn → s5.os = s4.os → s5.heap.get? S = some { cls := Value.type "list", data := Data.seq #[] c1 } →
          codeAny (model X.prog X.w) X.A.in1 (Code.builtin "list.extend.loop" { pos := [Value.ref S, Value.ref it, Value.none] }) (wants (fun r s₂ => r = Value.none ∧ EP X pins σ Q (Value.ref S) s₂) X.xe) s5 := by
        intro s5 c1 kp e1 e2 e3 g5
        obtain ⟨o, g1, g2, g3⟩ := htup
        refine loop_tup (A := X.A.in1) hr.hd hSit g5 (kp _ _ (Ne.symm hSit) git) ⟨o, kp _ _ hlS g1, g2, g3⟩ (by rw [← Vals.length rz]; exact hzl2) fun s' c' kp2 f1 f2 f3 g6 => ⟨rfl, ?_⟩
        have I8 : L2.Inv X pins σ H' { heap := s'.heap, gens := s4.gens, drawn := s4.drawn, toks := s'.toks, os := s4.os } := Inv.turnedL (ch := [S, it]) I7 (fun b o hb e => by
          simp only [List.mem_cons, List.not_mem_nil, or_false, not_or] at hb
          exact kp2 b o hb.1 hb.2 (kp b o hb.1 e)) (fun b hb => by
          simp only [List.mem_cons, List.not_mem_nil, or_false] at hb
          rcases hb with rfl | rfl
          · exact hfS'
          · exact hfit)
        have I9 := Inv.take (it := S) (o := HO.lst zs) (h' := s'.heap) (t' := s'.toks) I8 (fun b ob _ e => e) hfS' ⟨hzl2, its, c', rz, g6⟩
        have es : s' = { heap := s'.heap, gens := s4.gens, drawn := s4.drawn, toks := s'.toks, os := s4.os } := by
          rw [← e1, ← e2, ← e3, ← f1, ← f2, ← f3]
        rw [es]
        exact ⟨.ref S, _, I9, rfl, hQ S nS4⟩
      refine wp_if ?_ ?_
      · refine wpAny_bind (wpAny_rule (wpAny_bind (id (wpAny_bind (wpAny_updateSeq gS4 rfl ?_ (by simp) (by simp))))))
        have g7 := Heap.get?_update_self (Obj.mapSeq fun x => x.push Value.none) gS4 rfl
        refine wpAny_updateSeq g7 rfl ?_ (by simp; decide) (by simp)
        have g8 := Heap.get?_update_self (Obj.mapSeq fun x => x.pop) g7 rfl
        refine wpAny_pure ⟨Code.quiet_builtin _ (by decide +kernel), done _ _ (fun b o hb e => ?_) rfl rfl rfl g8⟩
        rw [Heap.get?_update_other _ _ (Ne.symm hb), Heap.get?_update_other _ _ (Ne.symm hb)]
        exact e
      · exact wpAny_pure ⟨Code.quiet_builtin _ (by decide +kernel), done _ c0 (fun b o _ e => e) rfl rfl rfl gS4⟩
    | _ => exact hq.elim
end DL
namespace DL
open PySem PySem.Spec L2

/-! ### len, list, in, ==, [] of objects of the text's own -/
section
variable {X : Cx} {m : Str} {j na : Nat} {tab ltab : List (Str × (List D → R D))} {itab : List (Str × Str)}
/-- a method found for an operator, called: nothing is let out -/
theorem own_call {A : Around} {pins : List (Addr × Obj)} {σ : L2.St} {H : Hp} {s : Shared} {Q : VK} {n : Str} {g : List D → R D} {C a dx : Addr} {fs : List (Str × V)} {vs : List V} {us : List Value} {G : Prop}
    (T : OpsAt X.prog X.w X.K X.mg X.base m j na tab) (hA : A.frames = X.A.frames) (hr : Room j A) (I : L2.Inv X pins σ H s) (hg : opOf n tab = some g) (hC : X.mg n = some (.ref C)) (ha : H a = some (.ins C dx fs)) (hv : Vals vs us) (hs : spOf X.K (g0 X.mg) na g (.ref a :: vs) H Q E0)
    (k : ∀ {f : Addr} {ox : Obj} {od : Option Obj} {m' : Str → Option Value}, PyProof.Rows.Fr X.base X.env.locals s.heap m' → X.K.In X.base → PySem.W.InstAt s.heap a ox C od → PySem.W.findIn X.K (.ref C) m = some (some (.ref f)) → PySem.W.isFn X.K (.ref f) = true → PySem.W.selfFirst X.K C = true →
      (∀ E, wpAny (model X.prog X.w) A (call (.ref f) (.ref a :: us)) (EP X pins σ Q) E s) → G) : G := by
  obtain ⟨C2, k2, hk, F1, sf⟩ := T.at_ n g hg
  obtain ⟨f, fd, ps, hC2, c, hm, F2, hb⟩ := F1.ex
  have e1 : C = C2 := by
    have z := hC.symm.trans hC2
    cases z
    rfl
  subst e1
  obtain ⟨m', fr⟩ := I.fr
  obtain ⟨ox, od, J⟩ := inst_at I ha
  refine k fr I.ok.mod.kin J hm.at_ hm.fn sf fun E => ?_
  have r : Vals (V.ref a :: vs) (Value.ref a :: us) := Paired.cons (show RelV (.ref a) (.ref a) from rfl) hv
  have hl : (Value.ref a :: us).length = ps.length := (Vals.length r).symm.trans (F2.len _ H _ E0 hs)
  have b := hb s (Value.ref a :: us) I.kIn (by rw [List.append_nil]; exact hl)
  rw [List.append_nil] at b
  refine wpAny_call (codeAny_mono (F2.run A X.stack s H ⟨Value.ref a :: us, []⟩ (Value.ref a :: us) _ _ E0 (hr.mono hk) (env_at hA I) b r hs) fun r s' hq => ?_)
  cases r with
  | error e => exact (cx_no hq).elim
  | ok fl =>
    cases fl with
    | ret u => exact Inv.after I hq
    | _ => exact hq.elim
/-- what a mirror of a method promises, no error let out -/
theorem sp_of {mg : Str → Option Value} {K : PySem.W.Frag} {n : Nat} {g : List D → R D} {vs : List V} {ds : List D} {I H : Hp} {d : D} {Q : VK} (e : Same I H) (r : Reps K (g0 mg) I vs ds) (hn : ds.length = n) (hd : g ds = .ok d) (h : ∀ v I' H', Stp I H I' H' → Rep K (g0 mg) I' v d → Q v H') : spOf K (g0 mg) n g vs H Q E0 :=
  ⟨I, ds, hn, e, r, by rw [hd]; exact h⟩
/-! #### len -/
def rLenO (K : PySem.W.Frag) (mg : Str → Option Value) (tab : List (Str × (List D → R D))) : List V → Hp → VK → Prop := fun xs H Q => ∃ n g C a dx fs, opOf n tab = some g ∧ mg n = some (.ref C) ∧ xs = [.ref a] ∧ H a = some (.ins C dx fs) ∧ spOf K (g0 mg) 1 g [.ref a] H (fun v H' => ∃ k : Int, v = .int k ∧ 0 ≤ k ∧ k ≤ 1000000 ∧ Q (.int k) H') E0
theorem cr_lenO (T : OpsAt X.prog X.w X.K X.mg X.base "__len__" j 1 tab) (hr : Room (j + 1) X.A) : CallR X (.builtin "len") (rLenO X.K X.mg tab) := by
  intro pins s σ H xs us Q I rv h
  obtain ⟨n, g, C, a, dx, fs, hg, hC, rfl, ha, hs⟩ := h
  obtain rfl := Vals.ref1 rv
  refine own_call (A := X.A.in1) (vs := []) (us := []) T rfl (Room.in1 hr) I hg hC ha .nil hs fun fr kin J hl hf sf h => PySem.W.len_K fr kin J hl hf (wpAny_mono (h X.xe) (fun r s' hh => ?_) fun _ _ he => he)
  obtain ⟨v, H', I', rv2, k, rfl, h0, h1, hq⟩ := hh
  obtain ⟨t, rfl⟩ := rv2
  exact ⟨⟨h0, by omega⟩, .int k, H', Inv.tok I' (s'.toks + 1), ⟨s'.toks, rfl⟩, hq⟩
def lenO (tab : List (Str × (List D → R D))) : List D → R D
  | [.obj n ks es] => match opOf n tab with
    | some g => (match g [.obj n ks es] with
      | .ok (.int k) => if 0 ≤ k ∧ k ≤ 1000000 then .ok (.int k) else .stuck
      | _ => .stuck)
    | none => .stuck
  | _ => .stuck
theorem cs_lenO : CSn X.K (g0 X.mg) (rLenO X.K X.mg tab) (lenO tab) := by
  intro xs I H ds d Q ex rs h q
  unfold lenO at h
  split at h
  · rename_i n ks es
    cases ho : opOf n tab with
    | none =>
      rw [ho] at h
      cases h
    | some g =>
      rw [ho] at h
      have h : (match g [.obj n ks es] with
        | .ok (.int k) => if 0 ≤ k ∧ k ≤ 1000000 then R.ok (D.int k) else .stuck
        | _ => .stuck) = .ok d := h
      split at h
      · rename_i k hk
        split at h
        · rename_i hb
          cases h
          obtain ⟨v, rfl, rv⟩ := reps1 rs
          cases rv with
          | @obj a C dx n fs ds2 ha hc ra =>
            exact ⟨n, g, C, a, dx, fs, ho, hc, rfl, ex _ _ ha, sp_of ex (.cons (Rep.obj ha hc ra) .nil) rfl hk fun v I' H' st rv => by
              cases rv
              exact ⟨k, rfl, hb.1, hb.2, q _ I' H' st (.int k)⟩⟩
        · cases h
      · cases h
  · cases h
/-! #### list -/
def listO (itab : List (Str × Str)) (ltab : List (Str × (List D → R D))) : List D → R D
  | [.obj n ks es] => match opOf n itab, opOf n ltab with
    | some F, some g => (match getF F ks es, g [.obj n ks es] with
      | some (.tup zs), .ok (.int k) => if (0 ≤ k ∧ k ≤ 1000000) ∧ zs.length ≤ LIM then .ok (.lst zs) else .stuck
      | _, _ => .stuck)
    | _, _ => .stuck
  | _ => .stuck
theorem cs_listO : CSn X.K (g0 X.mg) (rListO X.K X.mg itab ltab) (listO itab ltab) := by
  intro xs I H ds d Q ex rs h q
  unfold listO at h
  split at h
  · rename_i n ks es
    split at h
    · rename_i F g hF hg
      split at h
      · rename_i zs k hz hk
        split at h
        · rename_i hb
          cases h
          obtain ⟨v, rfl, rv⟩ := reps1 rs
          cases rv with
          | @obj a C dx n fs ds2 ha hc ra =>
            obtain ⟨v', hv, rv'⟩ := getF_rep ra hz
            cases rv' with
            | @tup l vs _ hh ra2 =>
              refine ⟨n, F, g, C, a, dx, fs, l, vs, hF, hg, hc, rfl, ex _ _ ha, hv, SqT.of (ex _ _ hh), ?_, sp_of ex (.cons (Rep.obj ha hc ra) .nil) rfl hk fun v I' H' st rv => ?_⟩
              · rw [ra2.len]
                exact hb.2
              · cases rv
                refine ⟨k, rfl, hb.1.1, hb.1.2, SqT.of (st.e _ _ (st.i _ _ hh)), fun p hp => ?_⟩
                exact q _ _ _ (st.trans (Stp.new st.e hp)) (new_lst st.e hp (ra2.mono st.i))
        · cases h
      · cases h
    · cases h
  · cases h
/-! #### in -/
def rInO (K : PySem.W.Frag) (mg : Str → Option Value) (tab : List (Str × (List D → R D))) : R2 := fun x y H Q => ∃ n g C a dx fs, opOf n tab = some g ∧ mg n = some (.ref C) ∧ y = .ref a ∧ H a = some (.ins C dx fs) ∧ spOf K (g0 mg) 2 g [.ref a, x] H (fun v H' => ∃ b : Bool, v = .bl b ∧ Q (.bl b) H') E0
theorem op_inO (T : OpsAt X.prog X.w X.K X.mg X.base "__contains__" j 2 tab) (hr : Room j X.A) : OpR X (compareOp .In) (rInO X.K X.mg tab) := by
  intro pins s σ H x y v u Q I rx ry h
  obtain ⟨n, g, C, a, dx, fs, hg, hC, rfl, ha, hs⟩ := h
  obtain rfl : u = .ref a := ry
  refine own_call (A := X.A) (vs := [x]) (us := [v]) T rfl hr I hg hC ha (Paired.cons rx .nil) hs fun fr kin J hl hf sf h => PySem.W.in_K fr kin J hl hf (wpAny_mono (h X.xe) (fun r s' hh => ?_) fun _ _ he => he)
  obtain ⟨v2, H', I', rv2, b, rfl, hq⟩ := hh
  obtain rfl : r = .bool b := rv2
  exact wpAny_truthy_bool ⟨.bl b, H', I', rfl, hq⟩
def inO (tab : List (Str × (List D → R D))) (x : D) : D → R D
  | .obj n ks es => match opOf n tab with
    | some g => (match g [.obj n ks es, x] with
      | .ok (.bl b) => .ok (.bl b)
      | _ => .stuck)
    | none => .stuck
  | _ => .stuck
theorem rs_inO : RSn X.K (g0 X.mg) (rInO X.K X.mg tab) (inO tab) := by
  intro x y I H dx dy d Q ex rx ry h q
  unfold inO at h
  split at h
  · rename_i n ks es
    split at h
    · rename_i g hg
      split at h
      · rename_i b hb
        cases h
        cases ry with
        | @obj a C dx2 n fs ds2 ha hc ra =>
          exact ⟨n, g, C, a, dx2, fs, hg, hc, rfl, ex _ _ ha, sp_of ex (.cons (Rep.obj ha hc ra) (.cons rx .nil)) rfl hb fun v I' H' st rv => by
            cases rv
            exact ⟨b, rfl, q _ I' H' st (.bl b)⟩⟩
      · cases h
    · cases h
  · cases h
theorem op_ninO (T : OpsAt X.prog X.w X.K X.mg X.base "__contains__" j 2 tab) (hr : Room j X.A) : OpR X (compareOp .NotIn) (fun x y H Q => rInO X.K X.mg tab x y H fun v H' => ∃ b : Bool, v = .bl b ∧ Q (.bl !b) H') := by
  intro pins s σ H x y v u Q I rx ry h
  obtain ⟨n, g, C, a, dx, fs, hg, hC, rfl, ha, hs⟩ := h
  obtain rfl : u = .ref a := ry
  refine own_call (A := X.A) (vs := [x]) (us := [v]) T rfl hr I hg hC ha (Paired.cons rx .nil) hs fun fr kin J hl hf sf h => PySem.W.notIn_K fr kin J hl hf (wpAny_mono (h X.xe) (fun r s' hh => ?_) fun _ _ he => he)
  obtain ⟨v2, H', I', rv2, b, rfl, b2, e, hq⟩ := hh
  cases e
  obtain rfl : r = .bool b := rv2
  exact wpAny_truthy_bool ⟨.bl !b, H', I', rfl, hq⟩
theorem rs_ninO : RSn X.K (g0 X.mg) (fun x y H Q => rInO X.K X.mg tab x y H fun v H' => ∃ b : Bool, v = .bl b ∧ Q (.bl !b) H') (fun x y => notD (inO tab x y)) := by
  intro x y I H dx dy d Q ex rx ry h q
  have h : notD (inO tab dx dy) = .ok d := h
  cases hi : inO tab dx dy with
  | ok e =>
    rw [hi] at h
    cases e with
    | bl b =>
      cases h
      exact rs_inO x y I H dx dy _ _ ex rx ry hi fun v I' H' st rv => by
        cases rv
        exact ⟨b, rfl, q _ I' H' st (.bl !b)⟩
    | _ => cases h
  | err _ _ =>
    rw [hi] at h
    cases h
  | stuck =>
    rw [hi] at h
    cases h
/-! #### == of two of one class -/
def rEqO (K : PySem.W.Frag) (mg : Str → Option Value) (tab : List (Str × (List D → R D))) : R2 := fun x y H Q => ∃ n g C a b dx dy fs gs, opOf n tab = some g ∧ mg n = some (.ref C) ∧ x = .ref a ∧ y = .ref b ∧ H a = some (.ins C dx fs) ∧ H b = some (.ins C dy gs) ∧ spOf K (g0 mg) 2 g [.ref a, .ref b] H Q E0
theorem op_eqO (T : OpsAt X.prog X.w X.K X.mg X.base "__eq__" j 2 tab) (hr : Room j X.A) : OpR X (compareOp .Eq) (rEqO X.K X.mg tab) := by
  intro pins s σ H x y v u Q I rx ry h
  obtain ⟨n, g, C, a, b, dx, dy, fs, gs, hg, hC, rfl, rfl, ha, hb, hs⟩ := h
  obtain rfl : v = .ref a := rx
  obtain rfl : u = .ref b := ry
  obtain ⟨oy, oe, J2⟩ := inst_at I hb
  refine own_call (A := X.A) (vs := [.ref b]) (us := [.ref b]) T rfl hr I hg hC ha (Paired.cons (show RelV (.ref b) (.ref b) from rfl) .nil) hs fun fr kin J hl hf sf h => PySem.W.cmp_K (op := .Eq) (by have := hr.un; omega) fr kin J (PySem.W.InstAt.type J2) (by simp [PySem.W.notFirst]) hl hf (wpAny_mono (h X.xe) (fun r s' hh => ?_) fun _ _ he => he)
  obtain ⟨v, H', I', rv, hq⟩ := hh
  exact cmpBack_of rv ⟨v, H', I', rv, hq⟩
def eqO (tab : List (Str × (List D → R D))) : D → D → R D
  | .obj n ks ds, .obj n2 ls es => if n2 = n then (match opOf n tab with
    | some g => (match g [.obj n ks ds, .obj n2 ls es] with
      | .ok d => .ok d
      | _ => .stuck)
    | none => .stuck) else .stuck
  | _, _ => .stuck
theorem rs_eqO : RSn X.K (g0 X.mg) (rEqO X.K X.mg tab) (eqO tab) := by
  intro x y I H dx dy d Q ex rx ry h q
  unfold eqO at h
  split at h
  · rename_i n ks ds n2 ls es
    split at h
    · rename_i hn
      subst hn
      split at h
      · rename_i g hg
        split at h
        · rename_i d2 hd
          cases h
          cases rx with
          | @obj a C dx2 n fs ds2 ha hc ra =>
            cases ry with
            | @obj b C2 dy2 n gs ds3 hb hc2 rb =>
              have e1 : C2 = C := by
                have z := hc2.symm.trans hc
                cases z
                rfl
              subst e1
              exact ⟨_, g, C2, a, b, dx2, dy2, fs, gs, hg, hc, rfl, rfl, ex _ _ ha, ex _ _ hb, sp_of ex (.cons (Rep.obj ha hc ra) (.cons (Rep.obj hb hc2 rb) .nil)) rfl hd q⟩
        · cases h
      · cases h
    · cases h
  · cases h
end
/-! #### of either kind -/
def isObj : D → Bool
  | .obj _ _ _ => true
  | _ => false
def orC (f g : List D → R D) : List D → R D
  | .obj n ks es :: r => f (.obj n ks es :: r)
  | ds => g ds
def orL (f g : D → D → R D) (x y : D) : R D := if isObj x = true then f x y else g x y
def orR (f g : D → D → R D) (x y : D) : R D := if isObj y = true then f x y else g x y
theorem CallR.or {X : Cx} {v : Value} {r r' : List V → Hp → VK → Prop} (h : CallR X v r) (h' : CallR X v r') : CallR X v (fun xs H Q => r xs H Q ∨ r' xs H Q) := by
  intro pins s σ H xs us Q I rv q
  rcases q with q | q
  · exact h pins s σ H xs us Q I rv q
  · exact h' pins s σ H xs us Q I rv q
theorem cs_or {K : PySem.W.Frag} {mg : Gm} {r r' : List V → Hp → VK → Prop} {f g : List D → R D} (h : CSn K mg r f) (h' : CSn K mg r' g) : CSn K mg (fun xs H Q => r xs H Q ∨ r' xs H Q) (orC f g) := by
  intro xs I H ds d Q ex rs e q
  unfold orC at e
  split at e
  · exact .inl (h xs I H _ d Q ex rs e q)
  · exact .inr (h' xs I H _ d Q ex rs e q)
theorem rs_orL {K : PySem.W.Frag} {mg : Gm} {r r' : R2} {f g : D → D → R D} (h : RSn K mg r f) (h' : RSn K mg r' g) : RSn K mg (fun x y H Q => r x y H Q ∨ r' x y H Q) (orL f g) := by
  intro x y I H dx dy d Q ex rx ry e q
  unfold orL at e
  split at e
  · exact .inl (h x y I H _ _ d Q ex rx ry e q)
  · exact .inr (h' x y I H _ _ d Q ex rx ry e q)
theorem o2_orR {f g : D → D → R D} (a b : R D) : o2 (orR f g) a b = o2 f a b ∨ o2 (orR f g) a b = o2 g a b :=
  o2_r (fun y => by
    by_cases h : isObj y = true
    · exact .inl fun x => if_pos h
    · exact .inr fun x => if_neg h) a b
section
variable {X : Cx} {P : Program} {w : World} {mg : Str → Option Value} {base : Heap} {j k : Nat} {tab ltab : List (Str × (List D → R D))} {itab : List (Str × Str)} {E : Wh} {e a b : Expr} {es : List Expr} {p pos : Pos} {tas : TA} {ta tb : TE} {ms : Env → R (List D)} {ma mb : Env → R D}
theorem me_lenA (K : PySem.W.Frag) (T : OpsAt P w K mg base "__len__" j 1 tab) (hr : Room k X.A) (hg : Gl X "len") (hm : X.mg "len" = none) (ha : MA X E (e :: es) tas ms) (hj : j + 1 ≤ k := by first | decide | omega) (h0 : E.x = fun _ => none := by rfl)
    (he : starEach (e :: es) X.env = (false, eval e X.env) :: starEach es X.env := by rfl) (hpl : (backTo pos (starEach es X.env)).any (·.1) = false := by rfl) (hP : X.prog = P := by rfl) (hw : X.w = w := by rfl) (hK : X.K = K := by rfl) (hmg : X.mg = mg := by rfl) (hbs : X.base = base := by rfl) :
    ME X E (.Call (.Name "len" p) (e :: es) [] pos) (tCB (fun xs H Q => rLenO K mg tab xs H Q ∨ rLenX K xs H Q) tas) (fun ρ => cbf (orC (lenO tab) lenD) (ms ρ)) := by
  subst hP hw hK hmg hbs
  obtain ⟨E1, E2⟩ := E
  have h0 : E2 = fun _ => none := h0
  subst h0
  exact me_callB (CallR.or (cr_lenO T (hr.mono hj)) cr_lenX) (cs_or cs_lenO cs_len) hg hm (by decide +kernel) ha (by decide) (by decide) he hpl
theorem me_listA (K : PySem.W.Frag) (T : ItsAt P w K mg base j itab) (L : OpsAt P w K mg base "__len__" j 1 ltab) (hr : Room k X.A) (hg : Gl X "list") (hm : X.mg "list" = none) (ha : MA X E (e :: es) tas ms) (hj : j + 3 ≤ k := by first | decide | omega) (h0 : E.x = fun _ => none := by rfl)
    (he : starEach (e :: es) X.env = (false, eval e X.env) :: starEach es X.env := by rfl) (hpl : (backTo pos (starEach es X.env)).any (·.1) = false := by rfl) (hP : X.prog = P := by rfl) (hw : X.w = w := by rfl) (hK : X.K = K := by rfl) (hmg : X.mg = mg := by rfl) (hbs : X.base = base := by rfl) :
    ME X E (.Call (.Name "list" p) (e :: es) [] pos) (tCB (fun xs H Q => rListO K mg itab ltab xs H Q ∨ rListOf K xs H Q) tas) (fun ρ => cbf (orC (listO itab ltab) listD) (ms ρ)) := by
  subst hP hw hK hmg hbs
  obtain ⟨E1, E2⟩ := E
  have h0 : E2 = fun _ => none := h0
  subst h0
  exact me_callTy (CallR.or (call_listO T L (hr.mono hj)) cr_listOf) (cs_or cs_listO cs_list) hg hm (by decide +kernel) ha (by decide) (by decide) he hpl
theorem me_inA' (K : PySem.W.Frag) (T : OpsAt P w K mg base "__contains__" j 2 tab) (hr : Room k X.A) (ha : ME X E a ta ma) (hb : ME X E b tb mb) (hj : j ≤ k := by first | decide | omega) (h0 : E.x = fun _ => none := by rfl) (hm : behindInMarks .In b = false := by rfl) (hP : X.prog = P := by rfl) (hw : X.w = w := by rfl) (hK : X.K = K := by rfl) (hmg : X.mg = mg := by rfl) (hbs : X.base = base := by rfl) :
    ME X E (.Compare a [.In] [b] pos) (fun σ H Q => tOp (rInO K mg tab) ta tb σ H Q ∨ ((tDIn ta tb σ H Q ∨ tOp (rInX K) ta tb σ H Q) ∨ tOp (rInP K) ta tb σ H Q)) (fun ρ => o2 (orR (inO tab) inG) (ma ρ) (mb ρ)) := by
  subst hP hw hK hmg hbs
  obtain ⟨E1, E2⟩ := E
  have h0 : E2 = fun _ => none := h0
  subst h0
  have h1 : ME X ⟨E1, fun _ => none⟩ (.Compare a [.In] [b] pos) _ _ := me_cmp (op := .In) (op_inO T (hr.mono hj)) rs_inO ha hb hm
  have h2 : ME X ⟨E1, fun _ => none⟩ (.Compare a [.In] [b] pos) _ _ := me_inG X.K (hu65 hr) ha hb hm
  exact ⟨PE.or h1.pe h2.pe, sn_or h1.sn h2.sn fun ρ => o2_orR _ _⟩
theorem me_ninA' (K : PySem.W.Frag) (T : OpsAt P w K mg base "__contains__" j 2 tab) (hr : Room k X.A) (ha : ME X E a ta ma) (hb : ME X E b tb mb) (hj : j ≤ k := by first | decide | omega) (h0 : E.x = fun _ => none := by rfl) (hm : behindInMarks .NotIn b = false := by rfl) (hP : X.prog = P := by rfl) (hw : X.w = w := by rfl) (hK : X.K = K := by rfl) (hmg : X.mg = mg := by rfl) (hbs : X.base = base := by rfl) :
    ME X E (.Compare a [.NotIn] [b] pos) (fun σ H Q => tOp (fun x y H Q => rInO K mg tab x y H fun v H' => ∃ b : Bool, v = .bl b ∧ Q (.bl !b) H') ta tb σ H Q ∨ ((tDNotIn ta tb σ H Q ∨ tOp (rNinX K) ta tb σ H Q) ∨ tOp (rNinP K) ta tb σ H Q)) (fun ρ => o2 (orR (fun x y => notD (inO tab x y)) ninG) (ma ρ) (mb ρ)) := by
  subst hP hw hK hmg hbs
  obtain ⟨E1, E2⟩ := E
  have h0 : E2 = fun _ => none := h0
  subst h0
  have h1 : ME X ⟨E1, fun _ => none⟩ (.Compare a [.NotIn] [b] pos) _ _ := me_cmp (op := .NotIn) (op_ninO T (hr.mono hj)) rs_ninO ha hb hm
  have h2 : ME X ⟨E1, fun _ => none⟩ (.Compare a [.NotIn] [b] pos) _ _ := me_ninG X.K (hu65 hr) ha hb hm
  exact ⟨PE.or h1.pe h2.pe, sn_or h1.sn h2.sn fun ρ => o2_orR _ _⟩
theorem me_eqA (K : PySem.W.Frag) (T : OpsAt P w K mg base "__eq__" j 2 tab) (hr : Room k X.A) (ha : ME X E a ta ma) (hb : ME X E b tb mb) (hj : j ≤ k := by first | decide | omega) (h0 : E.x = fun _ => none := by rfl) (hm : behindInMarks .Eq b = false := by first | exact nomark _ | rfl) (hP : X.prog = P := by rfl) (hw : X.w = w := by rfl) (hK : X.K = K := by rfl) (hmg : X.mg = mg := by rfl) (hbs : X.base = base := by rfl) :
    ME X E (.Compare a [.Eq] [b] pos) (tOp (fun x y H Q => rEqO K mg tab x y H Q ∨ rEqD K x y H Q) ta tb) (fun ρ => o2 (orL (eqO tab) eqD) (ma ρ) (mb ρ)) := by
  subst hP hw hK hmg hbs
  obtain ⟨E1, E2⟩ := E
  have h0 : E2 = fun _ => none := h0
  subst h0
  exact me_cmp (op := .Eq) (OpR.or (op_eqO T (hr.mono hj)) (op_eqD hr.units)) (rs_orL rs_eqO rs_eq) ha hb hm
end
section
variable {X : Cx} {P : Program} {w : World} {mg : Str → Option Value} {base : Heap} {j k : Nat} {tab ltab : List (Str × (List D → R D))} {E : Wh} {a b : Expr} {pos : Pos} {ta tb : TE} {ma mb : Env → R D}
theorem mt_inA' (K : PySem.W.Frag) (T : OpsAt P w K mg base "__contains__" j 2 tab) (hr : Room k X.A) (ha : ME X E a ta ma) (hb : ME X E b tb mb) (hj : j ≤ k := by first | decide | omega) (h0 : E.x = fun _ => none := by rfl) (hm : behindInMarks .In b = false := by rfl) (hP : X.prog = P := by rfl) (hw : X.w = w := by rfl) (hK : X.K = K := by rfl) (hmg : X.mg = mg := by rfl) (hbs : X.base = base := by rfl) :
    MT X E (.Compare a [.In] [b] pos) (fun σ H Q => tTest (tOp (rInO K mg tab) ta tb) σ H Q ∨ ((tB (tDIn ta tb) σ H Q ∨ tTest (tOp (rInX K) ta tb) σ H Q) ∨ tTest (tOp (rInP K) ta tb) σ H Q)) (fun ρ => tst (o2 (orR (inO tab) inG) (ma ρ) (mb ρ))) := by
  subst hP hw hK hmg hbs
  obtain ⟨E1, E2⟩ := E
  have h0 : E2 = fun _ => none := h0
  subst h0
  have h1 : MT X ⟨E1, fun _ => none⟩ (.Compare a [.In] [b] pos) _ _ := mt_cmp (op := .In) (op_inO T (hr.mono hj)) rs_inO ha hb hm
  have h2 : MT X ⟨E1, fun _ => none⟩ (.Compare a [.In] [b] pos) _ _ := mt_inG X.K (hu65 hr) ha hb hm
  exact ⟨PT.or h1.pe h2.pe, sn_or h1.sn h2.sn fun ρ => tst_or (o2_orR _ _)⟩
theorem mt_ninA' (K : PySem.W.Frag) (T : OpsAt P w K mg base "__contains__" j 2 tab) (hr : Room k X.A) (ha : ME X E a ta ma) (hb : ME X E b tb mb) (hj : j ≤ k := by first | decide | omega) (h0 : E.x = fun _ => none := by rfl) (hm : behindInMarks .NotIn b = false := by rfl) (hP : X.prog = P := by rfl) (hw : X.w = w := by rfl) (hK : X.K = K := by rfl) (hmg : X.mg = mg := by rfl) (hbs : X.base = base := by rfl) :
    MT X E (.Compare a [.NotIn] [b] pos) (fun σ H Q => tTest (tOp (fun x y H Q => rInO K mg tab x y H fun v H' => ∃ b : Bool, v = .bl b ∧ Q (.bl !b) H') ta tb) σ H Q ∨ ((tB (tDNotIn ta tb) σ H Q ∨ tTest (tOp (rNinX K) ta tb) σ H Q) ∨ tTest (tOp (rNinP K) ta tb) σ H Q)) (fun ρ => tst (o2 (orR (fun x y => notD (inO tab x y)) ninG) (ma ρ) (mb ρ))) := by
  subst hP hw hK hmg hbs
  obtain ⟨E1, E2⟩ := E
  have h0 : E2 = fun _ => none := h0
  subst h0
  have h1 : MT X ⟨E1, fun _ => none⟩ (.Compare a [.NotIn] [b] pos) _ _ := mt_cmp (op := .NotIn) (op_ninO T (hr.mono hj)) rs_ninO ha hb hm
  have h2 : MT X ⟨E1, fun _ => none⟩ (.Compare a [.NotIn] [b] pos) _ _ := mt_ninG X.K (hu65 hr) ha hb hm
  exact ⟨PT.or h1.pe h2.pe, sn_or h1.sn h2.sn fun ρ => tst_or (o2_orR _ _)⟩
theorem mt_eqA (K : PySem.W.Frag) (T : OpsAt P w K mg base "__eq__" j 2 tab) (hr : Room k X.A) (ha : ME X E a ta ma) (hb : ME X E b tb mb) (hj : j ≤ k := by first | decide | omega) (h0 : E.x = fun _ => none := by rfl) (hm : behindInMarks .Eq b = false := by first | exact nomark _ | rfl) (hP : X.prog = P := by rfl) (hw : X.w = w := by rfl) (hK : X.K = K := by rfl) (hmg : X.mg = mg := by rfl) (hbs : X.base = base := by rfl) :
    MT X E (.Compare a [.Eq] [b] pos) (tTest (tOp (fun x y H Q => rEqO K mg tab x y H Q ∨ rEqD K x y H Q) ta tb)) (fun ρ => tst (o2 (orL (eqO tab) eqD) (ma ρ) (mb ρ))) := by
  subst hP hw hK hmg hbs
  obtain ⟨E1, E2⟩ := E
  have h0 : E2 = fun _ => none := h0
  subst h0
  exact mt_cmp (op := .Eq) (OpR.or (op_eqO T (hr.mono hj)) (op_eqD hr.units)) (rs_orL rs_eqO rs_eq) ha hb hm
end
/-- what is not walked -/
theorem me_stuck {X : Cx} {E : Wh} {e : Expr} : ME X E e (fun _ _ _ => False) (fun _ => .stuck) := ⟨⟨fun _ _ _ _ _ _ h => h.elim⟩, fun _ _ _ _ _ _ _ h => h.elim⟩
end DL
namespace DL
open PySem PySem.Spec L2

/-! ### list(range(a, b)), tuple(range(a, b)), xs[::-1] -/
def rgT2 : List D → R D
  | [.int i, .int j] => rgT i j
  | _ => .stuck
def rgLv2 : List D → R D
  | [.int i, .int j] => rgLv i j
  | _ => .stuck
section
variable {X : Cx} {E : Wh} {a b : Expr} {ta tb : TE} {ma mb : Env → R D} {p p2 pos pos2 : Pos}
theorem acons_two {r q : R D} {f : List D → R D} : dsp f (acons r (acons q (.ok []))) = (r >>= fun d => q >>= fun e => f [d, e]) := by
  cases r with
  | ok d => cases q <;> rfl
  | err _ _ => rfl
  | stuck => rfl
theorem acons_twoN {r q : R D} {f : List D → R (List D)} : dsp f (acons r (acons q (.ok []))) = (r >>= fun d => q >>= fun e => f [d, e]) := by
  cases r with
  | ok d => cases q <;> rfl
  | err _ _ => rfl
  | stuck => rfl
theorem me_tupRg2 (hg : Gl X "tuple") (hm : X.mg "tuple" = none) (hg2 : Gl X "range") (hm2 : X.mg "range" = none) (ha : ME X E a ta ma) (hb : ME X E b tb mb) (hc : X.calm = true := by rfl) (na : starEach [a, b] X.env = (false, eval a X.env) :: starEach [b] X.env := by rfl) (na2 : starEach [b] X.env = (false, eval b X.env) :: starEach [] X.env := by rfl) (npl : (backTo pos2 (starEach [b] X.env)).any (·.1) = false := by rfl)
    (nb : starEach [.Call (.Name "range" p2) [a, b] [] pos2] X.env = (false, eval (.Call (.Name "range" p2) [a, b] [] pos2) X.env) :: starEach [] X.env := by rfl) :
    ME X E (.Call (.Name "tuple" p) [.Call (.Name "range" p2) [a, b] [] pos2] [] pos) (tTupRg (tRg2 ta tb)) (fun ρ => dsp rgT2 (acons (ma ρ) (acons (mb ρ) (.ok [])))) := by
  obtain ⟨pt, st⟩ := ha
  obtain ⟨pt2, st2⟩ := hb
  refine ⟨pe_tupRg hc hg hm (prg_2 hg2 hm2 pt pt2 na na2 npl) nb, fun σ I H ρ Q re ex h => ?_⟩
  have h : Out X.K (gm X E) (E.e σ) (Rep X.K (gm X E)) I H (dsp rgT2 (acons (ma ρ) (acons (mb ρ) (.ok [])))) Q := h
  rw [acons_two] at h
  refine st.run re ex h fun d v I1 H1 _ s1 rs h => ?_
  refine st2.run (re.mono s1.i) s1.e h fun d2 v2 I2 H2 _ s2 rs2 h => ?_
  cases rs with
  | int i =>
    cases rs2 with
    | int j =>
      obtain ⟨⟨h1, h2, h3, h4, h5⟩, h⟩ := out_if h
      exact ⟨i, j, rfl, rfl, ⟨h1, h2, h3, h4, Nat.le_trans h5 (by decide)⟩, fun q hq => h.there (.new s2.e hq) (new_tup s2.e hq (rgV_reps i j))⟩
    | _ => exact h.elim
  | _ => exact h.elim
theorem me_lstRg2 (hg : Gl X "list") (hm : X.mg "list" = none) (hg2 : Gl X "range") (hm2 : X.mg "range" = none) (ha : ME X E a ta ma) (hb : ME X E b tb mb) (hc : X.calm = true := by rfl) (na : starEach [a, b] X.env = (false, eval a X.env) :: starEach [b] X.env := by rfl) (na2 : starEach [b] X.env = (false, eval b X.env) :: starEach [] X.env := by rfl) (npl : (backTo pos2 (starEach [b] X.env)).any (·.1) = false := by rfl)
    (nb : starEach [.Call (.Name "range" p2) [a, b] [] pos2] X.env = (false, eval (.Call (.Name "range" p2) [a, b] [] pos2) X.env) :: starEach [] X.env := by rfl) :
    ME X E (.Call (.Name "list" p) [.Call (.Name "range" p2) [a, b] [] pos2] [] pos) (tLstRg (tRg2 ta tb)) (fun ρ => dsp rgLv2 (acons (ma ρ) (acons (mb ρ) (.ok [])))) := by
  obtain ⟨pt, st⟩ := ha
  obtain ⟨pt2, st2⟩ := hb
  refine ⟨pe_listRg hc hg hm (prg_2 hg2 hm2 pt pt2 na na2 npl) nb, fun σ I H ρ Q re ex h => ?_⟩
  have h : Out X.K (gm X E) (E.e σ) (Rep X.K (gm X E)) I H (dsp rgLv2 (acons (ma ρ) (acons (mb ρ) (.ok [])))) Q := h
  rw [acons_two] at h
  refine st.run re ex h fun d v I1 H1 _ s1 rs h => ?_
  refine st2.run (re.mono s1.i) s1.e h fun d2 v2 I2 H2 _ s2 rs2 h => ?_
  cases rs with
  | int i =>
    cases rs2 with
    | int j =>
      obtain ⟨⟨h1, h2, h3, h4, h5⟩, h⟩ := out_if h
      exact ⟨i, j, rfl, rfl, ⟨h1, h2, h3, h4, Nat.le_trans h5 (by decide)⟩, fun q hq => h.there (.new s2.e hq) (new_lst s2.e hq (rgV_reps i j))⟩
    | _ => exact h.elim
  | _ => exact h.elim
theorem mn_rg2 {E : XK} (hc : X.calm = true) (hg : Gl X "list") (hm : X.mg "list" = none) (hg2 : Gl X "range") (hm2 : X.mg "range" = none) (ha : ME X (kE E) a ta ma) (hb : ME X (kE E) b tb mb) (na : starEach [a, b] X.env = (false, eval a X.env) :: starEach [b] X.env := by rfl) (na2 : starEach [b] X.env = (false, eval b X.env) :: starEach [] X.env := by rfl) (npl : (backTo pos2 (starEach [b] X.env)).any (·.1) = false := by rfl)
    (nb : starEach [.Call (.Name "range" p2) [a, b] [] pos2] X.env = (false, eval (.Call (.Name "range" p2) [a, b] [] pos2) X.env) :: starEach [] X.env := by rfl) :
    MN X E (.Call (.Name "list" p) [.Call (.Name "range" p2) [a, b] [] pos2] [] pos) (tLstRg (tRg2 ta tb)) (fun ρ => dsp rgL2 (acons (ma ρ) (acons (mb ρ) (.ok [])))) := by
  obtain ⟨pt, st⟩ := ha
  obtain ⟨pt2, st2⟩ := hb
  refine ⟨pe_listRg hc hg hm (prg_2 hg2 hm2 pt pt2 na na2 npl) nb, fun σ I H ρ Q re ex h => ?_⟩
  have h : OutN X.K (g0 X.mg) E I H (dsp rgL2 (acons (ma ρ) (acons (mb ρ) (.ok [])))) Q := h
  rw [acons_twoN] at h
  refine st.runN re ex h fun d v I1 H1 _ s1 rs h => ?_
  refine st2.runN (re.mono s1.i) s1.e h fun d2 v2 I2 H2 _ s2 rs2 h => ?_
  cases rs with
  | int i =>
    cases rs2 with
    | int j =>
      obtain ⟨⟨h1, h2, h3, h4, h5⟩, h⟩ := outN_if h
      exact ⟨i, j, rfl, rfl, ⟨h1, h2, h3, h4, Nat.le_trans h5 (by decide)⟩, fun q hq => h.new s2.e hq (rgV_reps i j)⟩
    | _ => exact h.elim
  | _ => exact h.elim
/-- xs[::-1], xs a list -/
def revD : D → R D
  | .lst ds => .ok (.lst ds.reverse)
  | _ => .stuck
theorem me_revL {k : Nat} {p1 p3 : Pos} (K : PySem.W.Frag) (ha : ME X E a ta ma) (hK : X.K = K := by rfl) : ME X E (.Subscript a (.Slice none none (some (.UnaryOp .USub (.Constant (.int 1) k p1) p2)) p3) pos) (tRevL K ta) (fun ρ => o1 revD (ma ρ)) := by
  subst hK
  obtain ⟨pt, st⟩ := ha
  refine ⟨pe_revL pt, fun σ I H ρ Q re ex h => ?_⟩
  refine st.run re ex h fun d v I1 H1 _ s1 rx h => ?_
  obtain ⟨z, hz, h⟩ := out_calm h
  cases rx with
  | @lst q vs ds hh ra =>
    cases hz
    exact ⟨q, vs, rfl, SqL.of (s1.e _ _ hh), fun q2 hq => h _ _ _ (.new s1.e hq) (new_lst s1.e hq ra.rev)⟩
  | _ => cases hz
end
end DL
namespace DL
open PySem PySem.Spec L2

/-! ### rows of some of the items, in order -/
def combI : Nat → List Int → List (List Int)
  | 0, _ => [[]]
  | _ + 1, [] => []
  | k + 1, x :: xs => (combI k xs).map (x :: ·) ++ combI (k + 1) xs
theorem combI_short : ∀ (k : Nat) (xs : List Int), xs.length < k → combI k xs = []
  | 0, _, h => absurd h (by omega)
  | k + 1, [], _ => rfl
  | k + 1, x :: xs, h => by
    simp only [List.length_cons] at h
    simp only [combI]
    rw [combI_short k xs (by omega), combI_short (k + 1) xs (by omega)]
    rfl
theorem combI_flat (s : Nat) : ∀ xs : List Int, combI (s + 1) xs = (List.range (xs.length - s)).flatMap fun i => (combI s (xs.drop (i + 1))).map (xs.getD i 0 :: ·)
  | [] => by simp [combI]
  | x :: xs => by
    have ih := combI_flat s xs
    simp only [combI]
    by_cases h : xs.length < s
    · rw [combI_short s xs h, combI_short (s + 1) xs (by omega)]
      have : (x :: xs).length - s = 0 := by simp; omega
      rw [this]
      rfl
    · have : (x :: xs).length - s = (xs.length - s) + 1 := by simp; omega
      rw [this, List.range_succ_eq_map, List.flatMap_cons, ih, List.flatMap_map]
      rfl
theorem mem_combI : ∀ (k : Nat) (xs r : List Int), r ∈ combI k xs ↔ r.Sublist xs ∧ r.length = k
  | 0, xs, r => by
    simp only [combI, List.mem_singleton]
    constructor
    · rintro rfl
      exact ⟨List.nil_sublist _, rfl⟩
    · rintro ⟨_, h⟩
      exact List.eq_nil_of_length_eq_zero h
  | k + 1, [], r => by
    simp only [combI, List.not_mem_nil, false_iff]
    rintro ⟨h, h2⟩
    rw [List.sublist_nil.mp h] at h2
    cases h2
  | k + 1, x :: xs, r => by
    simp only [combI, List.mem_append, List.mem_map, mem_combI k xs, mem_combI (k + 1) xs]
    constructor
    · rintro (⟨q, ⟨h1, h2⟩, rfl⟩ | ⟨h1, h2⟩)
      · exact ⟨h1.cons_cons x, by simp [h2]⟩
      · exact ⟨h1.cons x, h2⟩
    · rintro ⟨h1, h2⟩
      cases h1 with
      | cons _ h => exact .inr ⟨h, h2⟩
      | cons_cons _ h => exact .inl ⟨_, ⟨h, by simpa using h2⟩, rfl⟩
def Asc (r : List Int) : Prop := r.Pairwise (· < ·)
theorem Asc.nodup {r : List Int} (h : Asc r) : r.Nodup := h.imp fun h e => by omega
/-- rows in order, each once -/
def AscR (Q : List (List Int)) : Prop := Q.Pairwise fun a b => lexL a b = true
theorem AscR.nodup {Q : List (List Int)} (h : AscR Q) : Q.Nodup := h.imp fun h e => by
  rw [e, lexL_irr] at h
  cases h
theorem combI_ascR : ∀ (k : Nat) (xs : List Int), Asc xs → AscR (combI k xs)
  | 0, _, _ => by
    rw [combI]
    exact List.pairwise_singleton _ _
  | _ + 1, [], _ => .nil
  | k + 1, x :: xs, h => by
    obtain ⟨h1, h2⟩ := List.pairwise_cons.mp h
    simp only [combI]
    refine List.pairwise_append.mpr ⟨?_, combI_ascR (k + 1) xs h2, ?_⟩
    · refine List.pairwise_map.mpr ((combI_ascR k xs h2).imp fun {a b} hab => ?_)
      show lexL (x :: a) (x :: b) = true
      simp only [lexL, if_pos]
      exact hab
    · intro a ha b hb
      obtain ⟨q, _, rfl⟩ := List.mem_map.mp ha
      obtain ⟨hs, hl⟩ := (mem_combI (k + 1) xs b).mp hb
      cases b with
      | nil => cases hl
      | cons y b =>
        have hy : y ∈ xs := hs.subset List.mem_cons_self
        have := h1 y hy
        simp only [lexL]
        rw [if_neg (by omega)]
        exact decide_eq_true this
theorem sortR_asc : ∀ Q : List (List Int), AscR Q → sortR Q = Q
  | [], _ => rfl
  | x :: Q, h => by
    obtain ⟨h1, h2⟩ := List.pairwise_cons.mp h
    show insR x (sortR Q) = _
    rw [sortR_asc Q h2]
    cases Q with
    | nil => rfl
    | cons y Q =>
      have := lexL_asym _ _ (h1 y List.mem_cons_self)
      simp only [insR, this]
      rfl
theorem lexL_tri : ∀ r q : List Int, lexL r q = false → lexL q r = false → r = q
  | [], [], _, _ => rfl
  | [], _ :: _, h, _ => by cases h
  | _ :: _, [], _, h => by cases h
  | x :: r, y :: q, h, h2 => by
    simp only [lexL] at h h2
    by_cases e : x = y
    · subst e
      rw [if_pos rfl] at h h2
      rw [lexL_tri r q h h2]
    · rw [if_neg e] at h
      rw [if_neg fun e2 => e e2.symm] at h2
      have := of_decide_eq_false h
      have := of_decide_eq_false h2
      omega
theorem sortR_ascR {Q : List (List Int)} (h : Q.Nodup) : AscR (sortR Q) := by
  have h1 := sortR_srt Q
  have h2 : (sortR Q).Nodup := (sortR_perm Q).nodup_iff.mpr h
  refine (h1.and h2).imp fun {a b} hab => ?_
  obtain ⟨h3, h4⟩ := hab
  cases e : lexL a b with
  | true => rfl
  | false => exact absurd (lexL_tri a b e h3) h4
theorem asc_le {r : List Int} (h : Asc r) : r.Pairwise (· ≤ ·) := h.imp fun h => by omega
theorem sorted_unique : ∀ {r q : List Int}, r.Pairwise (· ≤ ·) → q.Pairwise (· ≤ ·) → r.Perm q → r = q := by
  intro r q h1 h2 hp
  exact hp.eq_of_pairwise (fun a b _ _ h3 h4 => by omega) h1 h2
theorem sortI_asc {r : List Int} (h : Asc r) : sortI r = r := sorted_unique (sortI_srt r) (asc_le h) (sortI_perm r)
end DL
namespace DL
open PySem PySem.Spec L2
/-! ### mirrors on plain data where own classes are asked first -/
section
variable (f g : List D → R D) (p q : D → D → R D) (ds es : List D)
@[simp] theorem orC_lst : orC f g (.lst ds :: es) = g (.lst ds :: es) := rfl
@[simp] theorem orC_tup : orC f g (.tup ds :: es) = g (.tup ds :: es) := rfl
@[simp] theorem orC_scr (ns : List Int) : orC f g (.scr ns :: es) = g (.scr ns :: es) := rfl
theorem orC_rowD (r : List Int) : orC f g (rowD r :: es) = g (rowD r :: es) := rfl
theorem orC_rowL (r : List Int) : orC f g (rowL r :: es) = g (rowL r :: es) := rfl
@[simp] theorem orL_lst (y : D) : orL p q (.lst ds) y = q (.lst ds) y := rfl
@[simp] theorem orL_tup (y : D) : orL p q (.tup ds) y = q (.tup ds) y := rfl
@[simp] theorem orL_int (i : Int) (y : D) : orL p q (.int i) y = q (.int i) y := rfl
@[simp] theorem orR_lst (x : D) : orR p q x (.lst ds) = q x (.lst ds) := rfl
@[simp] theorem orR_tup (x : D) : orR p q x (.tup ds) = q x (.tup ds) := rfl
theorem orR_rowD (x : D) (r : List Int) : orR p q x (rowD r) = q x (rowD r) := rfl
@[simp] theorem itsO_lst (t : List (Str × Str)) : itsO t (.ok (.lst ds)) = .ok ds := rfl
@[simp] theorem itsO_tup (t : List (Str × Str)) : itsO t (.ok (.tup ds)) = .ok ds := rfl
theorem itsO_rowD (t : List (Str × Str)) (r : List Int) : itsO t (.ok (rowD r)) = .ok (r.map D.int) := rfl
end
theorem call1 (g : List D → DL.R D) (a : D) : call_ 1 g (.ok [a]) = g [a] := rfl
theorem call2 (g : List D → DL.R D) (a b : D) : call_ 2 g (.ok [a, b]) = g [a, b] := rfl
theorem call3 (g : List D → DL.R D) (a b c : D) : call_ 3 g (.ok [a, b, c]) = g [a, b, c] := rfl
theorem call4 (g : List D → DL.R D) (a b c d : D) : call_ 4 g (.ok [a, b, c, d]) = g [a, b, c, d] := rfl
theorem call5 (g : List D → DL.R D) (a b c d e : D) : call_ 5 g (.ok [a, b, c, d, e]) = g [a, b, c, d, e] := rfl
theorem callF2 (g : List D → DL.R (List D)) (a b : D) : callF 2 g (.ok [a, b]) = g [a, b] := rfl
theorem callF3 (g : List D → DL.R (List D)) (a b c : D) : callF 3 g (.ok [a, b, c]) = g [a, b, c] := rfl
theorem mod_nat (c : Int) {n : Nat} (h : 0 < n) : ∃ m : Nat, m < n ∧ c % (n : Int) = (m : Int) := by
  have h0 := Int.emod_nonneg c (show (n : Int) ≠ 0 by omega)
  have h1 := Int.emod_lt_of_pos c (show (0 : Int) < n by omega)
  exact ⟨(c % (n : Int)).toNat, by omega, by omega⟩
theorem modD_nat (c : Int) {n : Nat} (h : 0 < n) : ∃ m : Nat, m < n ∧ modD (.int c) (.int (n : Int)) = .ok (.int (m : Int)) := by
  obtain ⟨m, hm, e⟩ := mod_nat c h
  exact ⟨m, hm, by rw [modD_int (by omega), e]⟩
theorem try_err {T : Str → Str → Option Bool} {B : Str → String → Option Bool} {M : List Nat} {mb : DL.Env → DL.R Fl} {l : List Cl} {ρ : DL.Env} {n n' : Str} {ks : List Str} {es : List D} (h : mb ρ = .err n [.obj n' ks es]) : tryM T B M mb l ρ = clM T B M n ks es ρ l := by
  unfold tryM
  rw [h]
theorem try_nx {T : Str → Str → Option Bool} {B : Str → String → Option Bool} {M : List Nat} {mb : DL.Env → DL.R Fl} {l : List Cl} {ρ ρ' : DL.Env} (h : mb ρ = .ok (.nx ρ')) : tryM T B M mb l ρ = .ok (.nx ρ') := by
  unfold tryM
  rw [h]
theorem asg_err {i : Nat} {ρ : DL.Env} {a : DL.R D} {n : Str} {ds : List D} (h : a = .err n ds) : asg i ρ a = .err n ds := by
  subst h
  rfl
theorem drp_err {ρ : DL.Env} {a : DL.R D} {n : Str} {ds : List D} (h : a = .err n ds) : drp ρ a = .err n ds := by
  subst h
  rfl
theorem at_map {α : Type} (f : α → D) (d : α) {P : List α} {k : Nat} (h : k < P.length) : ixA (.lst (P.map f)) (.int (k : Int)) = .ok (f (P.getD k d)) := by
  refine ixD_lst f P k ?_
  rw [List.getD_eq_getElem?_getD, List.getElem?_eq_getElem h]
  rfl
theorem at_mapT {α : Type} (f : α → D) (d : α) {P : List α} {k : Nat} (h : k < P.length) : ixA (.tup (P.map f)) (.int (k : Int)) = .ok (f (P.getD k d)) := by
  have : ixA (.tup (P.map f)) (.int (k : Int)) = ixA (.lst (P.map f)) (.int (k : Int)) := rfl
  rw [this]
  exact at_map f d h
theorem getD_mem2 {α : Type} (d : α) {P : List α} {k : Nat} (h : k < P.length) : P.getD k d ∈ P := by
  rw [List.getD_eq_getElem?_getD, List.getElem?_eq_getElem h]
  exact List.getElem_mem h
/-- 0, 1, .., n - 1 -/
def iotaI (n : Nat) : List Int := (List.range n).map fun (i : Nat) => (i : Int)
/-- 1, .., n -/
def iota1 (n : Nat) : List Int := (List.range n).map fun (i : Nat) => 1 + (i : Int)
theorem iotaI_len (n : Nat) : (iotaI n).length = n := by simp [iotaI]
theorem iota1_len (n : Nat) : (iota1 n).length = n := by simp [iota1]
theorem mem_iotaI (n : Nat) (x : Int) : x ∈ iotaI n ↔ 0 ≤ x ∧ x < n := by
  simp only [iotaI, List.mem_map, List.mem_range]
  constructor
  · rintro ⟨i, hi, rfl⟩
    omega
  · rintro ⟨h0, h1⟩
    exact ⟨x.toNat, by omega, by omega⟩
theorem mem_iota1 (n : Nat) (x : Int) : x ∈ iota1 n ↔ 1 ≤ x ∧ x ≤ n := by
  simp only [iota1, List.mem_map, List.mem_range]
  constructor
  · rintro ⟨i, hi, rfl⟩
    omega
  · rintro ⟨h0, h1⟩
    exact ⟨(x - 1).toNat, by omega, by omega⟩
theorem iotaI_asc (n : Nat) : Asc (iotaI n) := by
  unfold Asc iotaI
  refine List.pairwise_map.mpr ?_
  exact List.pairwise_lt_range.imp fun h => by omega
theorem iota1_asc (n : Nat) : Asc (iota1 n) := by
  unfold Asc iota1
  refine List.pairwise_map.mpr ?_
  exact List.pairwise_lt_range.imp fun h => by omega
theorem rgT1_nat {n : Nat} (h : n ≤ LIM) : rgT1 [.int (n : Int)] = .ok (rowD (iotaI n)) := by
  have h : n ≤ 1000000 := h
  show rgT 0 (n : Int) = _
  unfold rgT
  rw [if_pos ⟨by omega, by omega, by omega, by omega, by show ((n : Int) - 0).toNat ≤ 1000000; omega⟩, Int.sub_zero, Int.toNat_natCast, rangeD_01]
  unfold rowD iotaI
  rw [List.map_map]
  rfl
theorem rgLv2_1 {n : Nat} (h : n ≤ 100000) : rgLv2 [.int 1, .int ((n : Int) + 1)] = .ok (rowL (iota1 n)) := by
  show rgLv 1 ((n : Int) + 1) = _
  unfold rgLv
  have e : ((n : Int) + 1 - 1).toNat = n := by omega
  rw [if_pos ⟨by omega, by omega, by omega, by omega, by show ((n : Int) + 1 - 1).toNat ≤ 1000000; omega⟩, e]
  unfold rowL iota1 rangeD
  rw [List.map_map]
  refine congrArg (fun x => DL.R.ok (D.lst x)) (List.map_congr_left fun i _ => ?_)
  show D.int (1 + (i : Int) * 1) = D.int (1 + (i : Int))
  rw [Int.mul_one]
end DL
namespace DL
open PySem PySem.Spec L2
/-! ### d[k] = v with an int -/
def setC (f : List Int) (z : Int) : List (List Int × Int) → List (List Int × Int)
  | [] => [(f, z)]
  | p :: C => if p.1 = f then (p.1, z) :: C else p :: setC f z C
theorem setC_put (f : List Int) (z : Int) : ∀ (C : List (List Int × Int)), (C.map fun p => p.1).Nodup → putKs (kyI f) (C.map fun p => kyI p.1) = (setC f z C).map (fun p => kyI p.1) ∧ putKd (kyI f) (.int z) (C.map fun p => kyI p.1) (C.map fun p => D.int p.2) = (setC f z C).map fun p => D.int p.2
  | [], _ => by simp [putKs, putKd, setC]
  | p :: C, hn => by
    rw [List.map_cons, List.nodup_cons] at hn
    obtain ⟨h1, h2⟩ := setC_put f z C hn.2
    unfold putKs at h1
    unfold putKd at h2
    unfold putKs putKd
    by_cases h : p.1 = f
    · have hm : kyI f ∈ (p :: C).map (fun p => kyI p.1) := by
        rw [List.map_cons, h]
        exact List.mem_cons_self
      have hno : ∀ C' : List (List Int × Int), f ∉ C'.map (fun p => p.1) → ∀ d : D, repK (kyI f) d (C'.map fun p => kyI p.1) (C'.map fun p => D.int p.2) = C'.map fun p => D.int p.2 := by
        intro C'
        induction C' with
        | nil => intro _ d; rfl
        | cons q C' ih =>
          intro hq d
          simp only [List.map_cons, List.mem_cons, not_or] at hq
          simp only [List.map_cons, repK]
          rw [if_neg fun e => hq.1 (kyI_inj.mp e).symm, ih hq.2 d]
      rw [if_pos hm, if_pos hm]
      simp only [List.map_cons, repK, setC, if_pos h, if_pos (kyI_inj.mpr h)]
      rw [hno C (h ▸ hn.1)]
      exact ⟨trivial, rfl⟩
    · have hk : ¬ kyI p.1 = kyI f := fun e => h (kyI_inj.mp e)
      by_cases hm : kyI f ∈ C.map (fun p => kyI p.1)
      · have hm1 : kyI f ∈ (p :: C).map (fun p => kyI p.1) := List.mem_cons_of_mem _ hm
        rw [if_pos hm] at h1 h2
        rw [if_pos hm1, if_pos hm1]
        simp only [List.map_cons, setC, if_neg h, repK]
        rw [if_neg hk, h2, ← h1]
        exact ⟨rfl, rfl⟩
      · rw [if_neg hm] at h1 h2
        have hm2 : kyI f ∉ (p :: C).map (fun p => kyI p.1) := fun e => by
          rcases List.mem_cons.mp e with e | e
          · exact hk e.symm
          · exact hm e
        rw [if_neg hm2, if_neg hm2]
        simp only [List.map_cons, setC, if_neg h]
        rw [← h1, ← h2]
        exact ⟨rfl, rfl⟩
theorem setC_keys (f : List Int) (z : Int) : ∀ C : List (List Int × Int), (C.map fun p => p.1).Nodup → ((setC f z C).map fun p => p.1).Nodup ∧ ∀ g, g ∈ (setC f z C).map (fun p => p.1) ↔ g = f ∨ g ∈ C.map fun p => p.1
  | [], _ => by simp [setC]
  | p :: C, hn => by
    rw [List.map_cons, List.nodup_cons] at hn
    obtain ⟨h1, h2⟩ := setC_keys f z C hn.2
    simp only [setC]
    by_cases h : p.1 = f
    · rw [if_pos h]
      simp only [List.map_cons, List.nodup_cons, List.mem_cons]
      refine ⟨⟨hn.1, hn.2⟩, fun g => ?_⟩
      rw [h]
      constructor
      · rintro (e | e)
        · exact .inl e
        · exact .inr (.inr e)
      · rintro (e | e | e)
        · exact .inl e
        · exact .inl e
        · exact .inr e
    · rw [if_neg h]
      simp only [List.map_cons, List.nodup_cons, List.mem_cons]
      refine ⟨⟨fun e => ?_, h1⟩, fun g => ?_⟩
      · rcases (h2 _).mp e with e | e
        · exact h e
        · exact hn.1 e
      · rw [h2]
        constructor
        · rintro (e | e | e)
          · exact .inr (.inl e)
          · exact .inl e
          · exact .inr (.inr e)
        · rintro (e | e | e)
          · exact .inr (.inl e)
          · exact .inl e
          · exact .inr (.inr e)
theorem dput_set {M : List Nat} {i : Nat} {ρ : Env} {a k : R D} {f : List Int} {z : Int} {C : List (List Int × Int)} (hg : get ρ i = .ok (cntD C)) (hr : k = .ok (rowD f)) (ha : a = .ok (.int z)) (hk : keepOk M ρ (.int z) = true) (hl : C.length < LIM) (hn : (C.map fun p => p.1).Nodup) :
    dputS M i ρ a k = .ok (.nx (ρ.set i (some (cntD (setC f z C))))) := by
  obtain ⟨h1, h2⟩ := setC_put f z C hn
  unfold dputS
  rw [ha, ok_bind, if_pos hk, hg, calm_ok, ok_bind, hr, ok_bind]
  show (match keysD (f.map D.int) with
    | some k => if (C.map fun (p : List Int × Int) => kyI p.1).length < LIM then R.ok (Fl.nx (ρ.set i (some (.dt (putKs k (C.map fun (p : List Int × Int) => kyI p.1)) (putKd k (.int z) (C.map fun (p : List Int × Int) => kyI p.1) (C.map fun (p : List Int × Int) => D.int p.2)))))) else .stuck
    | none => .stuck) = _
  rw [keysD_ints]
  show (if (C.map fun (p : List Int × Int) => kyI p.1).length < LIM then R.ok (Fl.nx (ρ.set i (some (.dt (putKs (kyI f) (C.map fun (p : List Int × Int) => kyI p.1)) (putKd (kyI f) (.int z) (C.map fun (p : List Int × Int) => kyI p.1) (C.map fun (p : List Int × Int) => D.int p.2)))))) else .stuck) = _
  rw [if_pos (by rw [List.length_map]; exact hl), h1, h2]
  rfl
/-! ### sets of rows -/
theorem nodup_len {α : Type} [DecidableEq α] : ∀ (Q L : List α), Q.Nodup → (∀ q ∈ Q, q ∈ L) → Q.length ≤ L.length
  | [], L, _, _ => Nat.zero_le _
  | q :: Q, L, hn, h => by
    rw [List.nodup_cons] at hn
    have hq := h q List.mem_cons_self
    have ih := nodup_len Q (L.erase q) hn.2 fun x hx => (List.mem_erase_of_ne (fun e => hn.1 (by rw [← e]; exact hx))).mpr (h x (List.mem_cons_of_mem _ hx))
    rw [List.length_erase_of_mem hq] at ih
    have := List.length_pos_of_mem hq
    simp only [List.length_cons]
    omega
theorem sub_of_asc : ∀ (xs r : List Int), Asc xs → Asc r → (∀ p ∈ r, p ∈ xs) → r.Sublist xs
  | [], r, _, _, h => by
    cases r with
    | nil => exact .slnil
    | cons p r => exact absurd (h p List.mem_cons_self) (by simp)
  | x :: xs, [], _, _, _ => List.nil_sublist _
  | x :: xs, y :: r, hx, hr, h => by
    obtain ⟨x1, x2⟩ := List.pairwise_cons.mp hx
    obtain ⟨r1, r2⟩ := List.pairwise_cons.mp hr
    by_cases e : y = x
    · subst e
      refine (sub_of_asc xs r x2 r2 fun p hp => ?_).cons_cons y
      rcases List.mem_cons.mp (h p (List.mem_cons_of_mem _ hp)) with e | e
      · have := r1 p hp
        omega
      · exact e
    · have hy : y ∈ xs := by
        rcases List.mem_cons.mp (h y List.mem_cons_self) with e2 | e2
        · exact absurd e2 e
        · exact e2
      refine (sub_of_asc xs (y :: r) x2 hr fun p hp => ?_).cons x
      rcases List.mem_cons.mp (h p hp) with e2 | e2
      · have h1 := x1 y hy
        rcases List.mem_cons.mp hp with e3 | e3
        · omega
        · have := r1 p e3
          omega
      · exact e2
/-- rooms of a size over places -/
def RoomR (n s : Nat) (r : List Int) : Prop := r.length = s ∧ Asc r ∧ ∀ p ∈ r, 0 ≤ p ∧ p < n
theorem mem_comb_iota (n s : Nat) (r : List Int) : r ∈ combI s (iotaI n) ↔ RoomR n s r := by
  rw [mem_combI]
  constructor
  · rintro ⟨h1, h2⟩
    exact ⟨h2, (iotaI_asc n).sublist h1, fun p hp => (mem_iotaI n p).mp (h1.subset hp)⟩
  · rintro ⟨h1, h2, h3⟩
    exact ⟨sub_of_asc _ _ (iotaI_asc n) h2 fun p hp => (mem_iotaI n p).mpr (h3 p hp), h1⟩
end DL
namespace Lk32
open PySem PySem.Spec PyProof.Rows L2 DL
set_option maxHeartbeats 4000000
def topS (i : Nat) : Stmt := PySem.Challenge.pw_neveralone_k32_full_rooms_by_definition.main.body.getD i (.Pass ⟨0, 0, 0, 0⟩)
def xT : Str → Str → Option Bool := tab [("BadBook", "BadLabels", false), ("BadBook", "NeverAloneError", true), ("BadBook", "BadBook", true), ("Mismatch", "BadLabels", false), ("Mismatch", "NeverAloneError", true), ("Mismatch", "BadBook", false), ("BadLabels", "BadLabels", true), ("BadLabels", "NeverAloneError", true), ("BadLabels", "BadBook", false)]
def xB : Str → String → Option Bool := tab [("BadBook", "ValueError", true), ("Mismatch", "ValueError", true), ("BadLabels", "ValueError", true)]
def oT : Str → Str → Option Bool := tab [("Book", "Book", true)]
def oB : Str → String → Option Bool := tab [("Book", "list", false), ("Book", "tuple", false), ("Book", "int", false), ("Book", "bool", false)]
section
variable {P : Program} {w : World} {K : PySem.W.Frag} {mg : Str → Option Value} {base : Heap}
abbrev s_Book_len : Stmt := inC (topS 15) 4
abbrev N_Book_len : List Str := ["self"]
theorem sc_Book_len : FnScope N_Book_len ["self"] (defScope s_Book_len) := ⟨rfl, rfl, rfl, by decide +kernel, rfl, by decide +kernel, by decide +kernel⟩
def b_Book_len : DL.Env → R Fl := fun r => (ret (cbf lenD (acons (o1 (fldD ["Book"] "rooms") (get r 0)) (.ok []))))
def m_Book_len : List D → R D := runX 1 b_Book_len
theorem t_Book___len__ {f : Addr} {fd : FuncData} (F : Fun K "__len__" "Book.__len__" s_Book_len f fd) (b : Binds K fd ["self"] []) {C_Book : Addr} (h_Book : mg "Book" = some (.ref C_Book)) (b_len : mg "len" = none) (f_rooms : ClF K (g0 mg) ["Book"] "rooms") (hc : Cls K C_Book) (hm : Meth K C_Book "__len__" f) : MtAt P w K mg base "Book" C_Book "__len__" 1 1 m_Book_len :=
  MtAt.mk' (M := []) (M' := []) F h_Book hc hm b sc_Book_len (by decide) fun cdv A outer s H E hr => ⟨_,
(mss_one (ms_ret (me_callB (r := rLenX K) cr_lenX cs_len (by rfl) b_len (by decide +kernel) (ma_cons (me_fldK K ["Book"] f_rooms (me_var 0)) ma_nil))))⟩
def opT_len : List (Str × (List D → R D)) := [("Book", m_Book_len)]
abbrev s__law_cell : Stmt := topS 23
abbrev N__law_cell : List Str := ["_law_script", "_law_k", "_law_cell_here"]
theorem sc__law_cell : FnScope N__law_cell ["_law_script", "_law_k"] (defScope s__law_cell) := ⟨rfl, rfl, rfl, by decide +kernel, rfl, by decide +kernel, by decide +kernel⟩
def b__law_cell : DL.Env → R Fl := fun r => (then_ (asg 2 r (o2 addD (o2 mulD (.ok (.int 17)) (get r 1)) (.ok (.int 5)))) (fun r => (then_ (ifv (tst (o2 ltD (get r 1) (cbf (orC (lenO opT_len) lenD) (acons (get r 0) (.ok []))))) (then_ (asg 2 r (cbf absD (acons (o2 ixA (get r 0) (get r 1)) (.ok [])))) (fun r => (ifv (tst (o2 geX (get r 2) (o2 powD (.ok (.int 10)) (.ok (.int 18))))) (ret (o2 subD (get r 2) (o2 powD (.ok (.int 10)) (.ok (.int 18))))) (.ok (.nx r))))) (ifv (tst (o2 gtD (cbf (orC (lenO opT_len) lenD) (acons (get r 0) (.ok []))) (.ok (.int 0)))) (asg 2 r (o2 addD (cbf absD (acons (o2 ixA (get r 0) (o2 modD (cbf intD (acons (get r 1) (.ok []))) (cbf (orC (lenO opT_len) lenD) (acons (get r 0) (.ok []))))) (.ok []))) (o2 mulD (.ok (.int 101)) (get r 1)))) (.ok (.nx r)))) (fun r => (then_ (asg 2 r (o2 modD (cbf intD (acons (o2 addD (o2 addD (o2 mulD (get r 2) (.ok (.int 48271))) (o2 mulD (.ok (.int 11)) (get r 1))) (.ok (.int 7))) (.ok []))) (.ok (.int 2147483647)))) (fun r => (ret (o2 fdivD (o2 modD (cbf intD (acons (o2 mulD (o2 addD (o2 addD (o2 mulD (get r 2) (get r 2)) (o2 mulD (.ok (.int 69621)) (get r 2))) (get r 1)) (.ok (.int 1000000000039))) (.ok []))) (.ok (.int 2305843009213693951))) (.ok (.int 2))))))))))
def m__law_cell : List D → R D := runX 3 b__law_cell
theorem k__law_cell (F : FnAt K mg "_law_cell" s__law_cell ["_law_script", "_law_k"]) (b_len : mg "len" = none) (b_abs : mg "abs" = none) (b_int : mg "int" = none) (O_len : OpsAt P w K mg base "__len__" 1 1 opT_len) : KnX P w K mg base "_law_cell" 5 2 m__law_cell :=
  KnX.mk' (M := []) (M' := []) F sc__law_cell (by decide) fun f cdv A outer s H E hr => ⟨_,
(mss_cons (ms_set 2 sc__law_cell.nd (me_op (r := rAddX K) op_addX rs_add (me_op DL.op_mulX rs_mul me_int (me_var 1)) me_int))
(mss_cons (ms_if (mt_cmp (r := rLtX K) (op_ltX hr) rs_lt (me_var 1) (me_lenA K O_len hr (by rfl) b_len (ma_cons (me_var 0) ma_nil)))
(mss_cons (ms_set 2 sc__law_cell.nd (me_callB call_abs cs_abs (by rfl) b_abs (by decide +kernel) (ma_cons (me_ixA K (hu_of hr) (me_var 0) (me_var 1)) ma_nil)))
(mss_one (ms_if (mt_cmp (r := rGeX K) (op_geX hr) rs_geX (me_var 2) (me_op op_pow rs_pow me_int me_int))
(mss_one (ms_ret (me_op op_sub rs_sub (me_var 2) (me_op op_pow rs_pow me_int me_int))))
mss_nil)))
(mss_one (ms_if (mt_cmp op_gt rs_gt (me_lenA K O_len hr (by rfl) b_len (ma_cons (me_var 0) ma_nil)) me_int)
(mss_one (ms_set 2 sc__law_cell.nd (me_op (r := rAddX K) op_addX rs_add (me_callB call_abs cs_abs (by rfl) b_abs (by decide +kernel) (ma_cons (me_ixA K (hu_of hr) (me_var 0) (me_op op_mod rs_mod (me_callTy call_int1 cs_int (by rfl) b_int (by decide +kernel) (ma_cons (me_var 1) ma_nil)) (me_lenA K O_len hr (by rfl) b_len (ma_cons (me_var 0) ma_nil)))) ma_nil)) (me_op DL.op_mulX rs_mul me_int (me_var 1)))))
mss_nil)))
(mss_cons (ms_set 2 sc__law_cell.nd (me_op op_mod rs_mod (me_callTy call_int1 cs_int (by rfl) b_int (by decide +kernel) (ma_cons (me_op (r := rAddX K) op_addX rs_add (me_op (r := rAddX K) op_addX rs_add (me_op DL.op_mulX rs_mul (me_var 2) me_int) (me_op DL.op_mulX rs_mul me_int (me_var 1))) me_int) ma_nil)) me_int))
(mss_one (ms_ret (me_op op_fdiv rs_fdiv (me_op op_mod rs_mod (me_callTy call_int1 cs_int (by rfl) b_int (by decide +kernel) (ma_cons (me_op DL.op_mulX rs_mul (me_op (r := rAddX K) op_addX rs_add (me_op (r := rAddX K) op_addX rs_add (me_op DL.op_mulX rs_mul (me_var 2) (me_var 2)) (me_op DL.op_mulX rs_mul me_int (me_var 2))) (me_var 1)) me_int) ma_nil)) me_int) me_int))))))⟩
abbrev s__law_rooms : Stmt := topS 25
abbrev N__law_rooms : List Str := ["_law_items", "_law_size", "_law_found", "_law_k", "_law_rest"]
theorem sc__law_rooms : FnScope N__law_rooms ["_law_items", "_law_size"] (defScope s__law_rooms) := ⟨rfl, rfl, rfl, by decide +kernel, rfl, by decide +kernel, by decide +kernel⟩
def b__law_rooms (m__law_rooms : List D → R D) : DL.Env → R Fl := fun r => (then_ (ifv (tst (o2 eqD (get r 1) (.ok (.int 0)))) (ret (dsp lstD (acons (dsp tupD (.ok [])) (.ok [])))) (.ok (.nx r))) (fun r => (then_ (ownS 2 r (dsp lenOk (.ok []))) (fun r => (then_ (forR rg1 (agV 3) (fun r => (forS (agV 4) (fun r => (appS 2 r (o2 addD (dsp tupD (acons (o2 ixA (get (wipeE r [2]) 0) (get (wipeE r [2]) 3)) (.ok []))) (get (wipeE r [2]) 4)))) r (its (call_ 2 m__law_rooms (acons (o3 sliceD (get (wipeE r [2]) 0) (toI (o2 addD (get (wipeE r [2]) 3) (.ok (.int 1)))) (.ok none)) (acons (o2 subD (get (wipeE r [2]) 1) (.ok (.int 1))) (.ok []))))))) r (acons (o2 addD (o2 subD (cbf (orC (lenO opT_len) lenD) (acons (get r 0) (.ok []))) (get r 1)) (.ok (.int 1))) (.ok []))) (fun r => (ret (get r 2))))))))
def mR__law_rooms : Nat → List D → R D
  | 0 => fun _ => .stuck
  | j + 1 => runX 5 (b__law_rooms (mR__law_rooms j))
def m__law_rooms : List D → R D := mR__law_rooms 9
theorem ks__law_rooms {j : Nat} {m__law_rooms : List D → R D} (F : FnAt K mg "_law_rooms" s__law_rooms ["_law_items", "_law_size"]) (b_range : mg "range" = none) (b_len : mg "len" = none) (O_len : OpsAt P w K mg base "__len__" 1 1 opT_len) (k__law_rooms : KnX P w K mg base "_law_rooms" (4 + j) 2 m__law_rooms) : KnX P w K mg base "_law_rooms" (4 + j + 1) 2 (runX 5 (b__law_rooms m__law_rooms)) :=
  KnX.mk' (M := [2]) (M' := [2]) F sc__law_rooms (by decide) fun f cdv A outer s H E hr => ⟨_,
(mss_cons (ms_if (mt_cmp (r := rEqD K) (op_eqD hr.units) rs_eq (me_var 1) me_int)
(mss_one (ms_ret (me_lst (ma_cons (me_tup ma_nil) ma_nil))))
mss_nil)
(mss_cons (ms_own 2 sc__law_rooms.nd (mn_lst ma_nil))
(mss_cons (ms_forR1 (passes_of rfl) rfl (by rfl) b_range (ma_cons (me_op (r := rAddX K) op_addX rs_add (me_op op_sub rs_sub (me_lenA K O_len hr (by rfl) b_len (ma_cons (me_var 0) ma_nil)) (me_var 1)) me_int) ma_nil) (mg_name 3 sc__law_rooms.nd) (agin_name (by decide))
(mss_one (ms_for (passes_of rfl) rfl (mi_seq K (me_callX k__law_rooms hr (px (takes_of rfl rfl rfl rfl)) (by rfl) (ma_cons (me_slice (r := rSlX K) sl_X ss_X (me_var 0) (mo_some (me_op (r := rAddX K) op_addX rs_add (me_var 3) me_int)) mo_none) (ma_cons (me_op op_sub rs_sub (me_var 1) me_int) ma_nil)))) (mg_name 4 sc__law_rooms.nd) (agin_name (by decide))
(mss_one (ms_app 2 (me_op (r := rAddX K) op_addX rs_add (me_tup (ma_cons (me_ixA K (hu_of hr) (me_var 0) (me_var 3)) ma_nil)) (me_var 4)) (hp := fun h1 => pe_bm PySem.F.plainAttrs_list PySem.F.slot_list_append PySem.F.type_list_append mt_append (pv 2) (pa_cons h1 pa_nil)))))))
(mss_one (ms_ret (me_var 2))))))⟩
theorem kR__law_rooms (F : FnAt K mg "_law_rooms" s__law_rooms ["_law_items", "_law_size"]) (b_range : mg "range" = none) (b_len : mg "len" = none) (O_len : OpsAt P w K mg base "__len__" 1 1 opT_len) : ∀ j, KnX P w K mg base "_law_rooms" (4 + j) 2 (mR__law_rooms j)
  | 0 => KnX.stuck F
  | j + 1 => ks__law_rooms F b_range b_len O_len (kR__law_rooms F b_range b_len O_len j)
theorem k__law_rooms (F : FnAt K mg "_law_rooms" s__law_rooms ["_law_items", "_law_size"]) (b_range : mg "range" = none) (b_len : mg "len" = none) (O_len : OpsAt P w K mg base "__len__" 1 1 opT_len) : KnX P w K mg base "_law_rooms" 13 2 m__law_rooms := kR__law_rooms F b_range b_len O_len 9
abbrev s__law_even_rooms : Stmt := topS 26
abbrev N__law_even_rooms : List Str := ["_law_n", "_law_size", "_law_cell_here", "_law_known", "_law_room", "_law_whole", "_law_k", "_law_face"]
theorem sc__law_even_rooms : FnScope N__law_even_rooms ["_law_n", "_law_size", "_law_cell_here"] (defScope s__law_even_rooms) := ⟨rfl, rfl, rfl, by decide +kernel, rfl, by decide +kernel, by decide +kernel⟩
def b__law_even_rooms : DL.Env → R Fl := fun r => (then_ (.ok (.nx (r.set 3 (some (.dt [] []))))) (fun r => (then_ (forS (agV 4) (fun r => (then_ (ifv (tst (o2 eqD (o2 modD (cbf intD (acons (get r 2) (.ok []))) (.ok (.int 2))) (.ok (.int 1)))) (then_ (asg 5 r (o2 addD (get (wipeE r [3]) 4) (dsp tupD (acons (o2 subD (get (wipeE r [3]) 0) (.ok (.int 1))) (.ok []))))) (fun r => (forR rg1 (agV 6) (fun r => (then_ (asg 7 r (o2 addD (o3 sliceD (get (wipeE r [3]) 5) (.ok none) (toI (get (wipeE r [3]) 6))) (o3 sliceD (get (wipeE r [3]) 5) (toI (o2 addD (get (wipeE r [3]) 6) (.ok (.int 1)))) (.ok none)))) (fun r => (dputS [3] 3 r (o2 subD (.ok (.int 1)) (og2 dgetE (get r 3) (get r 7) (.ok (.int 0)))) (get r 7))))) r (acons (o2 addD (get r 1) (.ok (.int 1))) (.ok []))))) (.ok (.nx r))) (fun r => (asg 2 r (o2 fdivD (get (wipeE r [3]) 2) (.ok (.int 2))))))) r (its (call_ 2 m__law_rooms (acons (dsp rgT1 (acons (o2 subD (get (wipeE r [3]) 0) (.ok (.int 1))) (.ok []))) (acons (get (wipeE r [3]) 1) (.ok [])))))) (fun r => (ret (cbf sortedA (acons (lcK 3 [4] (agV 4) (fun r => (tst (o2 eqD (o2 ixA (get r 3) (get r 4)) (.ok (.int 1))))) (fun r => (get r 4)) r) (.ok []))))))))
def m__law_even_rooms : List D → R D := runX 8 b__law_even_rooms
theorem k__law_even_rooms (F : FnAt K mg "_law_even_rooms" s__law_even_rooms ["_law_n", "_law_size", "_law_cell_here"]) (k__law_rooms : KnX P w K mg base "_law_rooms" 13 2 m__law_rooms) (b_int : mg "int" = none) (b_range : mg "range" = none) (b_tuple : mg "tuple" = none) (b_sorted : mg "sorted" = none) : KnX P w K mg base "_law_even_rooms" 14 3 m__law_even_rooms :=
  KnX.mk' (M := [3]) (M' := [3]) F sc__law_even_rooms (by decide) fun f cdv A outer s H E hr => ⟨_,
(mss_cons (ms_newT 3 sc__law_even_rooms.nd)
(mss_cons (ms_for (passes_of rfl) rfl (mi_seq K (me_callX k__law_rooms hr (px (takes_of rfl rfl rfl rfl)) (by rfl) (ma_cons (me_tupRg1 (by rfl) b_tuple (by rfl) b_range (me_op op_sub rs_sub (me_var 0) me_int)) (ma_cons (me_var 1) ma_nil)))) (mg_name 4 sc__law_even_rooms.nd) (agin_name (by decide))
(mss_cons (ms_if (mt_cmp (r := rEqD K) (op_eqD hr.units) rs_eq (me_op op_mod rs_mod (me_callTy call_int1 cs_int (by rfl) b_int (by decide +kernel) (ma_cons (me_var 2) ma_nil)) me_int) me_int)
(mss_cons (ms_set 5 sc__law_even_rooms.nd (me_op (r := rAddX K) op_addX rs_add (me_var 4) (me_tup (ma_cons (me_op op_sub rs_sub (me_var 0) me_int) ma_nil))))
(mss_one (ms_forR1 (passes_of rfl) rfl (by rfl) b_range (ma_cons (me_op (r := rAddX K) op_addX rs_add (me_var 1) me_int) ma_nil) (mg_name 6 sc__law_even_rooms.nd) (agin_name (by decide))
(mss_cons (ms_set 7 sc__law_even_rooms.nd (me_op (r := rAddX K) op_addX rs_add (me_slice (r := rSlX K) sl_X ss_X (me_var 5) mo_none (mo_some (me_var 6))) (me_slice (r := rSlX K) sl_X ss_X (me_var 5) (mo_some (me_op (r := rAddX K) op_addX rs_add (me_var 6) me_int)) mo_none)))
(mss_one (ms_dputV 3 (hu_of hr) (me_op op_sub rs_sub me_int (me_get2 (hu_of hr) (me_var 3) (me_var 7) me_int)) (me_var 7)))))))
mss_nil)
(mss_one (ms_set 2 sc__law_even_rooms.nd (me_op op_fdiv rs_fdiv (me_var 2) me_int)))))
(mss_one (ms_ret (me_callB (r := rSortedA K) cr_sortedA cs_sortedA (by rfl) b_sorted (by decide +kernel) (ma_cons (me_lcK (own := [("_law_room", 4)]) 3 rfl sc__law_even_rooms.nd (blkOk_by (N := N__law_even_rooms) (sc := defScope s__law_even_rooms) (own := [("_law_room", 4)]) (by decide +kernel)) (fun _ _ _ _ _ => (mg_name 4 sc__law_even_rooms.nd)) (fun _ _ _ _ _ => (mts_one (mt_cmp (r := rEqD K) (op_eqD hr.units) rs_eq (me_ixA K (hu_of hr) (me_var 3) (me_var 4)) me_int))) (fun _ _ _ _ _ => (me_var 4)) (agin_name (by decide))) ma_nil))))))⟩
abbrev s__law_some_rooms : Stmt := topS 27
abbrev N__law_some_rooms : List Str := ["_law_n", "_law_size", "_law_cell_here", "_law_chosen", "_law_room"]
theorem sc__law_some_rooms : FnScope N__law_some_rooms ["_law_n", "_law_size", "_law_cell_here"] (defScope s__law_some_rooms) := ⟨rfl, rfl, rfl, by decide +kernel, rfl, by decide +kernel, by decide +kernel⟩
def b__law_some_rooms : DL.Env → R Fl := fun r => (then_ (ownS 3 r (dsp lenOk (.ok []))) (fun r => (then_ (forS (agV 4) (fun r => (then_ (ifv (tst (o2 eqD (o2 modD (cbf intD (acons (get r 2) (.ok []))) (.ok (.int 2))) (.ok (.int 1)))) (appS 3 r (get (wipeE r [3]) 4)) (.ok (.nx r))) (fun r => (asg 2 r (o2 fdivD (get (wipeE r [3]) 2) (.ok (.int 2))))))) r (its (call_ 2 m__law_rooms (acons (dsp rgT1 (acons (get (wipeE r [3]) 0) (.ok []))) (acons (get (wipeE r [3]) 1) (.ok [])))))) (fun r => (ret (get r 3))))))
def m__law_some_rooms : List D → R D := runX 5 b__law_some_rooms
theorem k__law_some_rooms (F : FnAt K mg "_law_some_rooms" s__law_some_rooms ["_law_n", "_law_size", "_law_cell_here"]) (k__law_rooms : KnX P w K mg base "_law_rooms" 13 2 m__law_rooms) (b_int : mg "int" = none) (b_range : mg "range" = none) (b_tuple : mg "tuple" = none) : KnX P w K mg base "_law_some_rooms" 14 3 m__law_some_rooms :=
  KnX.mk' (M := [3]) (M' := [3]) F sc__law_some_rooms (by decide) fun f cdv A outer s H E hr => ⟨_,
(mss_cons (ms_own 3 sc__law_some_rooms.nd (mn_lst ma_nil))
(mss_cons (ms_for (passes_of rfl) rfl (mi_seq K (me_callX k__law_rooms hr (px (takes_of rfl rfl rfl rfl)) (by rfl) (ma_cons (me_tupRg1 (by rfl) b_tuple (by rfl) b_range (me_var 0)) (ma_cons (me_var 1) ma_nil)))) (mg_name 4 sc__law_some_rooms.nd) (agin_name (by decide))
(mss_cons (ms_if (mt_cmp (r := rEqD K) (op_eqD hr.units) rs_eq (me_op op_mod rs_mod (me_callTy call_int1 cs_int (by rfl) b_int (by decide +kernel) (ma_cons (me_var 2) ma_nil)) me_int) me_int)
(mss_one (ms_app 3 (me_var 4) (hp := fun h1 => pe_bm PySem.F.plainAttrs_list PySem.F.slot_list_append PySem.F.type_list_append mt_append (pv 3) (pa_cons h1 pa_nil))))
mss_nil)
(mss_one (ms_set 2 sc__law_some_rooms.nd (me_op op_fdiv rs_fdiv (me_var 2) me_int)))))
(mss_one (ms_ret (me_var 3)))))⟩
abbrev s__law_order : Stmt := topS 24
abbrev N__law_order : List Str := ["_law_cell_here", "_law_n", "_law_left", "_law_row", "_law_k", "_law_size"]
theorem sc__law_order : FnScope N__law_order ["_law_cell_here", "_law_n"] (defScope s__law_order) := ⟨rfl, rfl, rfl, by decide +kernel, rfl, by decide +kernel, by decide +kernel⟩
def b__law_order : DL.Env → R Fl := fun r => (then_ (ownS 2 r (dsp rgL1 (acons (get (wipeE r [2, 3]) 1) (.ok [])))) (fun r => (then_ (ownS 3 r (dsp lenOk (.ok []))) (fun r => (then_ (forR rg1 (agV 4) (fun r => (then_ (asg 5 r (o2 subD (get (wipeE r [2, 3]) 1) (get (wipeE r [2, 3]) 4))) (fun r => (then_ (appPopS 3 2 r (o2 modD (cbf intD (acons (get r 0) (.ok []))) (get r 5))) (fun r => (asg 0 r (o2 fdivD (get (wipeE r [2, 3]) 0) (get (wipeE r [2, 3]) 5)))))))) r (acons (get r 1) (.ok []))) (fun r => (ret (get r 3))))))))
def m__law_order : List D → R D := runX 6 b__law_order
theorem k__law_order (F : FnAt K mg "_law_order" s__law_order ["_law_cell_here", "_law_n"]) (b_list : mg "list" = none) (b_range : mg "range" = none) (b_int : mg "int" = none) : KnX P w K mg base "_law_order" 1 2 m__law_order :=
  KnX.mk' (M := [2, 3]) (M' := [2, 3]) F sc__law_order (by decide) fun f cdv A outer s H E hr => ⟨_,
(mss_cons (ms_own 2 sc__law_order.nd (mn_rg1 rfl (by rfl) b_list (by rfl) b_range (me_var 1)))
(mss_cons (ms_own 3 sc__law_order.nd (mn_lst ma_nil))
(mss_cons (ms_forR1 (passes_of rfl) rfl (by rfl) b_range (ma_cons (me_var 1) ma_nil) (mg_name 4 sc__law_order.nd) (agin_name (by decide))
(mss_cons (ms_set 5 sc__law_order.nd (me_op op_sub rs_sub (me_var 1) (me_var 4)))
(mss_cons (ms_appPop 3 2 (me_op op_mod rs_mod (me_callTy call_int1 cs_int (by rfl) b_int (by decide +kernel) (ma_cons (me_var 0) ma_nil)) (me_var 5)) (hp := fun h1 => pe_bm PySem.F.plainAttrs_list PySem.F.slot_list_append PySem.F.type_list_append mt_append (pv 3) (pa_cons (pe_bm PySem.F.plainAttrs_list PySem.F.slot_list_pop PySem.F.type_list_pop mt_popAt (pv 2) (pa_cons h1 pa_nil)) pa_nil)))
(mss_one (ms_set 0 sc__law_order.nd (me_op op_fdiv rs_fdiv (me_var 0) (me_var 5)))))))
(mss_one (ms_ret (me_var 3))))))⟩
abbrev s__law_labels : Stmt := topS 28
abbrev N__law_labels : List Str := ["_law_script", "_law_n", "_law_size", "_law_labels_here", "_law_order_here", "_law_k", "_law_cell_here", "_law_p"]
theorem sc__law_labels : FnScope N__law_labels ["_law_script", "_law_n", "_law_size"] (defScope s__law_labels) := ⟨rfl, rfl, rfl, by decide +kernel, rfl, by decide +kernel, by decide +kernel⟩
def b__law_labels : DL.Env → R Fl := fun r => (then_ (ownS 3 r (o2N repN (dsp lstD (acons (.ok (.int 1)) (.ok []))) (get (wipeE r [3]) 1))) (fun r => (then_ (ifv (tst (o2 eqD (o2 modD (cbf intD (acons (call_ 2 m__law_cell (acons (get r 0) (acons (.ok (.int 4)) (.ok [])))) (.ok []))) (.ok (.int 2))) (.ok (.int 0)))) (then_ (asg 4 r (call_ 2 m__law_order (acons (call_ 2 m__law_cell (acons (get (wipeE r [3]) 0) (acons (.ok (.int 5)) (.ok [])))) (acons (get (wipeE r [3]) 1) (.ok []))))) (fun r => (then_ (forR rg1 (agV 5) (fun r => (setixS 3 r (o2 addD (.ok (.int 1)) (o2 modD (cbf intD (acons (get (wipeE r [3]) 5) (.ok []))) (get (wipeE r [3]) 2))) (o2 ixA (get r 4) (get r 5)))) r (acons (get r 1) (.ok []))) (fun r => (ret (get r 3)))))) (.ok (.nx r))) (fun r => (then_ (asg 6 r (call_ 2 m__law_cell (acons (get (wipeE r [3]) 0) (acons (.ok (.int 5)) (.ok []))))) (fun r => (then_ (forR rg1 (agV 7) (fun r => (then_ (setixS 3 r (o2 addD (.ok (.int 1)) (o2 modD (cbf intD (acons (get (wipeE r [3]) 6) (.ok []))) (get (wipeE r [3]) 2))) (get r 7)) (fun r => (asg 6 r (o2 fdivD (get (wipeE r [3]) 6) (get (wipeE r [3]) 2)))))) r (acons (get r 1) (.ok []))) (fun r => (ret (get r 3))))))))))
def m__law_labels : List D → R D := runX 8 b__law_labels
theorem k__law_labels (F : FnAt K mg "_law_labels" s__law_labels ["_law_script", "_law_n", "_law_size"]) (k__law_cell : KnX P w K mg base "_law_cell" 5 2 m__law_cell) (k__law_order : KnX P w K mg base "_law_order" 1 2 m__law_order) (b_int : mg "int" = none) (b_range : mg "range" = none) : KnX P w K mg base "_law_labels" 6 3 m__law_labels :=
  KnX.mk' (M := [3]) (M' := [3]) F sc__law_labels (by decide) fun f cdv A outer s H E hr => ⟨_,
(mss_cons (ms_own 3 sc__law_labels.nd (mn_op DL.op_mulX rs_repN (me_lst (ma_cons me_int ma_nil)) (me_var 1)))
(mss_cons (ms_if (mt_cmp (r := rEqD K) (op_eqD hr.units) rs_eq (me_op op_mod rs_mod (me_callTy call_int1 cs_int (by rfl) b_int (by decide +kernel) (ma_cons (me_callX k__law_cell hr (px (takes_of rfl rfl rfl rfl)) (by rfl) (ma_cons (me_var 0) (ma_cons me_int ma_nil))) ma_nil)) me_int) me_int)
(mss_cons (ms_set 4 sc__law_labels.nd (me_callX k__law_order hr (px (takes_of rfl rfl rfl rfl)) (by rfl) (ma_cons (me_callX k__law_cell hr (px (takes_of rfl rfl rfl rfl)) (by rfl) (ma_cons (me_var 0) (ma_cons me_int ma_nil))) (ma_cons (me_var 1) ma_nil))))
(mss_cons (ms_forR1 (passes_of rfl) rfl (by rfl) b_range (ma_cons (me_var 1) ma_nil) (mg_name 5 sc__law_labels.nd) (agin_name (by decide))
(mss_one (ms_setix 3 (me_op (r := rAddX K) op_addX rs_add me_int (me_op op_mod rs_mod (me_callTy call_int1 cs_int (by rfl) b_int (by decide +kernel) (ma_cons (me_var 5) ma_nil)) (me_var 2))) (me_ixA K (hu_of hr) (me_var 4) (me_var 5)) (hp := fun h1 h2 => ps_asg h1 (pg_sub (pv 3) h2 set_list)))))
(mss_one (ms_ret (me_var 3)))))
mss_nil)
(mss_cons (ms_set 6 sc__law_labels.nd (me_callX k__law_cell hr (px (takes_of rfl rfl rfl rfl)) (by rfl) (ma_cons (me_var 0) (ma_cons me_int ma_nil))))
(mss_cons (ms_forR1 (passes_of rfl) rfl (by rfl) b_range (ma_cons (me_var 1) ma_nil) (mg_name 7 sc__law_labels.nd) (agin_name (by decide))
(mss_cons (ms_setix 3 (me_op (r := rAddX K) op_addX rs_add me_int (me_op op_mod rs_mod (me_callTy call_int1 cs_int (by rfl) b_int (by decide +kernel) (ma_cons (me_var 6) ma_nil)) (me_var 2))) (me_var 7) (hp := fun h1 h2 => ps_asg h1 (pg_sub (pv 3) h2 set_list)))
(mss_one (ms_set 6 sc__law_labels.nd (me_op op_fdiv rs_fdiv (me_var 6) (me_var 2))))))
(mss_one (ms_ret (me_var 3)))))))⟩
abbrev s__law_spoilt : Stmt := topS 29
abbrev N__law_spoilt : List Str := ["_law_script", "_law_labels_here", "_law_size", "_law_choice", "_law_far", "_law_spoilt_here", "_law_k", "_law_at"]
theorem sc__law_spoilt : FnScope N__law_spoilt ["_law_script", "_law_labels_here", "_law_size"] (defScope s__law_spoilt) := ⟨rfl, rfl, rfl, by decide +kernel, rfl, by decide +kernel, by decide +kernel⟩
def b__law_spoilt : DL.Env → R Fl := fun r => (then_ (asg 3 r (o2 modD (cbf intD (acons (call_ 2 m__law_cell (acons (get (wipeE r [5]) 0) (acons (.ok (.int 6)) (.ok [])))) (.ok []))) (.ok (.int 32)))) (fun r => (then_ (asg 4 r (o2 addD (.ok (.int 1)) (o2 modD (cbf intD (acons (call_ 2 m__law_cell (acons (get (wipeE r [5]) 0) (acons (.ok (.int 7)) (.ok [])))) (.ok []))) (o2 powD (.ok (.int 10)) (.ok (.int 20)))))) (fun r => (then_ (ifv (tst (o2 geX (get r 3) (.ok (.int 8)))) (ret (get r 1)) (.ok (.nx r))) (fun r => (then_ (ifv (tst (o2 eqD (get r 3) (.ok (.int 0)))) (ret (o3 sliceD (get r 1) (.ok none) (toI (o1 negD (.ok (.int 1)))))) (.ok (.nx r))) (fun r => (then_ (ifv (tst (o2 eqD (get r 3) (.ok (.int 1)))) (ret (o2 addD (o3 sliceD (get r 1) (.ok none) (toI (o1 negD (.ok (.int 2))))) (dsp lstD (acons (.ok (.int 0)) (.ok []))))) (.ok (.nx r))) (fun r => (then_ (ifv (tst (o2 eqD (get r 3) (.ok (.int 2)))) (ret (o2 addD (get r 1) (dsp lstD (acons (.ok (.int 1)) (.ok []))))) (.ok (.nx r))) (fun r => (then_ (ifv (tst (o2 eqD (get r 3) (.ok (.int 3)))) (ret (o2 addD (get r 1) (dsp lstD (acons (.ok (.int 0)) (acons (.ok (.int 1)) (.ok [])))))) (.ok (.nx r))) (fun r => (then_ (ownS 5 r (dsp listL (acons (get (wipeE r [5]) 1) (.ok [])))) (fun r => (then_ (forR rg1 (agV 6) (fun r => (then_ (asg 7 r (o2 modD (cbf intD (acons (call_ 2 m__law_cell (acons (get (wipeE r [5]) 0) (acons (o2 addD (.ok (.int 8)) (get (wipeE r [5]) 6)) (.ok [])))) (.ok []))) (cbf (orC (lenO opT_len) lenD) (acons (get (wipeE r [5]) 1) (.ok []))))) (fun r => (setixS 5 r (o2 ixA (dsp lstD (acons (.ok (.int 0)) (acons (o2 addD (get (wipeE r [5]) 2) (.ok (.int 1))) (acons (o1 negD (get (wipeE r [5]) 4)) (acons (o2 addD (get (wipeE r [5]) 2) (get (wipeE r [5]) 4)) (.ok [])))))) (o2 modD (cbf intD (acons (o2 addD (get (wipeE r [5]) 3) (get (wipeE r [5]) 6)) (.ok []))) (.ok (.int 4)))) (get r 7))))) r (acons (.ok (.int 2)) (.ok []))) (fun r => (ret (get r 5))))))))))))))))))))
def m__law_spoilt : List D → R D := runX 8 b__law_spoilt
theorem k__law_spoilt (F : FnAt K mg "_law_spoilt" s__law_spoilt ["_law_script", "_law_labels_here", "_law_size"]) (k__law_cell : KnX P w K mg base "_law_cell" 5 2 m__law_cell) (b_int : mg "int" = none) (b_list : mg "list" = none) (b_len : mg "len" = none) (b_range : mg "range" = none) (O_len : OpsAt P w K mg base "__len__" 1 1 opT_len) : KnX P w K mg base "_law_spoilt" 6 3 m__law_spoilt :=
  KnX.mk' (M := [5]) (M' := [5]) F sc__law_spoilt (by decide) fun f cdv A outer s H E hr => ⟨_,
(mss_cons (ms_set 3 sc__law_spoilt.nd (me_op op_mod rs_mod (me_callTy call_int1 cs_int (by rfl) b_int (by decide +kernel) (ma_cons (me_callX k__law_cell hr (px (takes_of rfl rfl rfl rfl)) (by rfl) (ma_cons (me_var 0) (ma_cons me_int ma_nil))) ma_nil)) me_int))
(mss_cons (ms_set 4 sc__law_spoilt.nd (me_op (r := rAddX K) op_addX rs_add me_int (me_op op_mod rs_mod (me_callTy call_int1 cs_int (by rfl) b_int (by decide +kernel) (ma_cons (me_callX k__law_cell hr (px (takes_of rfl rfl rfl rfl)) (by rfl) (ma_cons (me_var 0) (ma_cons me_int ma_nil))) ma_nil)) (me_op op_pow rs_pow me_int me_int))))
(mss_cons (ms_if (mt_cmp (r := rGeX K) (op_geX hr) rs_geX (me_var 3) me_int)
(mss_one (ms_ret (me_var 1)))
mss_nil)
(mss_cons (ms_if (mt_cmp (r := rEqD K) (op_eqD hr.units) rs_eq (me_var 3) me_int)
(mss_one (ms_ret (me_slice (r := rSlX K) sl_X ss_X (me_var 1) mo_none (mo_some (me_un un_neg us_neg me_int)))))
mss_nil)
(mss_cons (ms_if (mt_cmp (r := rEqD K) (op_eqD hr.units) rs_eq (me_var 3) me_int)
(mss_one (ms_ret (me_op (r := rAddX K) op_addX rs_add (me_slice (r := rSlX K) sl_X ss_X (me_var 1) mo_none (mo_some (me_un un_neg us_neg me_int))) (me_lst (ma_cons me_int ma_nil)))))
mss_nil)
(mss_cons (ms_if (mt_cmp (r := rEqD K) (op_eqD hr.units) rs_eq (me_var 3) me_int)
(mss_one (ms_ret (me_op (r := rAddX K) op_addX rs_add (me_var 1) (me_lst (ma_cons me_int ma_nil)))))
mss_nil)
(mss_cons (ms_if (mt_cmp (r := rEqD K) (op_eqD hr.units) rs_eq (me_var 3) me_int)
(mss_one (ms_ret (me_op (r := rAddX K) op_addX rs_add (me_var 1) (me_lst (ma_cons me_int (ma_cons me_int ma_nil))))))
mss_nil)
(mss_cons (ms_own 5 sc__law_spoilt.nd (mn_list (by rfl) b_list (by decide +kernel) (ma_cons (me_var 1) ma_nil)))
(mss_cons (ms_forR1 (passes_of rfl) rfl (by rfl) b_range (ma_cons me_int ma_nil) (mg_name 6 sc__law_spoilt.nd) (agin_name (by decide))
(mss_cons (ms_set 7 sc__law_spoilt.nd (me_op op_mod rs_mod (me_callTy call_int1 cs_int (by rfl) b_int (by decide +kernel) (ma_cons (me_callX k__law_cell hr (px (takes_of rfl rfl rfl rfl)) (by rfl) (ma_cons (me_var 0) (ma_cons (me_op (r := rAddX K) op_addX rs_add me_int (me_var 6)) ma_nil))) ma_nil)) (me_lenA K O_len hr (by rfl) b_len (ma_cons (me_var 1) ma_nil))))
(mss_one (ms_setix 5 (me_ixA K (hu_of hr) (me_lst (ma_cons me_int (ma_cons (me_op (r := rAddX K) op_addX rs_add (me_var 2) me_int) (ma_cons (me_un un_neg us_neg (me_var 4)) (ma_cons (me_op (r := rAddX K) op_addX rs_add (me_var 2) (me_var 4)) ma_nil))))) (me_op op_mod rs_mod (me_callTy call_int1 cs_int (by rfl) b_int (by decide +kernel) (ma_cons (me_op (r := rAddX K) op_addX rs_add (me_var 3) (me_var 6)) ma_nil)) me_int)) (me_var 7) (hp := fun h1 h2 => ps_asg h1 (pg_sub (pv 5) h2 set_list))))))
(mss_one (ms_ret (me_var 5))))))))))))⟩
abbrev s__law_due : Stmt := topS 30
abbrev N__law_due : List Str := ["_law_n", "_law_size", "_law_labels_here", "_law_at"]
theorem sc__law_due : FnScope N__law_due ["_law_n", "_law_size", "_law_labels_here"] (defScope s__law_due) := ⟨rfl, rfl, rfl, by decide +kernel, rfl, by decide +kernel, by decide +kernel⟩
def b__law_due : DL.Env → R Fl := fun r => (then_ (ifv (tst (o2 neD (cbf (orC (lenO opT_len) lenD) (acons (get r 2) (.ok []))) (get r 0))) (ret (dsp tupD (acons (.ok (.str "count")) (acons (cbf (orC (lenO opT_len) lenD) (acons (get r 2) (.ok []))) (.ok []))))) (.ok (.nx r))) (fun r => (then_ (forR rg1 (agV 3) (fun r => (ifv (tor (tst (o2 ltD (o2 ixA (get r 2) (get r 3)) (.ok (.int 1)))) (tst (o2 gtD (o2 ixA (get r 2) (get r 3)) (get r 1)))) (ret (dsp tupD (acons (.ok (.str "label")) (acons (get r 3) (.ok []))))) (.ok (.nx r)))) r (acons (get r 0) (.ok []))) (fun r => (ret (.ok .non))))))
def m__law_due : List D → R D := runX 4 b__law_due
theorem k__law_due (F : FnAt K mg "_law_due" s__law_due ["_law_n", "_law_size", "_law_labels_here"]) (b_len : mg "len" = none) (b_range : mg "range" = none) (O_len : OpsAt P w K mg base "__len__" 1 1 opT_len) : KnX P w K mg base "_law_due" 5 3 m__law_due :=
  KnX.mk' (M := []) (M' := []) F sc__law_due (by decide) fun f cdv A outer s H E hr => ⟨_,
(mss_cons (ms_if (mt_cmp (r := rNeD K) (op_neD hr.units) rs_ne (me_lenA K O_len hr (by rfl) b_len (ma_cons (me_var 2) ma_nil)) (me_var 0))
(mss_one (ms_ret (me_tup (ma_cons me_str (ma_cons (me_lenA K O_len hr (by rfl) b_len (ma_cons (me_var 2) ma_nil)) ma_nil)))))
mss_nil)
(mss_cons (ms_forR1 (passes_of rfl) rfl (by rfl) b_range (ma_cons (me_var 0) ma_nil) (mg_name 3 sc__law_due.nd) (agin_name (by decide))
(mss_one (ms_if (MW.mt (mw_or (mt_cmp (r := rLtX K) (op_ltX hr) rs_lt (me_ixA K (hu_of hr) (me_var 2) (me_var 3)) me_int) (mw_or1 (mt_cmp op_gt rs_gt (me_ixA K (hu_of hr) (me_var 2) (me_var 3)) (me_var 1)))))
(mss_one (ms_ret (me_tup (ma_cons me_str (ma_cons (me_var 3) ma_nil)))))
mss_nil)))
(mss_one (ms_ret me_non))))⟩
abbrev s_check_number_of_labels : Stmt := topS 18
abbrev N_check_number_of_labels : List Str := ["places", "labels"]
theorem sc_check_number_of_labels : FnScope N_check_number_of_labels ["places", "labels"] (defScope s_check_number_of_labels) := ⟨rfl, rfl, rfl, by decide +kernel, rfl, by decide +kernel, by decide +kernel⟩
def b_check_number_of_labels : DL.Env → R Fl := fun r => (ifv (tst (o2 neD (cbf (orC (lenO opT_len) lenD) (acons (get r 1) (.ok []))) (get r 0))) (raiseS "BadLabels" ["fault", "at"] (acons (.ok (.str "count")) (acons (cbf (orC (lenO opT_len) lenD) (acons (get r 1) (.ok []))) (.ok [])))) (.ok (.nx r)))
def m_check_number_of_labels : List D → R D := runX 2 b_check_number_of_labels
theorem k_check_number_of_labels (F : FnAt K mg "check_number_of_labels" s_check_number_of_labels ["places", "labels"]) (b_len : mg "len" = none) {C_BadLabels : Addr} (x_BadLabels : XcAt P w K mg base "BadLabels" C_BadLabels ["fault", "at"]) (O_len : OpsAt P w K mg base "__len__" 1 1 opT_len) : KnX P w K mg base "check_number_of_labels" 5 2 m_check_number_of_labels :=
  KnX.mk' (M := []) (M' := []) F sc_check_number_of_labels (by decide) fun f cdv A outer s H E hr => ⟨_,
(mss_one (ms_if (mt_cmp (r := rNeD K) (op_neD hr.units) rs_ne (me_lenA K O_len hr (by rfl) b_len (ma_cons (me_var 1) ma_nil)) (me_var 0))
(mss_one (ms_raiseX x_BadLabels (takes_of rfl rfl rfl rfl) hr (by rfl) (ma_cons me_str (ma_cons (me_lenA K O_len hr (by rfl) b_len (ma_cons (me_var 1) ma_nil)) ma_nil))))
mss_nil))⟩
abbrev s_check_place_labels : Stmt := topS 19
abbrev N_check_place_labels : List Str := ["places", "labels", "most", "at", "label"]
theorem sc_check_place_labels : FnScope N_check_place_labels ["places", "labels", "most"] (defScope s_check_place_labels) := ⟨rfl, rfl, rfl, by decide +kernel, rfl, by decide +kernel, by decide +kernel⟩
def b_check_place_labels : DL.Env → R Fl := fun r => (then_ (drp r (call_ 2 m_check_number_of_labels (acons (get r 0) (acons (get r 1) (.ok []))))) (fun r => (forS (tupAs 2 (agC (agV 3) (agC (agV 4) agN))) (fun r => (ifv (tnot (tst (ch2 leD leD (.ok (.int 1)) (get r 4) (get r 2)))) (raiseS "BadLabels" ["fault", "at"] (acons (.ok (.str "label")) (acons (get r 3) (.ok [])))) (.ok (.nx r)))) r (dsp enumA (acons (get r 1) (.ok []))))))
def m_check_place_labels : List D → R D := runX 5 b_check_place_labels
theorem k_check_place_labels (F : FnAt K mg "check_place_labels" s_check_place_labels ["places", "labels", "most"]) (k_check_number_of_labels : KnX P w K mg base "check_number_of_labels" 5 2 m_check_number_of_labels) (b_enumerate : mg "enumerate" = none) {C_BadLabels : Addr} (x_BadLabels : XcAt P w K mg base "BadLabels" C_BadLabels ["fault", "at"]) : KnX P w K mg base "check_place_labels" 6 3 m_check_place_labels :=
  KnX.mk' (M := []) (M' := []) F sc_check_place_labels (by decide) fun f cdv A outer s H E hr => ⟨_,
(mss_cons (ms_expr (me_callX k_check_number_of_labels hr (px (takes_of rfl rfl rfl rfl)) (by rfl) (ma_cons (me_var 0) (ma_cons (me_var 1) ma_nil))))
(mss_one (ms_for (passes_of rfl) rfl (mi_enumA K (by rfl) b_enumerate (ma_cons (me_var 1) ma_nil)) (mg_tup K (mgs_cons (mg_name 3 sc_check_place_labels.nd) (mgs_cons (mg_name 4 sc_check_place_labels.nd) mgs_nil))) (agin_tup (agsin_cons (agin_name (by decide)) (agsin_cons (agin_name (by decide)) agsin_nil)))
(mss_one (ms_if (mt_not (mt_chain op_le rs_le op_le rs_le me_int (me_var 4) (me_var 2)))
(mss_one (ms_raiseX x_BadLabels (takes_of rfl rfl rfl rfl) hr (by rfl) (ma_cons me_str (ma_cons (me_var 3) ma_nil))))
mss_nil)))))⟩
abbrev s_Book_iter : Stmt := inC (topS 15) 6
abbrev N_Book_iter : List Str := ["self"]
theorem sc_Book_iter : FnScope N_Book_iter ["self"] (defScope s_Book_iter) := ⟨rfl, rfl, rfl, by decide +kernel, rfl, by decide +kernel, by decide +kernel⟩
def opT_iter : List (Str × Str) := [("Book", "rooms")]
abbrev s_labels_of : Stmt := topS 20
abbrev N_labels_of : List Str := ["room", "labels", "place"]
theorem sc_labels_of : FnScope N_labels_of ["room", "labels"] (defScope s_labels_of) := ⟨rfl, rfl, rfl, by decide +kernel, rfl, by decide +kernel, by decide +kernel⟩
def b_labels_of : DL.Env → R Fl := fun r => (ret (lcM [2] (fun r => (itsO opT_iter (get r 0))) (agV 2) (fun _ => .ok true) (fun r => (o2 ixA (get r 1) (get r 2))) r))
def m_labels_of : List D → R D := runX 3 b_labels_of
theorem k_labels_of (F : FnAt K mg "labels_of" s_labels_of ["room", "labels"]) (O_iter : ItsAt P w K mg base 1 opT_iter) : KnX P w K mg base "labels_of" 5 2 m_labels_of :=
  KnX.mk' (M := []) (M' := []) F sc_labels_of (by decide) fun f cdv A outer s H E hr => ⟨_,
(mss_one (ms_ret (me_lc (own := [("place", 2)]) rfl sc_labels_of.nd (mi_seqO K O_iter hr (me_var 0)) (blkOk_by (N := N_labels_of) (sc := defScope s_labels_of) (own := [("place", 2)]) (by decide +kernel)) (fun _ _ _ _ _ => (mg_name 2 sc_labels_of.nd)) (fun _ _ _ _ _ => mts_nil) (fun _ _ _ _ _ => (me_ixA K (hu_of hr) (me_var 1) (me_var 2))) (agin_name (by decide)))))⟩
abbrev s_Book_eq : Stmt := inC (topS 15) 3
abbrev N_Book_eq : List Str := ["self", "other"]
theorem sc_Book_eq : FnScope N_Book_eq ["self", "other"] (defScope s_Book_eq) := ⟨rfl, rfl, rfl, by decide +kernel, rfl, by decide +kernel, by decide +kernel⟩
def b_Book_eq : DL.Env → R Fl := fun r => (ret (vand (cbf (isoD oT oB (fun _ _ => none)) (acons (get r 1) (acons (.ok (.cls "Book")) (.ok [])))) (vand (o2 eqD (o1 (fldD ["Book"] "places") (get r 0)) (o1 (fldD ["Book"] "places") (get r 1))) (vand (o2 eqD (o1 (fldD ["Book"] "size") (get r 0)) (o1 (fldD ["Book"] "size") (get r 1))) (o2 eqD (o1 (fldD ["Book"] "rooms") (get r 0)) (o1 (fldD ["Book"] "rooms") (get r 1)))))))
def m_Book_eq : List D → R D := runX 2 b_Book_eq
theorem t_Book___eq__ {f : Addr} {fd : FuncData} (F : Fun K "__eq__" "Book.__eq__" s_Book_eq f fd) (b : Binds K fd ["self", "other"] []) {C_Book : Addr} (h_Book : mg "Book" = some (.ref C_Book)) (b_isinstance : mg "isinstance" = none) (S_o : OSub K mg oT oB (fun _ _ => none)) (f_places : ClF K (g0 mg) ["Book"] "places") (f_size : ClF K (g0 mg) ["Book"] "size") (f_rooms : ClF K (g0 mg) ["Book"] "rooms") (hc : Cls K C_Book) (hm : Meth K C_Book "__eq__" f) : MtAt P w K mg base "Book" C_Book "__eq__" 1 2 m_Book_eq :=
  MtAt.mk' (M := []) (M' := []) F h_Book hc hm b sc_Book_eq (by decide) fun cdv A outer s H E hr => ⟨_,
(mss_one (ms_ret (me_and (me_callB (r := rIsi K) call_isi (cs_iso S_o) (by rfl) b_isinstance (by decide +kernel) (ma_cons (me_var 1) (ma_cons (me_cls (by rfl) h_Book) ma_nil))) (me_and (me_cmp (r := rEqD K) (op_eqD hr.units) rs_eq (me_fldK K ["Book"] f_places (me_var 0)) (me_fldK K ["Book"] f_places (me_var 1))) (me_and (me_cmp (r := rEqD K) (op_eqD hr.units) rs_eq (me_fldK K ["Book"] f_size (me_var 0)) (me_fldK K ["Book"] f_size (me_var 1))) (me_one (me_cmp (r := rEqD K) (op_eqD hr.units) rs_eq (me_fldK K ["Book"] f_rooms (me_var 0)) (me_fldK K ["Book"] f_rooms (me_var 1)))))))))⟩
def opT_eq : List (Str × (List D → R D)) := [("Book", m_Book_eq)]
abbrev s_full_rooms : Stmt := topS 21
abbrev N_full_rooms : List Str := ["book", "labels", "wanted", "room"]
theorem sc_full_rooms : FnScope N_full_rooms ["book", "labels"] (defScope s_full_rooms) := ⟨rfl, rfl, rfl, by decide +kernel, rfl, by decide +kernel, by decide +kernel⟩
def b_full_rooms : DL.Env → R Fl := fun r => (then_ (drp r (call_ 3 m_check_place_labels (acons (o1 (fldD ["Book"] "places") (get r 0)) (acons (get r 1) (acons (o1 (fldD ["Book"] "size") (get r 0)) (.ok [])))))) (fun r => (then_ (asg 2 r (dsp rgLv2 (acons (.ok (.int 1)) (acons (o2 addD (o1 (fldD ["Book"] "size") (get r 0)) (.ok (.int 1))) (.ok []))))) (fun r => (retF (lcN [3] (fun r => (its (o1 (fldD ["Book"] "rooms") (get r 0)))) (agV 3) (fun r => (tst (o2 (orL (eqO opT_eq) eqD) (cbf sortedA (acons (call_ 2 m_labels_of (acons (get r 3) (acons (get r 1) (.ok [])))) (.ok []))) (get r 2)))) (fun r => (get r 3)) r))))))
def m_full_rooms : List D → R D := runX 4 b_full_rooms
theorem k_full_rooms (F : FnAt K mg "full_rooms" s_full_rooms ["book", "labels"]) (k_check_place_labels : KnX P w K mg base "check_place_labels" 6 3 m_check_place_labels) (k_labels_of : KnX P w K mg base "labels_of" 5 2 m_labels_of) (b_range : mg "range" = none) (b_list : mg "list" = none) (b_sorted : mg "sorted" = none) (f_size : ClF K (g0 mg) ["Book"] "size") (f_places : ClF K (g0 mg) ["Book"] "places") (f_rooms : ClF K (g0 mg) ["Book"] "rooms") (O_eq : OpsAt P w K mg base "__eq__" 1 2 opT_eq) : KnX P w K mg base "full_rooms" 7 2 m_full_rooms :=
  KnX.mk' (M := []) (M' := []) F sc_full_rooms (by decide) fun f cdv A outer s H E hr => ⟨_,
(mss_cons (ms_expr (me_callX k_check_place_labels hr (px (takes_of rfl rfl rfl rfl)) (by rfl) (ma_cons (me_fldK K ["Book"] f_places (me_var 0)) (ma_cons (me_var 1) (ma_cons (me_fldK K ["Book"] f_size (me_var 0)) ma_nil)))))
(mss_cons (ms_set 2 sc_full_rooms.nd (me_lstRg2 (by rfl) b_list (by rfl) b_range me_int (me_op (r := rAddX K) op_addX rs_add (me_fldK K ["Book"] f_size (me_var 0)) me_int)))
(mss_one (ms_retF (mn_lc (own := [("room", 3)]) rfl sc_full_rooms.nd (mi_seq K (me_fldK K ["Book"] f_rooms (me_var 0))) (blkOk_by (N := N_full_rooms) (sc := defScope s_full_rooms) (own := [("room", 3)]) (by decide +kernel)) (fun _ _ _ _ _ => (mg_name 3 sc_full_rooms.nd)) (fun _ _ _ _ _ => (mts_one (mt_eqA K O_eq hr (me_callB (r := rSortedA K) cr_sortedA cs_sortedA (by rfl) b_sorted (by decide +kernel) (ma_cons (me_callX k_labels_of hr pxL (by rfl) (ma_cons (me_var 3) (ma_cons (me_var 1) ma_nil))) ma_nil)) (me_var 2)))) (fun _ _ _ _ _ => (me_var 3)) (agin_name (by decide)))))))⟩
def mF_full_rooms : List D → R (List D) := runFr 4 b_full_rooms
theorem kf_full_rooms (F : FnAt K mg "full_rooms" s_full_rooms ["book", "labels"]) (k_check_place_labels : KnX P w K mg base "check_place_labels" 6 3 m_check_place_labels) (k_labels_of : KnX P w K mg base "labels_of" 5 2 m_labels_of) (b_range : mg "range" = none) (b_list : mg "list" = none) (b_sorted : mg "sorted" = none) (f_size : ClF K (g0 mg) ["Book"] "size") (f_places : ClF K (g0 mg) ["Book"] "places") (f_rooms : ClF K (g0 mg) ["Book"] "rooms") (O_eq : OpsAt P w K mg base "__eq__" 1 2 opT_eq) : KnF P w K mg base "full_rooms" 7 2 mF_full_rooms :=
  KnF.mk' (M := []) (M' := []) F sc_full_rooms (by decide) fun f cdv A outer s H E hr => ⟨_,
(mss_cons (ms_expr (me_callX k_check_place_labels hr (px (takes_of rfl rfl rfl rfl)) (by rfl) (ma_cons (me_fldK K ["Book"] f_places (me_var 0)) (ma_cons (me_var 1) (ma_cons (me_fldK K ["Book"] f_size (me_var 0)) ma_nil)))))
(mss_cons (ms_set 2 sc_full_rooms.nd (me_lstRg2 (by rfl) b_list (by rfl) b_range me_int (me_op (r := rAddX K) op_addX rs_add (me_fldK K ["Book"] f_size (me_var 0)) me_int)))
(mss_one (ms_retF (mn_lc (own := [("room", 3)]) rfl sc_full_rooms.nd (mi_seq K (me_fldK K ["Book"] f_rooms (me_var 0))) (blkOk_by (N := N_full_rooms) (sc := defScope s_full_rooms) (own := [("room", 3)]) (by decide +kernel)) (fun _ _ _ _ _ => (mg_name 3 sc_full_rooms.nd)) (fun _ _ _ _ _ => (mts_one (mt_eqA K O_eq hr (me_callB (r := rSortedA K) cr_sortedA cs_sortedA (by rfl) b_sorted (by decide +kernel) (ma_cons (me_callX k_labels_of hr pxL (by rfl) (ma_cons (me_var 3) (ma_cons (me_var 1) ma_nil))) ma_nil)) (me_var 2)))) (fun _ _ _ _ _ => (me_var 3)) (agin_name (by decide)))))))⟩
abbrev s__law_refused : Stmt := topS 31
abbrev N__law_refused : List Str := ["_law_book", "_law_labels_here", "e"]
theorem sc__law_refused : FnScope N__law_refused ["_law_book", "_law_labels_here"] (defScope s__law_refused) := ⟨rfl, rfl, rfl, by decide +kernel, rfl, by decide +kernel, by decide +kernel⟩
def b__law_refused : DL.Env → R Fl := fun r => (then_ (tryM xT xB [] (fun r => (drp r (call_ 2 m_full_rooms (acons (get (wipeE r []) 0) (acons (get (wipeE r []) 1) (.ok [])))))) [⟨2, true, "BadLabels", fun r => (ifv (tand (tst (cbf (isxD xT xB) (acons (get r 2) (acons (.ok (.cls "NeverAloneError")) (.ok []))))) (tand (tst (cbf (isxD xT xB) (acons (get r 2) (acons (.ok (.ty "ValueError")) (.ok []))))) (tnot (tst (cbf (isxD xT xB) (acons (get r 2) (acons (.ok (.cls "BadBook")) (.ok [])))))))) (ret (dsp tupD (acons (o1 (xfD ["BadBook", "Mismatch", "BadLabels"] "fault") (get r 2)) (acons (o1 (xfD ["BadBook", "BadLabels"] "at") (get r 2)) (.ok []))))) (.ok (.nx r)))⟩] r) (fun r => (ret (.ok .non))))
def m__law_refused : List D → R D := runX 3 b__law_refused
theorem k__law_refused (F : FnAt K mg "_law_refused" s__law_refused ["_law_book", "_law_labels_here"]) {C_BadLabels : Addr} {C_NeverAloneError : Addr} {C_BadBook : Addr} (k_full_rooms : KnX P w K mg base "full_rooms" 7 2 m_full_rooms) (b_isinstance : mg "isinstance" = none) (b_ValueError : mg "ValueError" = none) (S_x : XSub K mg xT xB) (h_BadLabels : mg "BadLabels" = some (.ref C_BadLabels)) (h_NeverAloneError : mg "NeverAloneError" = some (.ref C_NeverAloneError)) (h_BadBook : mg "BadBook" = some (.ref C_BadBook)) (xf_at : XcF K mg ["BadBook", "BadLabels"] "at") (xf_fault : XcF K mg ["BadBook", "Mismatch", "BadLabels"] "fault") : KnX P w K mg base "_law_refused" 8 2 m__law_refused :=
  KnX.mk' (M := []) (M' := []) F sc__law_refused (by decide) fun f cdv A outer s H E hr => ⟨_,
(mss_cons (ms_try S_x (mys_one (my_expr (fun W pn xe tk => (me_callX k_full_rooms hr (fun σ => passAt tk σ) (by rfl) (ma_cons (me_var 0) (ma_cons (me_var 1) ma_nil))))))
(ClOk.cons (o := true) (i := 2) ⟨rfl, by decide, .inl h_BadLabels⟩ h_BadLabels rfl rfl (fun a oe cls d pn hz hf => (mhs_one (mh_if (MW.mt (mw_and (mt_val (me_callB (call_isX hz hf) (cs_isx S_x) (by rfl) b_isinstance (by decide +kernel) (ma_cons (me_var 2) (ma_cons (me_cls (by rfl) h_NeverAloneError) ma_nil)))) (mw_and (mt_val (me_callB (call_isX hz hf) (cs_isx S_x) (by rfl) b_isinstance (by decide +kernel) (ma_cons (me_var 2) (ma_cons (me_bty (n := "ValueError") (by rfl) b_ValueError (by decide +kernel)) ma_nil)))) (mw_and1 (mt_not (mt_val (me_callB (call_isX hz hf) (cs_isx S_x) (by rfl) b_isinstance (by decide +kernel) (ma_cons (me_var 2) (ma_cons (me_cls (by rfl) h_BadBook) ma_nil)))))))))
(mhs_one (mh_ret (me_tup (ma_cons (me_xf ["BadBook", "Mismatch", "BadLabels"] xf_fault hz hf (me_var 2)) (ma_cons (me_xf ["BadBook", "BadLabels"] xf_at hz hf (me_var 2)) ma_nil)))))
mhs_nil)))
ClOk.nil) (takes_of rfl rfl rfl rfl) sc__law_refused.nd)
(mss_one (ms_ret me_non)))⟩
abbrev s__law_right : Stmt := topS 32
abbrev N__law_right : List Str := ["_law_told", "_law_rooms_here", "_law_labels_here", "_law_size", "_law_due_here", "_law_at", "_law_room", "_law_p"]
theorem sc__law_right : FnScope N__law_right ["_law_told", "_law_rooms_here", "_law_labels_here", "_law_size"] (defScope s__law_right) := ⟨rfl, rfl, rfl, by decide +kernel, rfl, by decide +kernel, by decide +kernel⟩
def b__law_right : DL.Env → R Fl := fun r => (then_ (asg 4 r (lcM [6] (fun r => (itsO opT_iter (get r 1))) (agV 6) (fun r => (tst (o2 (orL (eqO opT_eq) eqD) (cbf sortedA (acons (lcM [7] (fun r => (itsO opT_iter (get r 6))) (agV 7) (fun _ => .ok true) (fun r => (o2 ixA (get r 2) (get r 7))) r) (.ok []))) (dsp rgLv2 (acons (.ok (.int 1)) (acons (o2 addD (get r 3) (.ok (.int 1))) (.ok []))))))) (fun r => (get r 6)) r)) (fun r => (then_ (ifv (tor (tnot (tst (cbf (isoD oT oB (fun _ _ => none)) (acons (get r 0) (acons (.ok (.ty "list")) (.ok [])))))) (tst (o2 neD (cbf (orC (lenO opT_len) lenD) (acons (get r 0) (.ok []))) (cbf (orC (lenO opT_len) lenD) (acons (get r 4) (.ok [])))))) (ret (.ok (.bl false))) (.ok (.nx r))) (fun r => (then_ (forR rg1 (agV 5) (fun r => (then_ (ifv (tor (tnot (tst (cbf (isoD oT oB (fun _ _ => none)) (acons (o2 ixA (get r 0) (get r 5)) (acons (.ok (.ty "tuple")) (.ok [])))))) (tst (o2 neD (o2 ixA (get r 0) (get r 5)) (o2 ixA (get r 4) (get r 5))))) (ret (.ok (.bl false))) (.ok (.nx r))) (fun r => (ifv (tst (o2 gtD (cbf lenD (acons (lcM [7] (fun r => (its (o2 ixA (get r 0) (get r 5)))) (agV 7) (fun r => (tor (tnot (tst (cbf (isoD oT oB (fun _ _ => none)) (acons (get r 7) (acons (.ok (.ty "int")) (.ok [])))))) (tst (cbf (isoD oT oB (fun _ _ => none)) (acons (get r 7) (acons (.ok (.ty "bool")) (.ok []))))))) (fun r => (get r 7)) r) (.ok []))) (.ok (.int 0)))) (ret (.ok (.bl false))) (.ok (.nx r)))))) r (acons (cbf (orC (lenO opT_len) lenD) (acons (get r 4) (.ok []))) (.ok []))) (fun r => (ret (.ok (.bl true)))))))))
def m__law_right : List D → R D := runX 8 b__law_right
theorem k__law_right (F : FnAt K mg "_law_right" s__law_right ["_law_told", "_law_rooms_here", "_law_labels_here", "_law_size"]) (b_sorted : mg "sorted" = none) (b_range : mg "range" = none) (b_list : mg "list" = none) (b_isinstance : mg "isinstance" = none) (b_len : mg "len" = none) (b_tuple : mg "tuple" = none) (b_int : mg "int" = none) (b_bool : mg "bool" = none) (O_iter : ItsAt P w K mg base 1 opT_iter) (O_eq : OpsAt P w K mg base "__eq__" 1 2 opT_eq) (S_o : OSub K mg oT oB (fun _ _ => none)) (O_len : OpsAt P w K mg base "__len__" 1 1 opT_len) : KnX P w K mg base "_law_right" 5 4 m__law_right :=
  KnX.mk' (M := []) (M' := []) F sc__law_right (by decide) fun f cdv A outer s H E hr => ⟨_,
(mss_cons (ms_setLc 4 (own := [("_law_room", 6)]) rfl sc__law_right.nd (mi_seqO K O_iter hr (me_var 1)) (blkOk_by (N := N__law_right) (sc := defScope s__law_right) (own := [("_law_room", 6)]) (by decide +kernel)) (fun _ _ _ _ _ => (mg_name 6 sc__law_right.nd)) (fun _ _ _ _ _ => (mts_one (mt_eqA K O_eq hr (me_callB (r := rSortedA K) cr_sortedA cs_sortedA (by rfl) b_sorted (by decide +kernel) (ma_cons (me_lc (own := [("_law_p", 7)]) rfl sc__law_right.nd (mi_seqO K O_iter hr (me_var 6)) (blkOk_in (N := N__law_right) (own := [("_law_p", 7)]) (by decide +kernel)) (fun _ _ _ _ _ => (mg_name 7 sc__law_right.nd)) (fun _ _ _ _ _ => mts_nil) (fun _ _ _ _ _ => (me_ixA K (hu_of hr) (me_var 2) (me_var 7))) (agin_name (by decide))) ma_nil)) (me_lstRg2 (by rfl) b_list (by rfl) b_range me_int (me_op (r := rAddX K) op_addX rs_add (me_var 3) me_int))))) (fun _ _ _ _ _ => (me_var 6)) (agin_name (by decide)) (sw_true rfl rfl rfl (by decide +kernel)))
(mss_cons (ms_if (MW.mt (mw_or (mt_not (mt_val (me_callB (r := rIsi K) call_isi (cs_iso S_o) (by rfl) b_isinstance (by decide +kernel) (ma_cons (me_var 0) (ma_cons (me_bty (n := "list") (by rfl) b_list (by decide +kernel)) ma_nil))))) (mw_or1 (mt_cmp (r := rNeD K) (op_neD hr.units) rs_ne (me_lenA K O_len hr (by rfl) b_len (ma_cons (me_var 0) ma_nil)) (me_lenA K O_len hr (by rfl) b_len (ma_cons (me_var 4) ma_nil))))))
(mss_one (ms_ret me_bl))
mss_nil)
(mss_cons (ms_forR1 (passes_of rfl) rfl (by rfl) b_range (ma_cons (me_lenA K O_len hr (by rfl) b_len (ma_cons (me_var 4) ma_nil)) ma_nil) (mg_name 5 sc__law_right.nd) (agin_name (by decide))
(mss_cons (ms_if (MW.mt (mw_or (mt_not (mt_val (me_callB (r := rIsi K) call_isi (cs_iso S_o) (by rfl) b_isinstance (by decide +kernel) (ma_cons (me_ixA K (hu_of hr) (me_var 0) (me_var 5)) (ma_cons (me_bty (n := "tuple") (by rfl) b_tuple (by decide +kernel)) ma_nil))))) (mw_or1 (mt_cmp (r := rNeD K) (op_neD hr.units) rs_ne (me_ixA K (hu_of hr) (me_var 0) (me_var 5)) (me_ixA K (hu_of hr) (me_var 4) (me_var 5))))))
(mss_one (ms_ret me_bl))
mss_nil)
(mss_one (ms_if (mt_cmp op_gt rs_gt (me_callB (r := rLenX K) cr_lenX cs_len (by rfl) b_len (by decide +kernel) (ma_cons (me_lc (own := [("_law_p", 7)]) rfl sc__law_right.nd (mi_seq K (me_ixA K (hu_of hr) (me_var 0) (me_var 5))) (blkOk_by (N := N__law_right) (sc := defScope s__law_right) (own := [("_law_p", 7)]) (by decide +kernel)) (fun _ _ _ _ _ => (mg_name 7 sc__law_right.nd)) (fun _ _ _ _ _ => (mts_one (MW.mt (mw_or (mt_not (mt_val (me_callB (r := rIsi K) call_isi (cs_iso S_o) (by rfl) b_isinstance (by decide +kernel) (ma_cons (me_var 7) (ma_cons (me_bty (n := "int") (by rfl) b_int (by decide +kernel)) ma_nil))))) (mw_or1 (mt_val (me_callB (r := rIsi K) call_isi (cs_iso S_o) (by rfl) b_isinstance (by decide +kernel) (ma_cons (me_var 7) (ma_cons (me_bty (n := "bool") (by rfl) b_bool (by decide +kernel)) ma_nil))))))))) (fun _ _ _ _ _ => (me_var 7)) (agin_name (by decide))) ma_nil)) me_int)
(mss_one (ms_ret me_bl))
mss_nil))))
(mss_one (ms_ret me_bl)))))⟩
abbrev s_Book_contains : Stmt := inC (topS 15) 5
abbrev N_Book_contains : List Str := ["self", "x"]
theorem sc_Book_contains : FnScope N_Book_contains ["self", "x"] (defScope s_Book_contains) := ⟨rfl, rfl, rfl, by decide +kernel, rfl, by decide +kernel, by decide +kernel⟩
def b_Book_contains : DL.Env → R Fl := fun r => (ret (o2 inG (get r 1) (o1 (fldD ["Book"] "_known") (get r 0))))
def m_Book_contains : List D → R D := runX 2 b_Book_contains
theorem t_Book___contains__ {f : Addr} {fd : FuncData} (F : Fun K "__contains__" "Book.__contains__" s_Book_contains f fd) (b : Binds K fd ["self", "x"] []) {C_Book : Addr} (h_Book : mg "Book" = some (.ref C_Book)) (f__known : ClF K (g0 mg) ["Book"] "_known") (hc : Cls K C_Book) (hm : Meth K C_Book "__contains__" f) : MtAt P w K mg base "Book" C_Book "__contains__" 1 2 m_Book_contains :=
  MtAt.mk' (M := []) (M' := []) F h_Book hc hm b sc_Book_contains (by decide) fun cdv A outer s H E hr => ⟨_,
(mss_one (ms_ret (me_inG K (hu65 hr) (me_var 1) (me_fldK K ["Book"] f__known (me_var 0)))))⟩
def opT_in : List (Str × (List D → R D)) := [("Book", m_Book_contains)]
abbrev s__law_even : Stmt := topS 33
abbrev N__law_even : List Str := ["_law_n", "_law_size", "_law_rooms_here", "_law_face", "_law_room", "_law_p"]
theorem sc__law_even : FnScope N__law_even ["_law_n", "_law_size", "_law_rooms_here"] (defScope s__law_even) := ⟨rfl, rfl, rfl, by decide +kernel, rfl, by decide +kernel, by decide +kernel⟩
def b__law_even : DL.Env → R Fl := fun r => (then_ (forS (agV 3) (fun r => (ifv (tst (o2 eqD (o2 modD (cbf intD (acons (cbf lenD (acons (lcM [4] (fun r => (itsO opT_iter (get r 2))) (agV 4) (fun r => (tst (o2 eqD (cbf lenD (acons (lcM [5] (fun r => (itsO opT_iter (get r 3))) (agV 5) (fun r => (tst (o2 (orR (fun x y => notD (inO opT_in x y)) ninG) (get r 5) (get r 4)))) (fun r => (get r 5)) r) (.ok []))) (.ok (.int 0))))) (fun r => (get r 4)) r) (.ok []))) (.ok []))) (.ok (.int 2))) (.ok (.int 1)))) (ret (.ok (.bl false))) (.ok (.nx r)))) r (its (call_ 2 m__law_rooms (acons (dsp rgT1 (acons (get r 0) (.ok []))) (acons (o2 subD (get r 1) (.ok (.int 1))) (.ok [])))))) (fun r => (ret (.ok (.bl true)))))
def m__law_even : List D → R D := runX 6 b__law_even
theorem k__law_even (F : FnAt K mg "_law_even" s__law_even ["_law_n", "_law_size", "_law_rooms_here"]) (k__law_rooms : KnX P w K mg base "_law_rooms" 13 2 m__law_rooms) (b_len : mg "len" = none) (b_int : mg "int" = none) (b_range : mg "range" = none) (b_tuple : mg "tuple" = none) (O_iter : ItsAt P w K mg base 1 opT_iter) (O_in : OpsAt P w K mg base "__contains__" 1 2 opT_in) : KnX P w K mg base "_law_even" 14 3 m__law_even :=
  KnX.mk' (M := []) (M' := []) F sc__law_even (by decide) fun f cdv A outer s H E hr => ⟨_,
(mss_cons (ms_for (passes_of rfl) rfl (mi_seq K (me_callX k__law_rooms hr (px (takes_of rfl rfl rfl rfl)) (by rfl) (ma_cons (me_tupRg1 (by rfl) b_tuple (by rfl) b_range (me_var 0)) (ma_cons (me_op op_sub rs_sub (me_var 1) me_int) ma_nil)))) (mg_name 3 sc__law_even.nd) (agin_name (by decide))
(mss_one (ms_if (mt_cmp (r := rEqD K) (op_eqD hr.units) rs_eq (me_op op_mod rs_mod (me_callTy call_int1 cs_int (by rfl) b_int (by decide +kernel) (ma_cons (me_callB (r := rLenX K) cr_lenX cs_len (by rfl) b_len (by decide +kernel) (ma_cons (me_lc (own := [("_law_room", 4)]) rfl sc__law_even.nd (mi_seqO K O_iter hr (me_var 2)) (blkOk_by (N := N__law_even) (sc := defScope s__law_even) (own := [("_law_room", 4)]) (by decide +kernel)) (fun _ _ _ _ _ => (mg_name 4 sc__law_even.nd)) (fun _ _ _ _ _ => (mts_one (mt_cmp (r := rEqD K) (op_eqD hr.units) rs_eq (me_callB (r := rLenX K) cr_lenX cs_len (by rfl) b_len (by decide +kernel) (ma_cons (me_lc (own := [("_law_p", 5)]) rfl sc__law_even.nd (mi_seqO K O_iter hr (me_var 3)) (blkOk_in (N := N__law_even) (own := [("_law_p", 5)]) (by decide +kernel)) (fun _ _ _ _ _ => (mg_name 5 sc__law_even.nd)) (fun _ _ _ _ _ => (mts_one (mt_ninA' K O_in hr (me_var 5) (me_var 4)))) (fun _ _ _ _ _ => (me_var 5)) (agin_name (by decide))) ma_nil)) me_int))) (fun _ _ _ _ _ => (me_var 4)) (agin_name (by decide))) ma_nil)) ma_nil)) me_int) me_int)
(mss_one (ms_ret me_bl))
mss_nil)))
(mss_one (ms_ret me_bl)))⟩
abbrev s_room_fault : Stmt := topS 8
abbrev N_room_fault : List Str := ["places", "size", "room", "place"]
theorem sc_room_fault : FnScope N_room_fault ["places", "size", "room"] (defScope s_room_fault) := ⟨rfl, rfl, rfl, by decide +kernel, rfl, by decide +kernel, by decide +kernel⟩
def b_room_fault : DL.Env → R Fl := fun r => (then_ (ifv (tst (o2 neD (cbf (orC (lenO opT_len) lenD) (acons (get r 2) (.ok []))) (get r 1))) (ret (.ok (.str "count"))) (.ok (.nx r))) (fun r => (then_ (ifv (tst (cbf anyD (acons (lcM [3] (fun r => (itsO opT_iter (get r 2))) (agV 3) (fun _ => .ok true) (fun r => (vnot (ch2 leD ltD (.ok (.int 0)) (get r 3) (get r 0)))) r) (.ok [])))) (ret (.ok (.str "place"))) (.ok (.nx r))) (fun r => (then_ (ifv (tst (o2 neD (o1 lenSetD (get r 2)) (cbf (orC (lenO opT_len) lenD) (acons (get r 2) (.ok []))))) (ret (.ok (.str "twice"))) (.ok (.nx r))) (fun r => (ret (.ok (.str "")))))))))
def m_room_fault : List D → R D := runX 4 b_room_fault
theorem k_room_fault (F : FnAt K mg "room_fault" s_room_fault ["places", "size", "room"]) (b_len : mg "len" = none) (b_any : mg "any" = none) (b_set : mg "set" = none) (O_len : OpsAt P w K mg base "__len__" 1 1 opT_len) (O_iter : ItsAt P w K mg base 1 opT_iter) : KnX P w K mg base "room_fault" 5 3 m_room_fault :=
  KnX.mk' (M := []) (M' := []) F sc_room_fault (by decide) fun f cdv A outer s H E hr => ⟨_,
(mss_cons (ms_if (mt_cmp (r := rNeD K) (op_neD hr.units) rs_ne (me_lenA K O_len hr (by rfl) b_len (ma_cons (me_var 2) ma_nil)) (me_var 1))
(mss_one (ms_ret me_str))
mss_nil)
(mss_cons (ms_if (mt_val (me_callB (r := rAny K) (cr_any rfl) cs_any (by rfl) b_any (by decide +kernel) (ma_cons (me_lc (own := [("place", 3)]) rfl sc_room_fault.nd (mi_seqO K O_iter hr (me_var 2)) (blkOk_by (N := N_room_fault) (sc := defScope s_room_fault) (own := [("place", 3)]) (by decide +kernel)) (fun _ _ _ _ _ => (mg_name 3 sc_room_fault.nd)) (fun _ _ _ _ _ => mts_nil) (fun _ _ _ _ _ => (me_not (me_chain op_le rs_le (r' := rLtX K) (op_ltX hr) rs_lt me_int (me_var 3) (me_var 0)))) (agin_name (by decide))) ma_nil)))
(mss_one (ms_ret me_str))
mss_nil)
(mss_cons (ms_if (mt_cmp (r := rNeD K) (op_neD hr.units) rs_ne (me_lenSetK K rfl (by rfl) b_len (by rfl) b_set (me_var 2)) (me_lenA K O_len hr (by rfl) b_len (ma_cons (me_var 2) ma_nil)))
(mss_one (ms_ret me_str))
mss_nil)
(mss_one (ms_ret me_str)))))⟩
abbrev s_book_faults : Stmt := topS 10
abbrev N_book_faults : List Str := ["places", "size", "rooms", "found", "seen", "at", "room", "fault", "kept"]
theorem sc_book_faults : FnScope N_book_faults ["places", "size", "rooms"] (defScope s_book_faults) := ⟨rfl, rfl, rfl, by decide +kernel, rfl, by decide +kernel, by decide +kernel⟩
def b_book_faults : DL.Env → R Fl := fun r => (then_ (ifv (tnot (tst (ch2 leD leD (.ok (.int 1)) (get r 0) (.ok (.int 12))))) (ret (dsp lstD (acons (dsp tupD (acons (.ok (.str "places")) (acons (.ok (.int 0)) (.ok [])))) (.ok [])))) (.ok (.nx r))) (fun r => (then_ (ifv (tnot (tst (ch2 leD leD (.ok (.int 1)) (get r 1) (get r 0)))) (ret (dsp lstD (acons (dsp tupD (acons (.ok (.str "size")) (acons (.ok (.int 0)) (.ok [])))) (.ok [])))) (.ok (.nx r))) (fun r => (then_ (ownS 3 r (dsp lenOk (.ok []))) (fun r => (then_ (.ok (.nx (r.set 4 (some (.dt [] []))))) (fun r => (then_ (forS (tupAs 2 (agC (agV 5) (agC (agV 6) agN))) (fun r => (then_ (asg 7 r (call_ 3 m_room_fault (acons (get (wipeE r [3, 4]) 0) (acons (get (wipeE r [3, 4]) 1) (acons (get (wipeE r [3, 4]) 6) (.ok [])))))) (fun r => (then_ (asg 8 r (cbf tupleD (acons (cbf sortedA (acons (get (wipeE r [3, 4]) 6) (.ok []))) (.ok [])))) (fun r => (then_ (ifv (tand (tst (o2 eqD (get r 7) (.ok (.str "")))) (tst (o2 (orR (inO opT_in) inG) (get r 8) (get r 4)))) (asg 7 r (.ok (.str "again"))) (.ok (.nx r))) (fun r => (ifv (tst (o2 eqD (get r 7) (.ok (.str "")))) (dputS [3, 4] 4 r (.ok (.bl true)) (get r 8)) (appS 3 r (dsp tupD (acons (get (wipeE r [3, 4]) 7) (acons (get (wipeE r [3, 4]) 5) (.ok []))))))))))))) r (dsp enumA (acons (get (wipeE r [3, 4]) 2) (.ok [])))) (fun r => (ret (get r 3))))))))))))
def m_book_faults : List D → R D := runX 9 b_book_faults
theorem k_book_faults (F : FnAt K mg "book_faults" s_book_faults ["places", "size", "rooms"]) (k_room_fault : KnX P w K mg base "room_fault" 5 3 m_room_fault) (b_sorted : mg "sorted" = none) (b_tuple : mg "tuple" = none) (b_enumerate : mg "enumerate" = none) {t_MOST_PLACES : Tok} (g_MOST_PLACES : mg "MOST_PLACES" = some (.int 12 t_MOST_PLACES)) (O_in : OpsAt P w K mg base "__contains__" 1 2 opT_in) : KnX P w K mg base "book_faults" 6 3 m_book_faults :=
  KnX.mk' (M := [3, 4]) (M' := [3, 4]) F sc_book_faults (by decide) fun f cdv A outer s H E hr => ⟨_,
(mss_cons (ms_if (mt_not (mt_chain op_le rs_le op_le rs_le me_int (me_var 0) (me_glb (v := .int 12) (by rfl) g_MOST_PLACES ⟨_, rfl⟩ (fun _ => .int _))))
(mss_one (ms_ret (me_lst (ma_cons (me_tup (ma_cons me_str (ma_cons me_int ma_nil))) ma_nil))))
mss_nil)
(mss_cons (ms_if (mt_not (mt_chain op_le rs_le op_le rs_le me_int (me_var 1) (me_var 0)))
(mss_one (ms_ret (me_lst (ma_cons (me_tup (ma_cons me_str (ma_cons me_int ma_nil))) ma_nil))))
mss_nil)
(mss_cons (ms_own 3 sc_book_faults.nd (mn_lst ma_nil))
(mss_cons (ms_newT 4 sc_book_faults.nd)
(mss_cons (ms_for (passes_of rfl) rfl (mi_enumA K (by rfl) b_enumerate (ma_cons (me_var 2) ma_nil)) (mg_tup K (mgs_cons (mg_name 5 sc_book_faults.nd) (mgs_cons (mg_name 6 sc_book_faults.nd) mgs_nil))) (agin_tup (agsin_cons (agin_name (by decide)) (agsin_cons (agin_name (by decide)) agsin_nil)))
(mss_cons (ms_set 7 sc_book_faults.nd (me_callX k_room_fault hr (px (takes_of rfl rfl rfl rfl)) (by rfl) (ma_cons (me_var 0) (ma_cons (me_var 1) (ma_cons (me_var 6) ma_nil)))))
(mss_cons (ms_set 8 sc_book_faults.nd (me_callTy (r := rTupOf K) cr_tupOf cs_tuple (by rfl) b_tuple (by decide +kernel) (ma_cons (me_callB (r := rSortedA K) cr_sortedA cs_sortedA (by rfl) b_sorted (by decide +kernel) (ma_cons (me_var 6) ma_nil)) ma_nil)))
(mss_cons (ms_if (MW.mt (mw_and (mt_cmp (r := rEqD K) (op_eqD hr.units) rs_eq (me_var 7) me_str) (mw_and1 (mt_inA' K O_in hr (me_var 8) (me_var 4)))))
(mss_one (ms_set 7 sc_book_faults.nd me_str))
mss_nil)
(mss_one (ms_if (mt_cmp (r := rEqD K) (op_eqD hr.units) rs_eq (me_var 7) me_str)
(mss_one (ms_dputV 4 (hu_of hr) me_bl (me_var 8)))
(mss_one (ms_app 3 (me_tup (ma_cons (me_var 7) (ma_cons (me_var 5) ma_nil))) (hp := fun h1 => pe_bm PySem.F.plainAttrs_list PySem.F.slot_list_append PySem.F.type_list_append mt_append (pv 3) (pa_cons h1 pa_nil))))))))))
(mss_one (ms_ret (me_var 3))))))))⟩
abbrev s_Book_init : Stmt := inC (topS 15) 1
abbrev N_Book_init : List Str := ["self", "places", "size", "rooms", "found", "fault", "at", "room"]
theorem sc_Book_init : FnScope N_Book_init ["self", "places", "size", "rooms"] (defScope s_Book_init) := ⟨rfl, rfl, rfl, by decide +kernel, rfl, by decide +kernel, by decide +kernel⟩
def b_Book_init : DL.Env → R Fl := fun r => (then_ (asg 4 r (call_ 3 m_book_faults (acons (get (wipeE r [0]) 1) (acons (get (wipeE r [0]) 2) (acons (get (wipeE r [0]) 3) (.ok [])))))) (fun r => (then_ (ifv (tst (o2 gtD (cbf (orC (lenO opT_len) lenD) (acons (get r 4) (.ok []))) (.ok (.int 0)))) (then_ (asgG (tupAs 2 (agC (agV 5) (agC (agV 6) agN))) r (o2 ixA (get (wipeE r [0]) 4) (.ok (.int 0)))) (fun r => (raiseS "BadBook" ["fault", "at"] (acons (get r 5) (acons (get r 6) (.ok [])))))) (.ok (.nx r))) (fun r => (then_ (fldS [0] 0 "Book" "places" r (get r 1)) (fun r => (then_ (fldS [0] 0 "Book" "size" r (get r 2)) (fun r => (then_ (fldS [0] 0 "Book" "rooms" r (cbf tupleD (acons (cbf sortedA (acons (lcM [7] (fun r => (itsO opT_iter (get r 3))) (agV 7) (fun _ => .ok true) (fun r => (cbf tupleD (acons (cbf sortedA (acons (get r 7) (.ok []))) (.ok [])))) r) (.ok []))) (.ok [])))) (fun r => (fldS [0] 0 "Book" "_known" r (dcM [7] (fun r => (its (o1 (fldD ["Book"] "rooms") (get r 0)))) (agV 7) (fun _ => .ok true) (fun r => (get r 7)) (fun r => (.ok (.bl true))) r))))))))))))
def m_Book_init : List D → R D := runI 8 "Book" b_Book_init
theorem k_Book_init {f : Addr} {fd : FuncData} (F : Fun K "__init__" "Book.__init__" s_Book_init f fd) (b : Binds K fd ["self", "places", "size", "rooms"] []) {C_Book : Addr} (h_Book : mg "Book" = some (.ref C_Book)) (k_book_faults : KnX P w K mg base "book_faults" 6 3 m_book_faults) (b_len : mg "len" = none) (b_sorted : mg "sorted" = none) (b_tuple : mg "tuple" = none) {C_BadBook : Addr} (x_BadBook : XcAt P w K mg base "BadBook" C_BadBook ["fault", "at"]) (O_len : OpsAt P w K mg base "__len__" 1 1 opT_len) (f_places : ClF K (g0 mg) ["Book"] "places") (f_size : ClF K (g0 mg) ["Book"] "size") (f_rooms : ClF K (g0 mg) ["Book"] "rooms") (O_iter : ItsAt P w K mg base 1 opT_iter) (f__known : ClF K (g0 mg) ["Book"] "_known") (hm : Mk K C_Book f) : CkAt P w K mg base "Book" C_Book 7 3 m_Book_init :=
  CkAt.mk' (M := [0]) F h_Book hm b sc_Book_init rfl (by decide) (by decide) (by decide) fun cdv A outer s H E hr => ⟨_,
(mss_cons (ms_set 4 sc_Book_init.nd (me_callX k_book_faults hr (px (takes_of rfl rfl rfl rfl)) (by rfl) (ma_cons (me_var 1) (ma_cons (me_var 2) (ma_cons (me_var 3) ma_nil)))))
(mss_cons (ms_if (mt_cmp op_gt rs_gt (me_lenA K O_len hr (by rfl) b_len (ma_cons (me_var 4) ma_nil)) me_int)
(mss_cons (ms_asg (me_ixA K (hu_of hr) (me_var 4) me_int) (mg_tup K (mgs_cons (mg_name 5 sc_Book_init.nd) (mgs_cons (mg_name 6 sc_Book_init.nd) mgs_nil))) (agin_tup (agsin_cons (agin_name (by decide)) (agsin_cons (agin_name (by decide)) agsin_nil))))
(mss_one (ms_raiseX x_BadBook (takes_of rfl rfl rfl rfl) hr (by rfl) (ma_cons (me_var 5) (ma_cons (me_var 6) ma_nil)))))
mss_nil)
(mss_cons (ms_fldV 0 "Book" (fun C h => f_places "Book" (by decide) C h) (me_var 1))
(mss_cons (ms_fldV 0 "Book" (fun C h => f_size "Book" (by decide) C h) (me_var 2))
(mss_cons (ms_fldV 0 "Book" (fun C h => f_rooms "Book" (by decide) C h) (me_callTy (r := rTupOf K) cr_tupOf cs_tuple (by rfl) b_tuple (by decide +kernel) (ma_cons (me_callB (r := rSortedA K) cr_sortedA cs_sortedA (by rfl) b_sorted (by decide +kernel) (ma_cons (me_lc (own := [("room", 7)]) rfl sc_Book_init.nd (mi_seqO K O_iter hr (me_var 3)) (blkOk_by (N := N_Book_init) (sc := defScope s_Book_init) (own := [("room", 7)]) (by decide +kernel)) (fun _ _ _ _ _ => (mg_name 7 sc_Book_init.nd)) (fun _ _ _ _ _ => mts_nil) (fun _ _ _ _ _ => (me_callTy (r := rTupOf K) cr_tupOf cs_tuple (by rfl) b_tuple (by decide +kernel) (ma_cons (me_callB (r := rSortedA K) cr_sortedA cs_sortedA (by rfl) b_sorted (by decide +kernel) (ma_cons (me_var 7) ma_nil)) ma_nil))) (agin_name (by decide))) ma_nil)) ma_nil)))
(mss_one (ms_fldV 0 "Book" (fun C h => f__known "Book" (by decide) C h) (me_dcT (own := [("room", 7)]) (hu_of hr) rfl sc_Book_init.nd (mi_seq K (me_fldK K ["Book"] f_rooms (me_var 0))) (blkOk_by (N := N_Book_init) (sc := defScope s_Book_init) (own := [("room", 7)]) (by decide +kernel)) (fun _ _ _ _ _ => (mg_name 7 sc_Book_init.nd)) (fun _ _ _ _ _ => mts_nil) (fun _ _ _ _ _ => (me_var 7)) (fun _ _ _ _ _ => me_bl) (agin_name (by decide))))))))))⟩
abbrev s_law : Stmt := topS 34
abbrev N_law : List Str := ["_law_script", "_law_n", "_law_size", "_law_rooms_here", "_law_labels_here", "_law_kept", "_law_book", "_law_due_here", "_law_told", "_law_whole"]
theorem sc_law : FnScope N_law ["_law_script"] (defScope s_law) := ⟨rfl, rfl, rfl, by decide +kernel, rfl, by decide +kernel, by decide +kernel⟩
def b_law : DL.Env → R Fl := fun r => (then_ (asg 1 r (o2 addD (.ok (.int 1)) (o2 modD (cbf intD (acons (call_ 2 m__law_cell (acons (get (wipeE r [8]) 0) (acons (.ok (.int 0)) (.ok [])))) (.ok []))) (.ok (.int 7))))) (fun r => (then_ (asg 2 r (o2 addD (.ok (.int 1)) (o2 modD (cbf intD (acons (call_ 2 m__law_cell (acons (get (wipeE r [8]) 0) (acons (.ok (.int 1)) (.ok [])))) (.ok []))) (get (wipeE r [8]) 1)))) (fun r => (then_ (ifv (tst (o2 eqD (o2 modD (cbf intD (acons (call_ 2 m__law_cell (acons (get r 0) (acons (.ok (.int 2)) (.ok [])))) (.ok []))) (.ok (.int 2))) (.ok (.int 0)))) (asg 3 r (call_ 3 m__law_even_rooms (acons (get (wipeE r [8]) 1) (acons (get (wipeE r [8]) 2) (acons (call_ 2 m__law_cell (acons (get (wipeE r [8]) 0) (acons (.ok (.int 3)) (.ok [])))) (.ok [])))))) (asg 3 r (call_ 3 m__law_some_rooms (acons (get (wipeE r [8]) 1) (acons (get (wipeE r [8]) 2) (acons (call_ 2 m__law_cell (acons (get (wipeE r [8]) 0) (acons (.ok (.int 3)) (.ok [])))) (.ok []))))))) (fun r => (then_ (asg 4 r (call_ 3 m__law_spoilt (acons (get (wipeE r [8]) 0) (acons (call_ 3 m__law_labels (acons (get (wipeE r [8]) 0) (acons (get (wipeE r [8]) 1) (acons (get (wipeE r [8]) 2) (.ok []))))) (acons (get (wipeE r [8]) 2) (.ok [])))))) (fun r => (then_ (asg 5 r (cbf (orC (listO opT_iter opT_len) listD) (acons (get (wipeE r [8]) 4) (.ok [])))) (fun r => (then_ (asg 6 r (call_ 3 m_Book_init (acons (get (wipeE r [8]) 1) (acons (get (wipeE r [8]) 2) (acons (get (wipeE r [8]) 3) (.ok [])))))) (fun r => (then_ (asg 7 r (call_ 3 m__law_due (acons (get (wipeE r [8]) 1) (acons (get (wipeE r [8]) 2) (acons (get (wipeE r [8]) 4) (.ok [])))))) (fun r => (then_ (ifv (tst (o2 notND (get r 7) (.ok .non))) (then_ (ifv (tor (tst (o2 neD (call_ 2 m__law_refused (acons (get r 6) (acons (get r 4) (.ok [])))) (get r 7))) (tor (tst (o2 neD (call_ 2 m__law_refused (acons (get r 6) (acons (cbf tupleD (acons (get r 4) (.ok []))) (.ok [])))) (get r 7))) (tst (o2 neD (get r 4) (get r 5))))) (ret (.ok (.bl false))) (.ok (.nx r))) (fun r => (asg 4 r (o2 mulD (dsp lstD (acons (.ok (.int 1)) (.ok []))) (get (wipeE r [8]) 1))))) (.ok (.nx r))) (fun r => (then_ (ownS 8 r (callF 2 mF_full_rooms (acons (get (wipeE r [8]) 6) (acons (get (wipeE r [8]) 4) (.ok []))))) (fun r => (then_ (ifv (tnot (tst (call_ 4 m__law_right (acons (get r 8) (acons (get r 3) (acons (get r 4) (acons (get r 2) (.ok [])))))))) (ret (.ok (.bl false))) (.ok (.nx r))) (fun r => (then_ (ifv (tand (tst (call_ 3 m__law_even (acons (get r 1) (acons (get r 2) (acons (get r 3) (.ok [])))))) (tst (o2 eqD (o2 modD (cbf intD (acons (cbf (orC (lenO opT_len) lenD) (acons (get r 8) (.ok []))) (.ok []))) (.ok (.int 2))) (.ok (.int 1))))) (ret (.ok (.bl false))) (.ok (.nx r))) (fun r => (then_ (asg 5 r (cbf (orC (listO opT_iter opT_len) listD) (acons (get (wipeE r [8]) 4) (.ok [])))) (fun r => (then_ (appS 8 r (dsp tupD (acons (.ok (.int 0)) (.ok [])))) (fun r => (then_ (asg 9 r (call_ 3 m_Book_init (acons (get (wipeE r [8]) 1) (acons (get (wipeE r [8]) 1) (acons (dsp lstD (acons (dsp rgT1 (acons (get (wipeE r [8]) 1) (.ok []))) (.ok []))) (.ok [])))))) (fun r => (then_ (ifv (tnot (tst (call_ 4 m__law_right (acons (call_ 2 m_full_rooms (acons (get r 9) (acons (dsp rgLv2 (acons (.ok (.int 1)) (acons (o2 addD (get r 1) (.ok (.int 1))) (.ok [])))) (.ok [])))) (acons (dsp lstD (acons (dsp rgT1 (acons (get r 1) (.ok []))) (.ok []))) (acons (dsp rgLv2 (acons (.ok (.int 1)) (acons (o2 addD (get r 1) (.ok (.int 1))) (.ok [])))) (acons (get r 1) (.ok [])))))))) (ret (.ok (.bl false))) (.ok (.nx r))) (fun r => (ret (vand (call_ 4 m__law_right (acons (call_ 2 m_full_rooms (acons (get r 6) (acons (cbf tupleD (acons (get r 4) (.ok []))) (.ok [])))) (acons (get r 3) (acons (get r 4) (acons (get r 2) (.ok [])))))) (vand (o2 (orL (eqO opT_eq) eqD) (get r 4) (get r 5)) (o2 (orL (eqO opT_eq) eqD) (cbf (orC (listO opT_iter opT_len) listD) (acons (get r 6) (.ok []))) (get r 3)))))))))))))))))))))))))))))))))))
def m_law : List D → R D := runX 10 b_law
theorem ok_law {f : Addr} {fd : FuncData} (F : Fun K "law" "law" s_law f fd) {C_Book : Addr} (k__law_cell : KnX P w K mg base "_law_cell" 5 2 m__law_cell) (k__law_even_rooms : KnX P w K mg base "_law_even_rooms" 14 3 m__law_even_rooms) (k__law_some_rooms : KnX P w K mg base "_law_some_rooms" 14 3 m__law_some_rooms) (k__law_labels : KnX P w K mg base "_law_labels" 6 3 m__law_labels) (k__law_spoilt : KnX P w K mg base "_law_spoilt" 6 3 m__law_spoilt) (k__law_due : KnX P w K mg base "_law_due" 5 3 m__law_due) (k__law_refused : KnX P w K mg base "_law_refused" 8 2 m__law_refused) (k__law_right : KnX P w K mg base "_law_right" 5 4 m__law_right) (k__law_even : KnX P w K mg base "_law_even" 14 3 m__law_even) (k_full_rooms : KnX P w K mg base "full_rooms" 7 2 m_full_rooms) (b_int : mg "int" = none) (b_list : mg "list" = none) (b_tuple : mg "tuple" = none) (b_len : mg "len" = none) (b_range : mg "range" = none) (O_iter : ItsAt P w K mg base 1 opT_iter) (O_len : OpsAt P w K mg base "__len__" 1 1 opT_len) (k_Book_init : CkAt P w K mg base "Book" C_Book 7 3 m_Book_init) (kf_full_rooms : KnF P w K mg base "full_rooms" 7 2 mF_full_rooms) (O_eq : OpsAt P w K mg base "__eq__" 1 2 opT_eq) : FnOk P w K mg base (L2.CX P w) 15 f fd ["_law_script"] (spOf K (g0 mg) 1 m_law) :=
  fn_mirX (M := [8]) (M' := [8]) F sc_law (by decide) fun cdv A outer s H E hr => ⟨_,
(mss_cons (ms_set 1 sc_law.nd (me_op (r := rAddX K) op_addX rs_add me_int (me_op op_mod rs_mod (me_callTy call_int1 cs_int (by rfl) b_int (by decide +kernel) (ma_cons (me_callX k__law_cell hr (px (takes_of rfl rfl rfl rfl)) (by rfl) (ma_cons (me_var 0) (ma_cons me_int ma_nil))) ma_nil)) me_int)))
(mss_cons (ms_set 2 sc_law.nd (me_op (r := rAddX K) op_addX rs_add me_int (me_op op_mod rs_mod (me_callTy call_int1 cs_int (by rfl) b_int (by decide +kernel) (ma_cons (me_callX k__law_cell hr (px (takes_of rfl rfl rfl rfl)) (by rfl) (ma_cons (me_var 0) (ma_cons me_int ma_nil))) ma_nil)) (me_var 1))))
(mss_cons (ms_if (mt_cmp (r := rEqD K) (op_eqD hr.units) rs_eq (me_op op_mod rs_mod (me_callTy call_int1 cs_int (by rfl) b_int (by decide +kernel) (ma_cons (me_callX k__law_cell hr (px (takes_of rfl rfl rfl rfl)) (by rfl) (ma_cons (me_var 0) (ma_cons me_int ma_nil))) ma_nil)) me_int) me_int)
(mss_one (ms_set 3 sc_law.nd (me_callX k__law_even_rooms hr (px (takes_of rfl rfl rfl rfl)) (by rfl) (ma_cons (me_var 1) (ma_cons (me_var 2) (ma_cons (me_callX k__law_cell hr (px (takes_of rfl rfl rfl rfl)) (by rfl) (ma_cons (me_var 0) (ma_cons me_int ma_nil))) ma_nil))))))
(mss_one (ms_set 3 sc_law.nd (me_callX k__law_some_rooms hr (px (takes_of rfl rfl rfl rfl)) (by rfl) (ma_cons (me_var 1) (ma_cons (me_var 2) (ma_cons (me_callX k__law_cell hr (px (takes_of rfl rfl rfl rfl)) (by rfl) (ma_cons (me_var 0) (ma_cons me_int ma_nil))) ma_nil)))))))
(mss_cons (ms_set 4 sc_law.nd (me_callX k__law_spoilt hr (px (takes_of rfl rfl rfl rfl)) (by rfl) (ma_cons (me_var 0) (ma_cons (me_callX k__law_labels hr (px (takes_of rfl rfl rfl rfl)) (by rfl) (ma_cons (me_var 0) (ma_cons (me_var 1) (ma_cons (me_var 2) ma_nil)))) (ma_cons (me_var 2) ma_nil)))))
(mss_cons (ms_set 5 sc_law.nd (me_listA K O_iter O_len hr (by rfl) b_list (ma_cons (me_var 4) ma_nil)))
(mss_cons (ms_set 6 sc_law.nd (me_make k_Book_init hr (px (takes_of rfl rfl rfl rfl)) (by rfl) (ma_cons (me_var 1) (ma_cons (me_var 2) (ma_cons (me_var 3) ma_nil)))))
(mss_cons (ms_set 7 sc_law.nd (me_callX k__law_due hr (px (takes_of rfl rfl rfl rfl)) (by rfl) (ma_cons (me_var 1) (ma_cons (me_var 2) (ma_cons (me_var 4) ma_nil)))))
(mss_cons (ms_if (mt_cmp op_notN rs_notN (me_var 7) me_non)
(mss_cons (ms_if (MW.mt (mw_or (mt_cmp (r := rNeD K) (op_neD hr.units) rs_ne (me_callX k__law_refused hr (px (takes_of rfl rfl rfl rfl)) (by rfl) (ma_cons (me_var 6) (ma_cons (me_var 4) ma_nil))) (me_var 7)) (mw_or (mt_cmp (r := rNeD K) (op_neD hr.units) rs_ne (me_callX k__law_refused hr (px (takes_of rfl rfl rfl rfl)) (by rfl) (ma_cons (me_var 6) (ma_cons (me_callTy (r := rTupOf K) cr_tupOf cs_tuple (by rfl) b_tuple (by decide +kernel) (ma_cons (me_var 4) ma_nil)) ma_nil))) (me_var 7)) (mw_or1 (mt_cmp (r := rNeD K) (op_neD hr.units) rs_ne (me_var 4) (me_var 5))))))
(mss_one (ms_ret me_bl))
mss_nil)
(mss_one (ms_set 4 sc_law.nd (me_op DL.op_mulX rs_mul (me_lst (ma_cons me_int ma_nil)) (me_var 1)))))
mss_nil)
(mss_cons (ms_own 8 sc_law.nd (mn_callF kf_full_rooms hr (px (takes_of rfl rfl rfl rfl)) (by rfl) (ma_cons (me_var 6) (ma_cons (me_var 4) ma_nil))))
(mss_cons (ms_if (mt_not (mt_val (me_callX k__law_right hr (px (takes_of rfl rfl rfl rfl)) (by rfl) (ma_cons (me_var 8) (ma_cons (me_var 3) (ma_cons (me_var 4) (ma_cons (me_var 2) ma_nil)))))))
(mss_one (ms_ret me_bl))
mss_nil)
(mss_cons (ms_if (MW.mt (mw_and (mt_val (me_callX k__law_even hr (px (takes_of rfl rfl rfl rfl)) (by rfl) (ma_cons (me_var 1) (ma_cons (me_var 2) (ma_cons (me_var 3) ma_nil))))) (mw_and1 (mt_cmp (r := rEqD K) (op_eqD hr.units) rs_eq (me_op op_mod rs_mod (me_callTy call_int1 cs_int (by rfl) b_int (by decide +kernel) (ma_cons (me_lenA K O_len hr (by rfl) b_len (ma_cons (me_var 8) ma_nil)) ma_nil)) me_int) me_int))))
(mss_one (ms_ret me_bl))
mss_nil)
(mss_cons (ms_set 5 sc_law.nd (me_listA K O_iter O_len hr (by rfl) b_list (ma_cons (me_var 4) ma_nil)))
(mss_cons (ms_app 8 (me_tup (ma_cons me_int ma_nil)) (hp := fun h1 => pe_bm PySem.F.plainAttrs_list PySem.F.slot_list_append PySem.F.type_list_append mt_append (pv 8) (pa_cons h1 pa_nil)))
(mss_cons (ms_set 9 sc_law.nd (me_make k_Book_init hr (px (takes_of rfl rfl rfl rfl)) (by rfl) (ma_cons (me_var 1) (ma_cons (me_var 1) (ma_cons (me_lst (ma_cons (me_tupRg1 (by rfl) b_tuple (by rfl) b_range (me_var 1)) ma_nil)) ma_nil)))))
(mss_cons (ms_if (mt_not (mt_val (me_callX k__law_right hr (px (takes_of rfl rfl rfl rfl)) (by rfl) (ma_cons (me_callX k_full_rooms hr (px (takes_of rfl rfl rfl rfl)) (by rfl) (ma_cons (me_var 9) (ma_cons (me_lstRg2 (by rfl) b_list (by rfl) b_range me_int (me_op (r := rAddX K) op_addX rs_add (me_var 1) me_int)) ma_nil))) (ma_cons (me_lst (ma_cons (me_tupRg1 (by rfl) b_tuple (by rfl) b_range (me_var 1)) ma_nil)) (ma_cons (me_lstRg2 (by rfl) b_list (by rfl) b_range me_int (me_op (r := rAddX K) op_addX rs_add (me_var 1) me_int)) (ma_cons (me_var 1) ma_nil)))))))
(mss_one (ms_ret me_bl))
mss_nil)
(mss_one (ms_ret (me_and (me_callX k__law_right hr (px (takes_of rfl rfl rfl rfl)) (by rfl) (ma_cons (me_callX k_full_rooms hr (px (takes_of rfl rfl rfl rfl)) (by rfl) (ma_cons (me_var 6) (ma_cons (me_callTy (r := rTupOf K) cr_tupOf cs_tuple (by rfl) b_tuple (by decide +kernel) (ma_cons (me_var 4) ma_nil)) ma_nil))) (ma_cons (me_var 3) (ma_cons (me_var 4) (ma_cons (me_var 2) ma_nil))))) (me_and (me_eqA K O_eq hr (me_var 4) (me_var 5)) (me_one (me_eqA K O_eq hr (me_listA K O_iter O_len hr (by rfl) b_list (ma_cons (me_var 6) ma_nil)) (me_var 3))))))))))))))))))))))⟩
abbrev s_xi_BadLabels : Stmt := inC (topS 5) 0
theorem sc_xi_BadLabels : FnScope ["self", "fault", "at"] ["self", "fault", "at"] (defScope s_xi_BadLabels) := ⟨rfl, rfl, rfl, by decide +kernel, rfl, by decide +kernel, by decide +kernel⟩
abbrev s_xi_BadBook : Stmt := inC (topS 3) 0
theorem sc_xi_BadBook : FnScope ["self", "fault", "at"] ["self", "fault", "at"] (defScope s_xi_BadBook) := ⟨rfl, rfl, rfl, by decide +kernel, rfl, by decide +kernel, by decide +kernel⟩
end
theorem all_mk {l : PySem.W.OpenLaw} {w : World} {K : PySem.W.Frag} {h : Heap} {mg : Str → Option Value} {fa : Addr} (X : K.In h) (G : h.Ns mainGlobals mg) (hfa : mg "law" = some (.ref fa)) (hlaw : ∀ ns : List Int, ns.length ≤ 63 → m_law [.scr ns] = .ok (.bl true))
    {C_Book : Addr} (aC_Book : PySem.W.nsIn K mainGlobals "Book" = some (some (.ref C_Book)))
    {C_BadLabels : Addr} (aC_BadLabels : PySem.W.nsIn K mainGlobals "BadLabels" = some (some (.ref C_BadLabels)))
    {C_NeverAloneError : Addr} (aC_NeverAloneError : PySem.W.nsIn K mainGlobals "NeverAloneError" = some (some (.ref C_NeverAloneError)))
    {C_BadBook : Addr} (aC_BadBook : PySem.W.nsIn K mainGlobals "BadBook" = some (some (.ref C_BadBook)))
    {C_Mismatch : Addr} (aC_Mismatch : PySem.W.nsIn K mainGlobals "Mismatch" = some (some (.ref C_Mismatch)))
    {f0 : Addr} (a0 : PySem.W.findIn K (.ref C_Book) "__len__" = some (some (.ref f0)))
    (i0 : PySem.W.isFn K (.ref f0) = true)
    {od0 an0 : Option Addr} {sl0 : Array (Option Value)} {oc0 kV0 dc0 pm0 cd0 ct0 : Value}
    (l0 : K.lookup f0 = some ⟨oc0, od0, .func (PySem.W.fnOf "__len__" "Book.__len__" (defArgs s_Book_len) (defBody s_Book_len) (defScope s_Book_len) .none kV0 dc0 pm0 an0 cd0 ct0), sl0⟩)
    (c0 : PySem.W.codeIn K cd0 "Book.__len__" = true)
    (k0 : PySem.W.keepIn K (.ref f0) = true)
    {f1 : Addr} (a1 : PySem.W.nsIn K mainGlobals "_law_cell" = some (some (.ref f1)))
    {od1 an1 : Option Addr} {sl1 : Array (Option Value)} {oc1 kV1 dc1 pm1 cd1 ct1 : Value}
    (l1 : K.lookup f1 = some ⟨oc1, od1, .func (PySem.W.fnOf "_law_cell" "_law_cell" (defArgs s__law_cell) (defBody s__law_cell) (defScope s__law_cell) .none kV1 dc1 pm1 an1 cd1 ct1), sl1⟩)
    (c1 : PySem.W.codeIn K cd1 "_law_cell" = true)
    (k1 : PySem.W.keepIn K (.ref f1) = true)
    {f2 : Addr} (a2 : PySem.W.nsIn K mainGlobals "_law_rooms" = some (some (.ref f2)))
    {od2 an2 : Option Addr} {sl2 : Array (Option Value)} {oc2 kV2 dc2 pm2 cd2 ct2 : Value}
    (l2 : K.lookup f2 = some ⟨oc2, od2, .func (PySem.W.fnOf "_law_rooms" "_law_rooms" (defArgs s__law_rooms) (defBody s__law_rooms) (defScope s__law_rooms) .none kV2 dc2 pm2 an2 cd2 ct2), sl2⟩)
    (c2 : PySem.W.codeIn K cd2 "_law_rooms" = true)
    (k2 : PySem.W.keepIn K (.ref f2) = true)
    {f3 : Addr} (a3 : PySem.W.nsIn K mainGlobals "_law_even_rooms" = some (some (.ref f3)))
    {od3 an3 : Option Addr} {sl3 : Array (Option Value)} {oc3 kV3 dc3 pm3 cd3 ct3 : Value}
    (l3 : K.lookup f3 = some ⟨oc3, od3, .func (PySem.W.fnOf "_law_even_rooms" "_law_even_rooms" (defArgs s__law_even_rooms) (defBody s__law_even_rooms) (defScope s__law_even_rooms) .none kV3 dc3 pm3 an3 cd3 ct3), sl3⟩)
    (c3 : PySem.W.codeIn K cd3 "_law_even_rooms" = true)
    (k3 : PySem.W.keepIn K (.ref f3) = true)
    {f4 : Addr} (a4 : PySem.W.nsIn K mainGlobals "_law_some_rooms" = some (some (.ref f4)))
    {od4 an4 : Option Addr} {sl4 : Array (Option Value)} {oc4 kV4 dc4 pm4 cd4 ct4 : Value}
    (l4 : K.lookup f4 = some ⟨oc4, od4, .func (PySem.W.fnOf "_law_some_rooms" "_law_some_rooms" (defArgs s__law_some_rooms) (defBody s__law_some_rooms) (defScope s__law_some_rooms) .none kV4 dc4 pm4 an4 cd4 ct4), sl4⟩)
    (c4 : PySem.W.codeIn K cd4 "_law_some_rooms" = true)
    (k4 : PySem.W.keepIn K (.ref f4) = true)
    {f5 : Addr} (a5 : PySem.W.nsIn K mainGlobals "_law_order" = some (some (.ref f5)))
    {od5 an5 : Option Addr} {sl5 : Array (Option Value)} {oc5 kV5 dc5 pm5 cd5 ct5 : Value}
    (l5 : K.lookup f5 = some ⟨oc5, od5, .func (PySem.W.fnOf "_law_order" "_law_order" (defArgs s__law_order) (defBody s__law_order) (defScope s__law_order) .none kV5 dc5 pm5 an5 cd5 ct5), sl5⟩)
    (c5 : PySem.W.codeIn K cd5 "_law_order" = true)
    (k5 : PySem.W.keepIn K (.ref f5) = true)
    {f6 : Addr} (a6 : PySem.W.nsIn K mainGlobals "_law_labels" = some (some (.ref f6)))
    {od6 an6 : Option Addr} {sl6 : Array (Option Value)} {oc6 kV6 dc6 pm6 cd6 ct6 : Value}
    (l6 : K.lookup f6 = some ⟨oc6, od6, .func (PySem.W.fnOf "_law_labels" "_law_labels" (defArgs s__law_labels) (defBody s__law_labels) (defScope s__law_labels) .none kV6 dc6 pm6 an6 cd6 ct6), sl6⟩)
    (c6 : PySem.W.codeIn K cd6 "_law_labels" = true)
    (k6 : PySem.W.keepIn K (.ref f6) = true)
    {f7 : Addr} (a7 : PySem.W.nsIn K mainGlobals "_law_spoilt" = some (some (.ref f7)))
    {od7 an7 : Option Addr} {sl7 : Array (Option Value)} {oc7 kV7 dc7 pm7 cd7 ct7 : Value}
    (l7 : K.lookup f7 = some ⟨oc7, od7, .func (PySem.W.fnOf "_law_spoilt" "_law_spoilt" (defArgs s__law_spoilt) (defBody s__law_spoilt) (defScope s__law_spoilt) .none kV7 dc7 pm7 an7 cd7 ct7), sl7⟩)
    (c7 : PySem.W.codeIn K cd7 "_law_spoilt" = true)
    (k7 : PySem.W.keepIn K (.ref f7) = true)
    {f8 : Addr} (a8 : PySem.W.nsIn K mainGlobals "_law_due" = some (some (.ref f8)))
    {od8 an8 : Option Addr} {sl8 : Array (Option Value)} {oc8 kV8 dc8 pm8 cd8 ct8 : Value}
    (l8 : K.lookup f8 = some ⟨oc8, od8, .func (PySem.W.fnOf "_law_due" "_law_due" (defArgs s__law_due) (defBody s__law_due) (defScope s__law_due) .none kV8 dc8 pm8 an8 cd8 ct8), sl8⟩)
    (c8 : PySem.W.codeIn K cd8 "_law_due" = true)
    (k8 : PySem.W.keepIn K (.ref f8) = true)
    {f9 : Addr} (a9 : PySem.W.nsIn K mainGlobals "check_number_of_labels" = some (some (.ref f9)))
    {od9 an9 : Option Addr} {sl9 : Array (Option Value)} {oc9 kV9 dc9 pm9 cd9 ct9 : Value}
    (l9 : K.lookup f9 = some ⟨oc9, od9, .func (PySem.W.fnOf "check_number_of_labels" "check_number_of_labels" (defArgs s_check_number_of_labels) (defBody s_check_number_of_labels) (defScope s_check_number_of_labels) .none kV9 dc9 pm9 an9 cd9 ct9), sl9⟩)
    (c9 : PySem.W.codeIn K cd9 "check_number_of_labels" = true)
    (k9 : PySem.W.keepIn K (.ref f9) = true)
    {f10 : Addr} (a10 : PySem.W.nsIn K mainGlobals "check_place_labels" = some (some (.ref f10)))
    {od10 an10 : Option Addr} {sl10 : Array (Option Value)} {oc10 kV10 dc10 pm10 cd10 ct10 : Value}
    (l10 : K.lookup f10 = some ⟨oc10, od10, .func (PySem.W.fnOf "check_place_labels" "check_place_labels" (defArgs s_check_place_labels) (defBody s_check_place_labels) (defScope s_check_place_labels) .none kV10 dc10 pm10 an10 cd10 ct10), sl10⟩)
    (c10 : PySem.W.codeIn K cd10 "check_place_labels" = true)
    (k10 : PySem.W.keepIn K (.ref f10) = true)
    {f11 : Addr} (a11 : PySem.W.findIn K (.ref C_Book) "__iter__" = some (some (.ref f11)))
    (i11 : PySem.W.isFn K (.ref f11) = true)
    {od11 an11 : Option Addr} {sl11 : Array (Option Value)} {oc11 kV11 dc11 pm11 cd11 ct11 : Value}
    (l11 : K.lookup f11 = some ⟨oc11, od11, .func (PySem.W.fnOf "__iter__" "Book.__iter__" (defArgs s_Book_iter) (defBody s_Book_iter) (defScope s_Book_iter) .none kV11 dc11 pm11 an11 cd11 ct11), sl11⟩)
    (c11 : PySem.W.codeIn K cd11 "Book.__iter__" = true)
    (k11 : PySem.W.keepIn K (.ref f11) = true)
    {f12 : Addr} (a12 : PySem.W.nsIn K mainGlobals "labels_of" = some (some (.ref f12)))
    {od12 an12 : Option Addr} {sl12 : Array (Option Value)} {oc12 kV12 dc12 pm12 cd12 ct12 : Value}
    (l12 : K.lookup f12 = some ⟨oc12, od12, .func (PySem.W.fnOf "labels_of" "labels_of" (defArgs s_labels_of) (defBody s_labels_of) (defScope s_labels_of) .none kV12 dc12 pm12 an12 cd12 ct12), sl12⟩)
    (c12 : PySem.W.codeIn K cd12 "labels_of" = true)
    (k12 : PySem.W.keepIn K (.ref f12) = true)
    {f13 : Addr} (a13 : PySem.W.findIn K (.ref C_Book) "__eq__" = some (some (.ref f13)))
    (i13 : PySem.W.isFn K (.ref f13) = true)
    {od13 an13 : Option Addr} {sl13 : Array (Option Value)} {oc13 kV13 dc13 pm13 cd13 ct13 : Value}
    (l13 : K.lookup f13 = some ⟨oc13, od13, .func (PySem.W.fnOf "__eq__" "Book.__eq__" (defArgs s_Book_eq) (defBody s_Book_eq) (defScope s_Book_eq) .none kV13 dc13 pm13 an13 cd13 ct13), sl13⟩)
    (c13 : PySem.W.codeIn K cd13 "Book.__eq__" = true)
    (k13 : PySem.W.keepIn K (.ref f13) = true)
    {f14 : Addr} (a14 : PySem.W.nsIn K mainGlobals "full_rooms" = some (some (.ref f14)))
    {od14 an14 : Option Addr} {sl14 : Array (Option Value)} {oc14 kV14 dc14 pm14 cd14 ct14 : Value}
    (l14 : K.lookup f14 = some ⟨oc14, od14, .func (PySem.W.fnOf "full_rooms" "full_rooms" (defArgs s_full_rooms) (defBody s_full_rooms) (defScope s_full_rooms) .none kV14 dc14 pm14 an14 cd14 ct14), sl14⟩)
    (c14 : PySem.W.codeIn K cd14 "full_rooms" = true)
    (k14 : PySem.W.keepIn K (.ref f14) = true)
    {f15 : Addr} (a15 : PySem.W.nsIn K mainGlobals "_law_refused" = some (some (.ref f15)))
    {od15 an15 : Option Addr} {sl15 : Array (Option Value)} {oc15 kV15 dc15 pm15 cd15 ct15 : Value}
    (l15 : K.lookup f15 = some ⟨oc15, od15, .func (PySem.W.fnOf "_law_refused" "_law_refused" (defArgs s__law_refused) (defBody s__law_refused) (defScope s__law_refused) .none kV15 dc15 pm15 an15 cd15 ct15), sl15⟩)
    (c15 : PySem.W.codeIn K cd15 "_law_refused" = true)
    (k15 : PySem.W.keepIn K (.ref f15) = true)
    {f16 : Addr} (a16 : PySem.W.nsIn K mainGlobals "_law_right" = some (some (.ref f16)))
    {od16 an16 : Option Addr} {sl16 : Array (Option Value)} {oc16 kV16 dc16 pm16 cd16 ct16 : Value}
    (l16 : K.lookup f16 = some ⟨oc16, od16, .func (PySem.W.fnOf "_law_right" "_law_right" (defArgs s__law_right) (defBody s__law_right) (defScope s__law_right) .none kV16 dc16 pm16 an16 cd16 ct16), sl16⟩)
    (c16 : PySem.W.codeIn K cd16 "_law_right" = true)
    (k16 : PySem.W.keepIn K (.ref f16) = true)
    {f17 : Addr} (a17 : PySem.W.findIn K (.ref C_Book) "__contains__" = some (some (.ref f17)))
    (i17 : PySem.W.isFn K (.ref f17) = true)
    {od17 an17 : Option Addr} {sl17 : Array (Option Value)} {oc17 kV17 dc17 pm17 cd17 ct17 : Value}
    (l17 : K.lookup f17 = some ⟨oc17, od17, .func (PySem.W.fnOf "__contains__" "Book.__contains__" (defArgs s_Book_contains) (defBody s_Book_contains) (defScope s_Book_contains) .none kV17 dc17 pm17 an17 cd17 ct17), sl17⟩)
    (c17 : PySem.W.codeIn K cd17 "Book.__contains__" = true)
    (k17 : PySem.W.keepIn K (.ref f17) = true)
    {f18 : Addr} (a18 : PySem.W.nsIn K mainGlobals "_law_even" = some (some (.ref f18)))
    {od18 an18 : Option Addr} {sl18 : Array (Option Value)} {oc18 kV18 dc18 pm18 cd18 ct18 : Value}
    (l18 : K.lookup f18 = some ⟨oc18, od18, .func (PySem.W.fnOf "_law_even" "_law_even" (defArgs s__law_even) (defBody s__law_even) (defScope s__law_even) .none kV18 dc18 pm18 an18 cd18 ct18), sl18⟩)
    (c18 : PySem.W.codeIn K cd18 "_law_even" = true)
    (k18 : PySem.W.keepIn K (.ref f18) = true)
    {f19 : Addr} (a19 : PySem.W.nsIn K mainGlobals "room_fault" = some (some (.ref f19)))
    {od19 an19 : Option Addr} {sl19 : Array (Option Value)} {oc19 kV19 dc19 pm19 cd19 ct19 : Value}
    (l19 : K.lookup f19 = some ⟨oc19, od19, .func (PySem.W.fnOf "room_fault" "room_fault" (defArgs s_room_fault) (defBody s_room_fault) (defScope s_room_fault) .none kV19 dc19 pm19 an19 cd19 ct19), sl19⟩)
    (c19 : PySem.W.codeIn K cd19 "room_fault" = true)
    (k19 : PySem.W.keepIn K (.ref f19) = true)
    {f20 : Addr} (a20 : PySem.W.nsIn K mainGlobals "book_faults" = some (some (.ref f20)))
    {od20 an20 : Option Addr} {sl20 : Array (Option Value)} {oc20 kV20 dc20 pm20 cd20 ct20 : Value}
    (l20 : K.lookup f20 = some ⟨oc20, od20, .func (PySem.W.fnOf "book_faults" "book_faults" (defArgs s_book_faults) (defBody s_book_faults) (defScope s_book_faults) .none kV20 dc20 pm20 an20 cd20 ct20), sl20⟩)
    (c20 : PySem.W.codeIn K cd20 "book_faults" = true)
    (k20 : PySem.W.keepIn K (.ref f20) = true)
    {f21 : Addr} (a21 : PySem.W.findIn K (.ref C_Book) "__init__" = some (some (.ref f21)))
    (i21 : PySem.W.isFn K (.ref f21) = true)
    {od21 an21 : Option Addr} {sl21 : Array (Option Value)} {oc21 kV21 dc21 pm21 cd21 ct21 : Value}
    (l21 : K.lookup f21 = some ⟨oc21, od21, .func (PySem.W.fnOf "__init__" "Book.__init__" (defArgs s_Book_init) (defBody s_Book_init) (defScope s_Book_init) .none kV21 dc21 pm21 an21 cd21 ct21), sl21⟩)
    (c21 : PySem.W.codeIn K cd21 "Book.__init__" = true)
    (k21 : PySem.W.keepIn K (.ref f21) = true)
    {f22 : Addr} (a22 : PySem.W.nsIn K mainGlobals "law" = some (some (.ref f22)))
    {od22 an22 : Option Addr} {sl22 : Array (Option Value)} {oc22 kV22 dc22 pm22 cd22 ct22 : Value}
    (l22 : K.lookup f22 = some ⟨oc22, od22, .func (PySem.W.fnOf "law" "law" (defArgs s_law) (defBody s_law) (defScope s_law) .none kV22 dc22 pm22 an22 cd22 ct22), sl22⟩)
    (c22 : PySem.W.codeIn K cd22 "law" = true)
    (k22 : PySem.W.keepIn K (.ref f22) = true)
    (pg_Book : PySem.W.plainGet K C_Book Str.empty = true)
    (hd_Book : PySem.W.hasDictIn K C_Book = true)
    (po_Book : PySem.W.plainOver K C_Book = true)
    (sa_Book : PySem.W.findIn K (.ref C_Book) "__setattr__" = some (some (.builtin "object.__setattr__")))
    (sf_Book : PySem.W.selfFirst K C_Book = true)
    (mk_Book : PySem.W.makesIn K C_Book = true)
    (kc_Book : PySem.W.keepIn K (.ref C_Book) = true)
    (no_Book_rooms : PySem.W.findIn K (.ref C_Book) "rooms" = some none)
    (no_Book_places : PySem.W.findIn K (.ref C_Book) "places" = some none)
    (no_Book_size : PySem.W.findIn K (.ref C_Book) "size" = some none)
    (no_Book__known : PySem.W.findIn K (.ref C_Book) "_known" = some none)
    {nm_BadLabels q_BadLabels : Str} {N_BadLabels : Addr} {bs_BadLabels bm_BadLabels : List Value} {sn_BadLabels : List Str} {sb_BadLabels : List Value} {ab_BadLabels : Bool} {co_BadLabels : Option Bool} {dd_BadLabels : Option Addr} {m0_BadLabels m1_BadLabels m2_BadLabels m3_BadLabels m5_BadLabels : Option Value}
    (xL_BadLabels : K.lookup C_BadLabels = some (excClassObj nm_BadLabels q_BadLabels C_BadLabels N_BadLabels bs_BadLabels bm_BadLabels true sn_BadLabels sb_BadLabels ab_BadLabels co_BadLabels dd_BadLabels m0_BadLabels m1_BadLabels m2_BadLabels m3_BadLabels m5_BadLabels "ValueError.__new__"))
    (xV_BadLabels : PySem.HandSPX.refsVE bm_BadLabels = true)
    (eC_BadLabels : PySem.W.subIn K (.ref C_BadLabels) (.type "BaseException") = some true)
    (tC_BadLabels : PySem.W.typeIn K (.ref C_BadLabels) = some (.type "type"))
    (sa_BadLabels : PySem.W.findIn K (.ref C_BadLabels) "__setattr__" = some (some (.builtin "object.__setattr__")))
    (kc_BadLabels : PySem.W.keepIn K (.ref C_BadLabels) = true)
    (no_BadLabels_fault : PySem.W.findIn K (.ref C_BadLabels) "fault" = some none)
    (no_BadLabels_at : PySem.W.findIn K (.ref C_BadLabels) "at" = some none)
    {f_BadLabels : Addr} (a_BadLabels : PySem.W.findIn K (.ref C_BadLabels) "__init__" = some (some (.ref f_BadLabels)))
    (t_BadLabels : PySem.W.typeIn K (.ref f_BadLabels) = some (.type "function"))
    {od_BadLabels an_BadLabels : Option Addr} {sl_BadLabels : Array (Option Value)} {oc_BadLabels kV_BadLabels dc_BadLabels pm_BadLabels cd_BadLabels ct_BadLabels : Value}
    (l_BadLabels : K.lookup f_BadLabels = some ⟨oc_BadLabels, od_BadLabels, .func (PySem.W.fnOf "__init__" "BadLabels.__init__" (defArgs s_xi_BadLabels) (defBody s_xi_BadLabels) (defScope s_xi_BadLabels) .none kV_BadLabels dc_BadLabels pm_BadLabels an_BadLabels cd_BadLabels ct_BadLabels), sl_BadLabels⟩)
    (c_BadLabels : PySem.W.codeIn K cd_BadLabels "BadLabels.__init__" = true)
    (k_BadLabels : PySem.W.keepIn K (.ref f_BadLabels) = true)
    {nm_BadBook q_BadBook : Str} {N_BadBook : Addr} {bs_BadBook bm_BadBook : List Value} {sn_BadBook : List Str} {sb_BadBook : List Value} {ab_BadBook : Bool} {co_BadBook : Option Bool} {dd_BadBook : Option Addr} {m0_BadBook m1_BadBook m2_BadBook m3_BadBook m5_BadBook : Option Value}
    (xL_BadBook : K.lookup C_BadBook = some (excClassObj nm_BadBook q_BadBook C_BadBook N_BadBook bs_BadBook bm_BadBook true sn_BadBook sb_BadBook ab_BadBook co_BadBook dd_BadBook m0_BadBook m1_BadBook m2_BadBook m3_BadBook m5_BadBook "ValueError.__new__"))
    (xV_BadBook : PySem.HandSPX.refsVE bm_BadBook = true)
    (eC_BadBook : PySem.W.subIn K (.ref C_BadBook) (.type "BaseException") = some true)
    (tC_BadBook : PySem.W.typeIn K (.ref C_BadBook) = some (.type "type"))
    (sa_BadBook : PySem.W.findIn K (.ref C_BadBook) "__setattr__" = some (some (.builtin "object.__setattr__")))
    (kc_BadBook : PySem.W.keepIn K (.ref C_BadBook) = true)
    (no_BadBook_fault : PySem.W.findIn K (.ref C_BadBook) "fault" = some none)
    (no_BadBook_at : PySem.W.findIn K (.ref C_BadBook) "at" = some none)
    {f_BadBook : Addr} (a_BadBook : PySem.W.findIn K (.ref C_BadBook) "__init__" = some (some (.ref f_BadBook)))
    (t_BadBook : PySem.W.typeIn K (.ref f_BadBook) = some (.type "function"))
    {od_BadBook an_BadBook : Option Addr} {sl_BadBook : Array (Option Value)} {oc_BadBook kV_BadBook dc_BadBook pm_BadBook cd_BadBook ct_BadBook : Value}
    (l_BadBook : K.lookup f_BadBook = some ⟨oc_BadBook, od_BadBook, .func (PySem.W.fnOf "__init__" "BadBook.__init__" (defArgs s_xi_BadBook) (defBody s_xi_BadBook) (defScope s_xi_BadBook) .none kV_BadBook dc_BadBook pm_BadBook an_BadBook cd_BadBook ct_BadBook), sl_BadBook⟩)
    (c_BadBook : PySem.W.codeIn K cd_BadBook "BadBook.__init__" = true)
    (k_BadBook : PySem.W.keepIn K (.ref f_BadBook) = true)
    (ga_BadLabels : PySem.W.findIn K (.ref C_BadLabels) "__getattribute__" = some (some (.builtin "BaseException.__getattribute__")))
    (gg_BadLabels : PySem.W.findIn K (.ref C_BadLabels) "__getattr__" = some none)
    (hC_BadLabels : PySem.W.hasDictIn K C_BadLabels = true)
    (ga_BadBook : PySem.W.findIn K (.ref C_BadBook) "__getattribute__" = some (some (.builtin "BaseException.__getattribute__")))
    (gg_BadBook : PySem.W.findIn K (.ref C_BadBook) "__getattr__" = some none)
    (hC_BadBook : PySem.W.hasDictIn K C_BadBook = true)
    (eC_Mismatch : PySem.W.subIn K (.ref C_Mismatch) (.type "BaseException") = some true)
    (tC_Mismatch : PySem.W.typeIn K (.ref C_Mismatch) = some (.type "type"))
    (ga_Mismatch : PySem.W.findIn K (.ref C_Mismatch) "__getattribute__" = some (some (.builtin "BaseException.__getattribute__")))
    (gg_Mismatch : PySem.W.findIn K (.ref C_Mismatch) "__getattr__" = some none)
    (hC_Mismatch : PySem.W.hasDictIn K C_Mismatch = true)
    (no_Mismatch_fault : PySem.W.findIn K (.ref C_Mismatch) "fault" = some none)
    (oC : PySem.W.specialIn K (.builtin "object.__class__") "__get__" = some (some (.builtin "getset_descriptor.__get__")))
    (oT_ : PySem.W.takesIn K (.builtin "object.__class__") = some true)
    (cc_BadBook : PySem.W.findIn K (.ref C_BadBook) "__class__" = some (some (.builtin "object.__class__")))
    (mo_BadBook : PySem.W.mroIn K C_BadBook (.type "object") = some true)
    (ic_BadBook : PySem.W.isClsIn K C_BadBook = true)
    (s_BadBook_BadBook : PySem.W.subIn K (.ref C_BadBook) (.ref C_BadBook) = some true)
    (cc_Mismatch : PySem.W.findIn K (.ref C_Mismatch) "__class__" = some (some (.builtin "object.__class__")))
    (mo_Mismatch : PySem.W.mroIn K C_Mismatch (.type "object") = some true)
    (ic_Mismatch : PySem.W.isClsIn K C_Mismatch = true)
    (s_Mismatch_Mismatch : PySem.W.subIn K (.ref C_Mismatch) (.ref C_Mismatch) = some true)
    (cc_BadLabels : PySem.W.findIn K (.ref C_BadLabels) "__class__" = some (some (.builtin "object.__class__")))
    (mo_BadLabels : PySem.W.mroIn K C_BadLabels (.type "object") = some true)
    (ic_BadLabels : PySem.W.isClsIn K C_BadLabels = true)
    (s_BadLabels_BadLabels : PySem.W.subIn K (.ref C_BadLabels) (.ref C_BadLabels) = some true)
    (s_BadLabels_BadBook : PySem.W.subIn K (.ref C_BadLabels) (.ref C_BadBook) = some false)
    (eC_NeverAloneError : PySem.W.subIn K (.ref C_NeverAloneError) (.type "BaseException") = some true)
    (tC_NeverAloneError : PySem.W.typeIn K (.ref C_NeverAloneError) = some (.type "type"))
    (ic_NeverAloneError : PySem.W.isClsIn K C_NeverAloneError = true)
    (s_BadLabels_NeverAloneError : PySem.W.subIn K (.ref C_BadLabels) (.ref C_NeverAloneError) = some true)
    (s_Mismatch_BadBook : PySem.W.subIn K (.ref C_Mismatch) (.ref C_BadBook) = some false)
    (s_Mismatch_NeverAloneError : PySem.W.subIn K (.ref C_Mismatch) (.ref C_NeverAloneError) = some true)
    (s_Mismatch_BadLabels : PySem.W.subIn K (.ref C_Mismatch) (.ref C_BadLabels) = some false)
    (s_BadBook_NeverAloneError : PySem.W.subIn K (.ref C_BadBook) (.ref C_NeverAloneError) = some true)
    (s_BadBook_BadLabels : PySem.W.subIn K (.ref C_BadBook) (.ref C_BadLabels) = some false)
    (eB_ValueError : PySem.W.subIn K (.type "ValueError") (.type "BaseException") = some true)
    (sb_BadLabels_ValueError : PySem.W.subIn K (.ref C_BadLabels) (.type "ValueError") = some true)
    (sb_Mismatch_ValueError : PySem.W.subIn K (.ref C_Mismatch) (.type "ValueError") = some true)
    (sb_BadBook_ValueError : PySem.W.subIn K (.ref C_BadBook) (.type "ValueError") = some true)
    (cc_Book : PySem.W.findIn K (.ref C_Book) "__class__" = some (some (.builtin "object.__class__")))
    (mo_Book : PySem.W.mroIn K C_Book (.type "object") = some true)
    (tC_Book : PySem.W.typeIn K (.ref C_Book) = some (.type "type"))
    (s_Book_Book : PySem.W.subIn K (.ref C_Book) (.ref C_Book) = some true)
    (ic_Book : PySem.W.isClsIn K C_Book = true)
    (sb_Book_bool : PySem.W.subIn K (.ref C_Book) (.type "bool") = some false)
    (sb_Book_int : PySem.W.subIn K (.ref C_Book) (.type "int") = some false)
    (sb_Book_tuple : PySem.W.subIn K (.ref C_Book) (.type "tuple") = some false)
    (sb_Book_list : PySem.W.subIn K (.ref C_Book) (.type "list") = some false)
    (z_len : PySem.W.nsIn K mainGlobals "len" = some none)
    (z_abs : PySem.W.nsIn K mainGlobals "abs" = some none)
    (z_int : PySem.W.nsIn K mainGlobals "int" = some none)
    (z_range : PySem.W.nsIn K mainGlobals "range" = some none)
    (z_tuple : PySem.W.nsIn K mainGlobals "tuple" = some none)
    (z_sorted : PySem.W.nsIn K mainGlobals "sorted" = some none)
    (z_list : PySem.W.nsIn K mainGlobals "list" = some none)
    (z_enumerate : PySem.W.nsIn K mainGlobals "enumerate" = some none)
    (z_iter : PySem.W.nsIn K mainGlobals "iter" = some none)
    (z_isinstance : PySem.W.nsIn K mainGlobals "isinstance" = some none)
    (z_ValueError : PySem.W.nsIn K mainGlobals "ValueError" = some none)
    (z_bool : PySem.W.nsIn K mainGlobals "bool" = some none)
    (z_any : PySem.W.nsIn K mainGlobals "any" = some none)
    (z_set : PySem.W.nsIn K mainGlobals "set" = some none)
    {t_MOST_PLACES : Tok} (z_MOST_PLACES : PySem.W.nsIn K mainGlobals "MOST_PLACES" = some (some (.int 12 t_MOST_PLACES)))
    : ∃ fd : FuncData, (∀ (s : Shared) (v : Value), BindsTo s fd ⟨[v], []⟩ [("_law_script", v)]) ∧ ∀ base : Heap, K.In base → base.Ns mainGlobals mg → FnOk l.prog w K mg base (L2.CX l.prog w) 15 fa fd ["_law_script"] (spLaw K) := by
  have e := hfa.symm.trans (PySem.W.mg_of X G a22)
  cases e
  have b_len := PySem.W.mg_none_of X G z_len
  have b_abs := PySem.W.mg_none_of X G z_abs
  have b_int := PySem.W.mg_none_of X G z_int
  have b_range := PySem.W.mg_none_of X G z_range
  have b_tuple := PySem.W.mg_none_of X G z_tuple
  have b_sorted := PySem.W.mg_none_of X G z_sorted
  have b_list := PySem.W.mg_none_of X G z_list
  have b_enumerate := PySem.W.mg_none_of X G z_enumerate
  have b_iter := PySem.W.mg_none_of X G z_iter
  have b_isinstance := PySem.W.mg_none_of X G z_isinstance
  have b_ValueError := PySem.W.mg_none_of X G z_ValueError
  have b_bool := PySem.W.mg_none_of X G z_bool
  have b_any := PySem.W.mg_none_of X G z_any
  have b_set := PySem.W.mg_none_of X G z_set
  have g_MOST_PLACES := PySem.W.mg_of X G z_MOST_PLACES
  have h_Book := PySem.W.mg_of X G aC_Book
  have h_BadLabels := PySem.W.mg_of X G aC_BadLabels
  have h_NeverAloneError := PySem.W.mg_of X G aC_NeverAloneError
  have h_BadBook := PySem.W.mg_of X G aC_BadBook
  have h_Mismatch := PySem.W.mg_of X G aC_Mismatch
  have cls_Book : Cls K C_Book := ⟨pg_Book, hd_Book, po_Book, sa_Book⟩
  have f_rooms : ClF K (g0 mg) ["Book"] "rooms" := (ClF.cons h_Book cls_Book no_Book_rooms ClF.nil)
  have f_places : ClF K (g0 mg) ["Book"] "places" := (ClF.cons h_Book cls_Book no_Book_places ClF.nil)
  have f_size : ClF K (g0 mg) ["Book"] "size" := (ClF.cons h_Book cls_Book no_Book_size ClF.nil)
  have f__known : ClF K (g0 mg) ["Book"] "_known" := (ClF.cons h_Book cls_Book no_Book__known ClF.nil)
  have xc_BadLabels : DL.ClX K C_BadLabels ["fault", "at"] := ⟨⟨⟨_, _, _, _, _, _, _, _, _, _, _, _, _, _, _, xL_BadLabels, xV_BadLabels⟩, sa_BadLabels, eC_BadLabels, tC_BadLabels, kc_BadLabels⟩, (all_cons no_BadLabels_fault (all_cons no_BadLabels_at all_nil))⟩
  have xc_BadBook : DL.ClX K C_BadBook ["fault", "at"] := ⟨⟨⟨_, _, _, _, _, _, _, _, _, _, _, _, _, _, _, xL_BadBook, xV_BadBook⟩, sa_BadBook, eC_BadBook, tC_BadBook, kc_BadBook⟩, (all_cons no_BadBook_fault (all_cons no_BadBook_at all_nil))⟩
  have xf_at : XcF K mg ["BadBook", "BadLabels"] "at" := (XcF.cons h_BadBook ⟨ga_BadBook, gg_BadBook, eC_BadBook, hC_BadBook⟩ no_BadBook_at (XcF.cons h_BadLabels ⟨ga_BadLabels, gg_BadLabels, eC_BadLabels, hC_BadLabels⟩ no_BadLabels_at XcF.nil))
  have xf_fault : XcF K mg ["BadBook", "Mismatch", "BadLabels"] "fault" := (XcF.cons h_BadBook ⟨ga_BadBook, gg_BadBook, eC_BadBook, hC_BadBook⟩ no_BadBook_fault (XcF.cons h_Mismatch ⟨ga_Mismatch, gg_Mismatch, eC_Mismatch, hC_Mismatch⟩ no_Mismatch_fault (XcF.cons h_BadLabels ⟨ga_BadLabels, gg_BadLabels, eC_BadLabels, hC_BadLabels⟩ no_BadLabels_fault XcF.nil)))
  have xo_BadBook : XcOk K C_BadBook := ⟨⟨ga_BadBook, gg_BadBook, eC_BadBook, hC_BadBook, cc_BadBook, oC, oT_, mo_BadBook⟩, tC_BadBook, ic_BadBook, s_BadBook_BadBook⟩
  have xo_Mismatch : XcOk K C_Mismatch := ⟨⟨ga_Mismatch, gg_Mismatch, eC_Mismatch, hC_Mismatch, cc_Mismatch, oC, oT_, mo_Mismatch⟩, tC_Mismatch, ic_Mismatch, s_Mismatch_Mismatch⟩
  have xo_BadLabels : XcOk K C_BadLabels := ⟨⟨ga_BadLabels, gg_BadLabels, eC_BadLabels, hC_BadLabels, cc_BadLabels, oC, oT_, mo_BadLabels⟩, tC_BadLabels, ic_BadLabels, s_BadLabels_BadLabels⟩
  have S_x : XSub K mg xT xB := XSub.rows (all_cons ⟨_, _, h_BadBook, h_BadLabels, xo_BadBook, eC_BadLabels, tC_BadLabels, ic_BadLabels, s_BadBook_BadLabels⟩ (all_cons ⟨_, _, h_BadBook, h_NeverAloneError, xo_BadBook, eC_NeverAloneError, tC_NeverAloneError, ic_NeverAloneError, s_BadBook_NeverAloneError⟩ (all_cons ⟨_, _, h_BadBook, h_BadBook, xo_BadBook, eC_BadBook, tC_BadBook, ic_BadBook, s_BadBook_BadBook⟩ (all_cons ⟨_, _, h_Mismatch, h_BadLabels, xo_Mismatch, eC_BadLabels, tC_BadLabels, ic_BadLabels, s_Mismatch_BadLabels⟩ (all_cons ⟨_, _, h_Mismatch, h_NeverAloneError, xo_Mismatch, eC_NeverAloneError, tC_NeverAloneError, ic_NeverAloneError, s_Mismatch_NeverAloneError⟩ (all_cons ⟨_, _, h_Mismatch, h_BadBook, xo_Mismatch, eC_BadBook, tC_BadBook, ic_BadBook, s_Mismatch_BadBook⟩ (all_cons ⟨_, _, h_BadLabels, h_BadLabels, xo_BadLabels, eC_BadLabels, tC_BadLabels, ic_BadLabels, s_BadLabels_BadLabels⟩ (all_cons ⟨_, _, h_BadLabels, h_NeverAloneError, xo_BadLabels, eC_NeverAloneError, tC_NeverAloneError, ic_NeverAloneError, s_BadLabels_NeverAloneError⟩ (all_cons ⟨_, _, h_BadLabels, h_BadBook, xo_BadLabels, eC_BadBook, tC_BadBook, ic_BadBook, s_BadLabels_BadBook⟩ all_nil))))))))) (all_cons ⟨_, h_BadBook, xo_BadBook, by decide +kernel, eB_ValueError, sb_BadBook_ValueError⟩ (all_cons ⟨_, h_Mismatch, xo_Mismatch, by decide +kernel, eB_ValueError, sb_Mismatch_ValueError⟩ (all_cons ⟨_, h_BadLabels, xo_BadLabels, by decide +kernel, eB_ValueError, sb_BadLabels_ValueError⟩ all_nil)))
  have oo_Book : OcOk K C_Book := ⟨cls_Book, cc_Book, oC, oT_, mo_Book⟩
  have S_o : OSub K mg oT oB (fun _ _ => none) := OSub.rows (all_cons ⟨_, _, h_Book, h_Book, oo_Book, s_Book_Book, tC_Book, ic_Book, s_Book_Book⟩ all_nil) (all_cons ⟨_, h_Book, oo_Book, by decide +kernel, sb_Book_list⟩ (all_cons ⟨_, h_Book, oo_Book, by decide +kernel, sb_Book_tuple⟩ (all_cons ⟨_, h_Book, oo_Book, by decide +kernel, sb_Book_int⟩ (all_cons ⟨_, h_Book, oo_Book, by decide +kernel, sb_Book_bool⟩ all_nil))))
  have F_Book_len := fun_mk (st := s_Book_len) l0 c0 k0
  have B_Book_len := (fun_mk (st := s_Book_len) l0 c0 k0).binds (ps := ["self"]) fun _ _ _ _ _ _ us hl => match us, hl with | [_], _ => rfl
  have F__law_cell : FnAt K mg "_law_cell" s__law_cell ["_law_script", "_law_k"] := ⟨f1, _, fun_mk l1 c1 k1, PySem.W.mg_of X G a1, (fun_mk (st := s__law_cell) l1 c1 k1).binds (ps := ["_law_script", "_law_k"]) fun _ _ _ _ _ _ us hl => match us, hl with | [_, _], _ => rfl⟩
  have F__law_rooms : FnAt K mg "_law_rooms" s__law_rooms ["_law_items", "_law_size"] := ⟨f2, _, fun_mk l2 c2 k2, PySem.W.mg_of X G a2, (fun_mk (st := s__law_rooms) l2 c2 k2).binds (ps := ["_law_items", "_law_size"]) fun _ _ _ _ _ _ us hl => match us, hl with | [_, _], _ => rfl⟩
  have F__law_even_rooms : FnAt K mg "_law_even_rooms" s__law_even_rooms ["_law_n", "_law_size", "_law_cell_here"] := ⟨f3, _, fun_mk l3 c3 k3, PySem.W.mg_of X G a3, (fun_mk (st := s__law_even_rooms) l3 c3 k3).binds (ps := ["_law_n", "_law_size", "_law_cell_here"]) fun _ _ _ _ _ _ us hl => match us, hl with | [_, _, _], _ => rfl⟩
  have F__law_some_rooms : FnAt K mg "_law_some_rooms" s__law_some_rooms ["_law_n", "_law_size", "_law_cell_here"] := ⟨f4, _, fun_mk l4 c4 k4, PySem.W.mg_of X G a4, (fun_mk (st := s__law_some_rooms) l4 c4 k4).binds (ps := ["_law_n", "_law_size", "_law_cell_here"]) fun _ _ _ _ _ _ us hl => match us, hl with | [_, _, _], _ => rfl⟩
  have F__law_order : FnAt K mg "_law_order" s__law_order ["_law_cell_here", "_law_n"] := ⟨f5, _, fun_mk l5 c5 k5, PySem.W.mg_of X G a5, (fun_mk (st := s__law_order) l5 c5 k5).binds (ps := ["_law_cell_here", "_law_n"]) fun _ _ _ _ _ _ us hl => match us, hl with | [_, _], _ => rfl⟩
  have F__law_labels : FnAt K mg "_law_labels" s__law_labels ["_law_script", "_law_n", "_law_size"] := ⟨f6, _, fun_mk l6 c6 k6, PySem.W.mg_of X G a6, (fun_mk (st := s__law_labels) l6 c6 k6).binds (ps := ["_law_script", "_law_n", "_law_size"]) fun _ _ _ _ _ _ us hl => match us, hl with | [_, _, _], _ => rfl⟩
  have F__law_spoilt : FnAt K mg "_law_spoilt" s__law_spoilt ["_law_script", "_law_labels_here", "_law_size"] := ⟨f7, _, fun_mk l7 c7 k7, PySem.W.mg_of X G a7, (fun_mk (st := s__law_spoilt) l7 c7 k7).binds (ps := ["_law_script", "_law_labels_here", "_law_size"]) fun _ _ _ _ _ _ us hl => match us, hl with | [_, _, _], _ => rfl⟩
  have F__law_due : FnAt K mg "_law_due" s__law_due ["_law_n", "_law_size", "_law_labels_here"] := ⟨f8, _, fun_mk l8 c8 k8, PySem.W.mg_of X G a8, (fun_mk (st := s__law_due) l8 c8 k8).binds (ps := ["_law_n", "_law_size", "_law_labels_here"]) fun _ _ _ _ _ _ us hl => match us, hl with | [_, _, _], _ => rfl⟩
  have F_check_number_of_labels : FnAt K mg "check_number_of_labels" s_check_number_of_labels ["places", "labels"] := ⟨f9, _, fun_mk l9 c9 k9, PySem.W.mg_of X G a9, (fun_mk (st := s_check_number_of_labels) l9 c9 k9).binds (ps := ["places", "labels"]) fun _ _ _ _ _ _ us hl => match us, hl with | [_, _], _ => rfl⟩
  have F_check_place_labels : FnAt K mg "check_place_labels" s_check_place_labels ["places", "labels", "most"] := ⟨f10, _, fun_mk l10 c10 k10, PySem.W.mg_of X G a10, (fun_mk (st := s_check_place_labels) l10 c10 k10).binds (ps := ["places", "labels", "most"]) fun _ _ _ _ _ _ us hl => match us, hl with | [_, _, _], _ => rfl⟩
  have F_Book_iter := fun_mk (st := s_Book_iter) l11 c11 k11
  have B_Book_iter := (fun_mk (st := s_Book_iter) l11 c11 k11).binds (ps := ["self"]) fun _ _ _ _ _ _ us hl => match us, hl with | [_], _ => rfl
  have F_labels_of : FnAt K mg "labels_of" s_labels_of ["room", "labels"] := ⟨f12, _, fun_mk l12 c12 k12, PySem.W.mg_of X G a12, (fun_mk (st := s_labels_of) l12 c12 k12).binds (ps := ["room", "labels"]) fun _ _ _ _ _ _ us hl => match us, hl with | [_, _], _ => rfl⟩
  have F_Book_eq := fun_mk (st := s_Book_eq) l13 c13 k13
  have B_Book_eq := (fun_mk (st := s_Book_eq) l13 c13 k13).binds (ps := ["self", "other"]) fun _ _ _ _ _ _ us hl => match us, hl with | [_, _], _ => rfl
  have F_full_rooms : FnAt K mg "full_rooms" s_full_rooms ["book", "labels"] := ⟨f14, _, fun_mk l14 c14 k14, PySem.W.mg_of X G a14, (fun_mk (st := s_full_rooms) l14 c14 k14).binds (ps := ["book", "labels"]) fun _ _ _ _ _ _ us hl => match us, hl with | [_, _], _ => rfl⟩
  have F__law_refused : FnAt K mg "_law_refused" s__law_refused ["_law_book", "_law_labels_here"] := ⟨f15, _, fun_mk l15 c15 k15, PySem.W.mg_of X G a15, (fun_mk (st := s__law_refused) l15 c15 k15).binds (ps := ["_law_book", "_law_labels_here"]) fun _ _ _ _ _ _ us hl => match us, hl with | [_, _], _ => rfl⟩
  have F__law_right : FnAt K mg "_law_right" s__law_right ["_law_told", "_law_rooms_here", "_law_labels_here", "_law_size"] := ⟨f16, _, fun_mk l16 c16 k16, PySem.W.mg_of X G a16, (fun_mk (st := s__law_right) l16 c16 k16).binds (ps := ["_law_told", "_law_rooms_here", "_law_labels_here", "_law_size"]) fun _ _ _ _ _ _ us hl => match us, hl with | [_, _, _, _], _ => rfl⟩
  have F_Book_contains := fun_mk (st := s_Book_contains) l17 c17 k17
  have B_Book_contains := (fun_mk (st := s_Book_contains) l17 c17 k17).binds (ps := ["self", "x"]) fun _ _ _ _ _ _ us hl => match us, hl with | [_, _], _ => rfl
  have F__law_even : FnAt K mg "_law_even" s__law_even ["_law_n", "_law_size", "_law_rooms_here"] := ⟨f18, _, fun_mk l18 c18 k18, PySem.W.mg_of X G a18, (fun_mk (st := s__law_even) l18 c18 k18).binds (ps := ["_law_n", "_law_size", "_law_rooms_here"]) fun _ _ _ _ _ _ us hl => match us, hl with | [_, _, _], _ => rfl⟩
  have F_room_fault : FnAt K mg "room_fault" s_room_fault ["places", "size", "room"] := ⟨f19, _, fun_mk l19 c19 k19, PySem.W.mg_of X G a19, (fun_mk (st := s_room_fault) l19 c19 k19).binds (ps := ["places", "size", "room"]) fun _ _ _ _ _ _ us hl => match us, hl with | [_, _, _], _ => rfl⟩
  have F_book_faults : FnAt K mg "book_faults" s_book_faults ["places", "size", "rooms"] := ⟨f20, _, fun_mk l20 c20 k20, PySem.W.mg_of X G a20, (fun_mk (st := s_book_faults) l20 c20 k20).binds (ps := ["places", "size", "rooms"]) fun _ _ _ _ _ _ us hl => match us, hl with | [_, _, _], _ => rfl⟩
  have F_Book_init := fun_mk (st := s_Book_init) l21 c21 k21
  have B_Book_init := (fun_mk (st := s_Book_init) l21 c21 k21).binds (ps := ["self", "places", "size", "rooms"]) fun _ _ _ _ _ _ us hl => match us, hl with | [_, _, _, _], _ => rfl
  refine ⟨PySem.W.fnOf "law" "law" (defArgs s_law) (defBody s_law) (defScope s_law) .none kV22 dc22 pm22 an22 cd22 ct22, fun s v => .of_eq rfl, fun base _ _ => ?_⟩
  have x_BadLabels : XcAt l.prog w K mg base "BadLabels" C_BadLabels ["fault", "at"] := XcAt.mk' (fun_mk (st := s_xi_BadLabels) l_BadLabels c_BadLabels k_BadLabels) h_BadLabels xc_BadLabels a_BadLabels t_BadLabels ((fun_mk (st := s_xi_BadLabels) l_BadLabels c_BadLabels k_BadLabels).binds (ps := ["self", "fault", "at"]) fun _ _ _ _ _ _ us hl => match us, hl with | [_, _, _], _ => rfl) sc_xi_BadLabels rfl (by decide) (by decide) fun cdv A outer s H E => pss_cons (ps_ost (pv 0) (pv 1)) (pss_one (ps_ost (pv 0) (pv 2)))
  have x_BadBook : XcAt l.prog w K mg base "BadBook" C_BadBook ["fault", "at"] := XcAt.mk' (fun_mk (st := s_xi_BadBook) l_BadBook c_BadBook k_BadBook) h_BadBook xc_BadBook a_BadBook t_BadBook ((fun_mk (st := s_xi_BadBook) l_BadBook c_BadBook k_BadBook).binds (ps := ["self", "fault", "at"]) fun _ _ _ _ _ _ us hl => match us, hl with | [_, _, _], _ => rfl) sc_xi_BadBook rfl (by decide) (by decide) fun cdv A outer s H E => pss_cons (ps_ost (pv 0) (pv 1)) (pss_one (ps_ost (pv 0) (pv 2)))
  have t_Book___len__ : MtAt l.prog w K mg base "Book" C_Book "__len__" 1 1 m_Book_len := t_Book___len__ F_Book_len B_Book_len h_Book b_len f_rooms cls_Book ⟨a0, i0, k0⟩
  have O_len : OpsAt l.prog w K mg base "__len__" 1 1 opT_len := (OpsAt.cons t_Book___len__ sf_Book (by decide) OpsAt.nil)
  have k__law_cell : KnX l.prog w K mg base "_law_cell" 5 2 m__law_cell := k__law_cell F__law_cell b_len b_abs b_int O_len
  have k__law_rooms : KnX l.prog w K mg base "_law_rooms" 13 2 m__law_rooms := k__law_rooms F__law_rooms b_range b_len O_len
  have k__law_even_rooms : KnX l.prog w K mg base "_law_even_rooms" 14 3 m__law_even_rooms := k__law_even_rooms F__law_even_rooms k__law_rooms b_int b_range b_tuple b_sorted
  have k__law_some_rooms : KnX l.prog w K mg base "_law_some_rooms" 14 3 m__law_some_rooms := k__law_some_rooms F__law_some_rooms k__law_rooms b_int b_range b_tuple
  have k__law_order : KnX l.prog w K mg base "_law_order" 1 2 m__law_order := k__law_order F__law_order b_list b_range b_int
  have k__law_labels : KnX l.prog w K mg base "_law_labels" 6 3 m__law_labels := k__law_labels F__law_labels k__law_cell k__law_order b_int b_range
  have k__law_spoilt : KnX l.prog w K mg base "_law_spoilt" 6 3 m__law_spoilt := k__law_spoilt F__law_spoilt k__law_cell b_int b_list b_len b_range O_len
  have k__law_due : KnX l.prog w K mg base "_law_due" 5 3 m__law_due := k__law_due F__law_due b_len b_range O_len
  have k_check_number_of_labels : KnX l.prog w K mg base "check_number_of_labels" 5 2 m_check_number_of_labels := k_check_number_of_labels F_check_number_of_labels b_len x_BadLabels O_len
  have k_check_place_labels : KnX l.prog w K mg base "check_place_labels" 6 3 m_check_place_labels := k_check_place_labels F_check_place_labels k_check_number_of_labels b_enumerate x_BadLabels
  have I_Book : ItAt l.prog w K mg base "Book" "rooms" 1 := ItAt.mk' F_Book_iter h_Book cls_Book no_Book_rooms ⟨a11, i11, k11⟩ B_Book_iter sc_Book_iter rfl b_iter (fun _ _ _ _ _ _ => by rfl) (by first | exact .inl rfl | exact .inr (.inl rfl)) (fun _ _ _ _ _ _ => by rfl)
  have O_iter : ItsAt l.prog w K mg base 1 opT_iter := (ItsAt.cons I_Book (by decide) ItsAt.nil)
  have k_labels_of : KnX l.prog w K mg base "labels_of" 5 2 m_labels_of := k_labels_of F_labels_of O_iter
  have t_Book___eq__ : MtAt l.prog w K mg base "Book" C_Book "__eq__" 1 2 m_Book_eq := t_Book___eq__ F_Book_eq B_Book_eq h_Book b_isinstance S_o f_places f_size f_rooms cls_Book ⟨a13, i13, k13⟩
  have O_eq : OpsAt l.prog w K mg base "__eq__" 1 2 opT_eq := (OpsAt.cons t_Book___eq__ sf_Book (by decide) OpsAt.nil)
  have k_full_rooms : KnX l.prog w K mg base "full_rooms" 7 2 m_full_rooms := k_full_rooms F_full_rooms k_check_place_labels k_labels_of b_range b_list b_sorted f_size f_places f_rooms O_eq
  have kf_full_rooms : KnF l.prog w K mg base "full_rooms" 7 2 mF_full_rooms := kf_full_rooms F_full_rooms k_check_place_labels k_labels_of b_range b_list b_sorted f_size f_places f_rooms O_eq
  have k__law_refused : KnX l.prog w K mg base "_law_refused" 8 2 m__law_refused := k__law_refused F__law_refused k_full_rooms b_isinstance b_ValueError S_x h_BadLabels h_NeverAloneError h_BadBook xf_at xf_fault
  have k__law_right : KnX l.prog w K mg base "_law_right" 5 4 m__law_right := k__law_right F__law_right b_sorted b_range b_list b_isinstance b_len b_tuple b_int b_bool O_iter O_eq S_o O_len
  have t_Book___contains__ : MtAt l.prog w K mg base "Book" C_Book "__contains__" 1 2 m_Book_contains := t_Book___contains__ F_Book_contains B_Book_contains h_Book f__known cls_Book ⟨a17, i17, k17⟩
  have O_in : OpsAt l.prog w K mg base "__contains__" 1 2 opT_in := (OpsAt.cons t_Book___contains__ sf_Book (by decide) OpsAt.nil)
  have k__law_even : KnX l.prog w K mg base "_law_even" 14 3 m__law_even := k__law_even F__law_even k__law_rooms b_len b_int b_range b_tuple O_iter O_in
  have k_room_fault : KnX l.prog w K mg base "room_fault" 5 3 m_room_fault := k_room_fault F_room_fault b_len b_any b_set O_len O_iter
  have k_book_faults : KnX l.prog w K mg base "book_faults" 6 3 m_book_faults := k_book_faults F_book_faults k_room_fault b_sorted b_tuple b_enumerate g_MOST_PLACES O_in
  have k_Book_init : CkAt l.prog w K mg base "Book" C_Book 7 3 m_Book_init := k_Book_init F_Book_init B_Book_init h_Book k_book_faults b_len b_sorted b_tuple x_BadBook O_len f_places f_size f_rooms O_iter f__known ⟨mk_Book, a21, i21, kc_Book⟩
  exact law_of (ok_law (fun_mk (st := s_law) l22 c22 k22) k__law_cell k__law_even_rooms k__law_some_rooms k__law_labels k__law_spoilt k__law_due k__law_refused k__law_right k__law_even k_full_rooms b_int b_list b_tuple b_len b_range O_iter O_len k_Book_init kf_full_rooms O_eq) hlaw
end Lk32
namespace Lk32
open PySem PySem.Spec L2 DL
set_option maxHeartbeats 4000000
theorem p0 : powD (.int 10) (.int 18) = .ok (.int 1000000000000000000) := by
  unfold powD
  exact gd_ok (by decide)
theorem ixA_scr (ns : List Int) (d : D) : ixA (.scr ns) d = ixD (.scr ns) d := rfl
theorem cell_ok (ns : List Int) (k : Nat) (hk : k ≤ 1000) : ∃ c : Int, 0 ≤ c ∧ m__law_cell [.scr ns, .int k] = .ok (.int c) := by
  have m0 : mulD (.int 17) (.int k) = .ok (.int (17 * k)) := mulD_int (.inl (by omega))
  have m6 : mulD (.int 101) (.int k) = .ok (.int (101 * k)) := mulD_int (.inl (by omega))
  have m1 : ∀ c, mulD (.int c) (.int 48271) = .ok (.int (c * 48271)) := fun c => mulD_int (.inr (by omega))
  have m2 : mulD (.int 11) (.int k) = .ok (.int (11 * k)) := mulD_int (.inl (by omega))
  have m3 : ∀ y, mulD (.int (y % 2147483647)) (.int (y % 2147483647)) = .ok (.int ((y % 2147483647) * (y % 2147483647))) := fun y => mulD_int (.inl (by omega))
  have m4 : ∀ y, mulD (.int 69621) (.int y) = .ok (.int (69621 * y)) := fun y => mulD_int (.inl (by omega))
  have m5 : ∀ y, mulD (.int y) (.int 1000000000039) = .ok (.int (y * 1000000000039)) := fun y => mulD_int (.inr (by omega))
  have h : ∃ c : Int, 0 ≤ c ∧ (b__law_cell (startE 3 [.scr ns, .int k])) = .ok (.rt (.int c)) := by
    by_cases hlt : k < ns.length
    · have hx := ixD_scr ns k (List.getElem?_eq_getElem hlt)
      obtain ⟨a, ha⟩ : ∃ a, absD [.int ns[k]] = .ok (.int a) := ⟨_, rfl⟩
      by_cases hbig : (1000000000000000000 : Int) ≤ a
      · refine ⟨a - 1000000000000000000, by omega, ?_⟩
        simp -implicitDefEqProofs [b__law_cell, startE, m0, m1, m2, m3, m4, m5, m6, modD_int, fdivD_int, ha, hx, hlt, p0, hbig, ixA_scr]
      · simp -implicitDefEqProofs [b__law_cell, startE, m0, m1, m2, m3, m4, m5, m6, modD_int, fdivD_int, ha, hx, hlt, p0, hbig, ixA_scr]
        omega
    · by_cases hp : 0 < ns.length
      · have hm : modD (.int k) (.int ns.length) = .ok (.int ((k % ns.length : Nat) : Int)) := modD_int (by omega)
        have hx := ixD_scr ns (k % ns.length) (List.getElem?_eq_getElem (Nat.mod_lt _ hp))
        rw [Int.natCast_emod] at hx
        obtain ⟨a, ha⟩ : ∃ a, absD [.int (ns[k % ns.length]'(Nat.mod_lt _ hp))] = .ok (.int a) := ⟨_, rfl⟩
        simp -implicitDefEqProofs [b__law_cell, startE, m0, m1, m2, m3, m4, m5, m6, modD_int, fdivD_int, ha, hx, hlt, p0, hm, hp, ixA_scr]
        omega
      · simp -implicitDefEqProofs [b__law_cell, startE, m0, m1, m2, m3, m4, m5, m6, modD_int, fdivD_int, hlt, p0, hp, ixA_scr]
        omega
  obtain ⟨c, hc, h⟩ := h
  exact ⟨c, hc, runX_rt h⟩
/-! ### rows of so many items -/
def rowsF (xs : List Int) (s m : Nat) : List (List Int) := (List.range m).flatMap fun i => (combI s (xs.drop (i + 1))).map (xs.getD i 0 :: ·)
theorem rowsF_succ (xs : List Int) (s m : Nat) : rowsF xs s (m + 1) = rowsF xs s m ++ (combI s (xs.drop (m + 1))).map (xs.getD m 0 :: ·) := by
  unfold rowsF
  rw [List.range_succ, List.flatMap_append]
  simp
theorem rowsF_pre (xs : List Int) (s m k : Nat) : ∃ T, rowsF xs s (m + k) = rowsF xs s m ++ T := by
  induction k with
  | zero => exact ⟨[], by simp⟩
  | succ k ih =>
    obtain ⟨T, h⟩ := ih
    exact ⟨T ++ (combI s (xs.drop (m + k + 1))).map (xs.getD (m + k) 0 :: ·), by rw [← Nat.add_assoc, rowsF_succ, h, List.append_assoc]⟩
theorem rooms_ok : ∀ (j k : Nat) (xs : List Int), k < j → k ≤ 1000 → xs.length ≤ 1000 → (∀ i ≤ k, ∀ m, (combI i (xs.drop m)).length ≤ 100000) → mR__law_rooms j [rowD xs, .int (k : Int)] = .ok (.lst ((combI k xs).map rowD))
  | 0, k, xs, h, _, _, _ => absurd h (by omega)
  | j + 1, k, xs, hk, hk2, hl, hc => by
    show runX 5 (b__law_rooms (mR__law_rooms j)) [rowD xs, .int (k : Int)] = _
    apply runX_rt
    rw [show startE 5 [rowD xs, .int (k : Int)] = [some (rowD xs), some (.int (k : Int)), none, none, none] from rfl]
    unfold b__law_rooms
    cases k with
    | zero =>
      refine th_rt ?_
      rw [combI]
      rfl
    | succ s =>
      have hlen : cbf (orC (lenO opT_len) lenD) (.ok [rowD xs]) = .ok (.int xs.length) := by
        show calm (lenD [.tup (xs.map D.int)]) = _
        simp -implicitDefEqProofs
      refine th_skip ?_ ?_
      · simp -implicitDefEqProofs only [get_succ, get_zero, o2_ok, eqD_int, calm_ok, tst_ok]
        simp
        omega
      refine th_own (ds := []) rfl ?_
      simp -implicitDefEqProofs only [List.set_cons_succ, List.set_cons_zero]
      have hfl : combI (s + 1) xs = rowsF xs s (xs.length - s) := combI_flat s xs
      have hrg : rg1 [.int ((xs.length : Int) - ((s + 1 : Nat) : Int) + 1)] = .ok ((List.range (xs.length - s)).map fun (i : Nat) => D.int (i : Int)) := by
        by_cases h : s ≤ xs.length
        · rw [show (xs.length : Int) - ((s + 1 : Nat) : Int) + 1 = ((xs.length - s : Nat) : Int) from by omega]
          exact rg1_nat (lim_le (by omega))
        · rw [show xs.length - s = 0 from by omega]
          have hz : ((xs.length : Int) - ((s + 1 : Nat) : Int) + 1).toNat = 0 := by omega
          show (if -(2 ^ 62) ≤ (xs.length : Int) - ((s + 1 : Nat) : Int) + 1 ∧ (xs.length : Int) - ((s + 1 : Nat) : Int) + 1 < 2 ^ 62 then DL.R.ok (rangeD 0 1 ((xs.length : Int) - ((s + 1 : Nat) : Int) + 1).toNat) else .stuck) = _
          rw [hz, if_pos ⟨by omega, by omega⟩]
          rfl
      refine th_for (fun (i : Nat) => D.int (i : Int)) (List.range (xs.length - s)) (fun i ρ => ∃ a b, ρ = [some (rowD xs), some (.int ((s + 1 : Nat) : Int)), some (.lst ((rowsF xs s i).map rowD)), a, b]) (ds := [.int ((xs.length : Int) - ((s + 1 : Nat) : Int) + 1)]) ?_ hrg ⟨_, _, rfl⟩ ?_ ?_
      · simp -implicitDefEqProofs only [get_succ, get_zero, acons_ok, hlen, o2_ok, subD_int, calm_ok, addD_int]
      · rintro i x ρ hx ⟨a, b, rfl⟩
        obtain ⟨hi, hx⟩ := List.getElem?_eq_some_iff.mp hx
        simp only [List.getElem_range] at hx
        subst hx
        have hi : i < xs.length - s := by simpa using hi
        have ih := rooms_ok j s (xs.drop (i + 1)) (by omega) (by omega) (by simp; omega) (fun i2 h2 m => by
          rw [List.drop_drop]
          exact hc i2 (by omega) _)
        have hsl : o3 sliceD (.ok (rowD xs)) (toI (o2 addD (.ok (.int (i : Int))) (.ok (.int 1)))) (.ok none) = .ok (rowD (xs.drop (i + 1))) := by
          show calm (sliceD (.tup (xs.map D.int)) (some ((i : Int) + 1)) none) = _
          rw [sliceD_tup, show (i : Int) + 1 = ((i + 1 : Nat) : Int) from by omega, cutD_from]
          rfl
        have hsub : o2 subD (.ok (.int ((s + 1 : Nat) : Int))) (.ok (.int 1)) = .ok (.int (s : Int)) := by
          show DL.R.ok (D.int (((s + 1 : Nat) : Int) - 1)) = _
          rw [show ((s + 1 : Nat) : Int) - 1 = (s : Int) from by omega]
        obtain ⟨T, hT⟩ := rowsF_pre xs s (i + 1) (xs.length - s - (i + 1))
        have hbig := hc (s + 1) (Nat.le_refl _) 0
        rw [List.drop_zero, hfl, show xs.length - s = i + 1 + (xs.length - s - (i + 1)) from by omega, hT, rowsF_succ] at hbig
        have hx := at_mapT D.int 0 (P := xs) (k := i) (by omega)
        have loop := fors_inv (ag := agV 4) (mb := fun r => (appS 2 r (o2 addD (dsp tupD (acons (o2 ixA (get (wipeE r [2]) 0) (get (wipeE r [2]) 3)) (.ok []))) (get (wipeE r [2]) 4)))) (ρ := [some (rowD xs), some (.int ((s + 1 : Nat) : Int)), some (.lst ((rowsF xs s i).map rowD)), some (.int (i : Int)), b]) (r := .ok ((combI s (xs.drop (i + 1))).map rowD)) rowD (combI s (xs.drop (i + 1)))
          (fun n ρ => ∃ a, ρ = [some (rowD xs), some (.int ((s + 1 : Nat) : Int)), some (.lst ((rowsF xs s i ++ ((combI s (xs.drop (i + 1))).take n).map (xs.getD i 0 :: ·)).map rowD)), some (.int (i : Int)), a]) rfl ⟨b, by simp⟩ ?_
        · obtain ⟨ρ', h1, a2, h2⟩ := loop
          refine ⟨[(3, .int (i : Int))], ρ', rfl, .inl ?_, ⟨some (.int (i : Int)), a2, ?_⟩⟩
          · simp -implicitDefEqProofs only [setE_cons, setE_nil, List.set_cons_succ, List.set_cons_zero, wipeE_cons, wipeE_nil, get_succ, get_zero, hsl, hsub, acons_ok, call2, ih]
            exact h1
          · rw [h2, List.take_length, ← rowsF_succ]
        · rintro n q ρ hq ⟨a, rfl⟩
          obtain ⟨hn, hq⟩ := List.getElem?_eq_some_iff.mp hq
          have hql : q.length ≤ 1000 := by
            have hm : q ∈ combI s (xs.drop (i + 1)) := hq ▸ List.getElem_mem hn
            have := ((mem_combI _ _ _).mp hm).1.length_le
            simp at this
            omega
          refine ⟨[(4, rowD q)], [some (rowD xs), some (.int ((s + 1 : Nat) : Int)), some (.lst ((rowsF xs s i ++ ((combI s (xs.drop (i + 1))).take (n + 1)).map (xs.getD i 0 :: ·)).map rowD)), some (.int (i : Int)), some (rowD q)], rfl, .inl ?_, ⟨_, rfl⟩⟩
          simp -implicitDefEqProofs only [setE_cons, setE_nil, List.set_cons_succ, List.set_cons_zero, wipeE_cons, wipeE_nil, get_succ, get_zero]
          have e1 : dsp tupD (acons (o2 ixA (.ok (rowD xs)) (.ok (.int (i : Int)))) (.ok [])) = .ok (.tup [.int (xs.getD i 0)]) := by
            have hx : ixA (rowD xs) (.int (i : Int)) = .ok (.int (xs.getD i 0)) := hx
            rw [o2_ok, hx]
            rfl
          have e2 : o2 addD (.ok (.tup [.int (xs.getD i 0)])) (.ok (rowD q)) = .ok (rowD (xs.getD i 0 :: q)) := by
            rw [o2_ok]
            unfold rowD
            rw [addD_tup (by simp; exact lim_le (by omega))]
            rfl
          rw [e1, e2]
          rw [appS_nx (ds := (rowsF xs s i ++ ((combI s (xs.drop (i + 1))).take n).map (xs.getD i 0 :: ·)).map rowD) rfl rfl]
          · simp only [List.set_cons_succ, List.set_cons_zero]
            rw [List.take_succ_eq_append_getElem hn, hq]
            simp
          · simp only [List.length_map, List.length_append, List.length_take] at hbig ⊢
            exact lim_lt' (by omega)
      · rintro ρ ⟨a, b, rfl⟩
        rw [List.length_range, hfl]
        rfl
/-! ### at most seven places -/
theorem combI_drop_len : ∀ n ≤ 7, ∀ i ≤ 7, ∀ m, (combI i ((iotaI n).drop m)).length ≤ 100000 := by
  intro n hn i hi m
  by_cases h : m ≤ 7
  · have key : ∀ n ≤ 7, ∀ i ≤ 7, ∀ m ≤ 7, (combI i ((iotaI n).drop m)).length ≤ 100000 := by decide +kernel
    exact key n hn i hi m h
  · rw [List.drop_eq_nil_of_le (by rw [iotaI_len]; omega)]
    cases i <;> simp [combI]
theorem rooms7 (n k : Nat) (hn : n ≤ 7) (hk : k ≤ 7) : m__law_rooms [rowD (iotaI n), .int (k : Int)] = .ok (.lst ((combI k (iotaI n)).map rowD)) :=
  rooms_ok 9 k (iotaI n) (by omega) (by omega) (by rw [iotaI_len]; omega) fun i hi m => combI_drop_len n hn i (by omega) m
theorem comb7_len (n k : Nat) (hn : n ≤ 7) (hk : k ≤ 7) : (combI k (iotaI n)).length ≤ 35 := by
  have key : ∀ n ≤ 7, ∀ i ≤ 7, (combI i (iotaI n)).length ≤ 35 := by decide +kernel
  exact key n hn k hk
theorem comb_row {n k : Nat} {r : List Int} (h : r ∈ combI k (iotaI n)) : r.length = k ∧ Asc r ∧ ∀ p ∈ r, 0 ≤ p ∧ p < n := by
  obtain ⟨h1, h2⟩ := (mem_combI _ _ _).mp h
  exact ⟨h2, (iotaI_asc n).sublist h1, fun p hp => (mem_iotaI n p).mp (h1.subset hp)⟩
end Lk32
namespace Lk32
open PySem PySem.Spec L2 DL
set_option maxHeartbeats 4000000
/-- the rows of a book -/
def GoodR (n s : Nat) (Q : List (List Int)) : Prop := AscR Q ∧ ∀ r ∈ Q, RoomR n s r
theorem nodup_rooms {n s : Nat} {Q : List (List Int)} (hn : n ≤ 7) (hs : s ≤ 7) (h : Q.Nodup) (hr : ∀ r ∈ Q, RoomR n s r) : Q.length ≤ 35 :=
  Nat.le_trans (nodup_len Q (combI s (iotaI n)) h fun q hq => (mem_comb_iota n s q).mpr (hr q hq)) (comb7_len n s hn hs)
theorem GoodR.len {n s : Nat} {Q : List (List Int)} (hn : n ≤ 7) (hs : s ≤ 7) (h : GoodR n s Q) : Q.length ≤ 35 := nodup_rooms hn hs h.1.nodup h.2
theorem some_ok (n s : Nat) (c : Int) (hn : n ≤ 7) (hs : s ≤ 7) : ∃ Q, GoodR n s Q ∧ m__law_some_rooms [.int (n : Int), .int (s : Int), .int c] = .ok (.lst (Q.map rowD)) := by
  have hr := rooms7 n s hn hs
  have hlen := comb7_len n s hn hs
  have hgood : ∀ r ∈ combI s (iotaI n), RoomR n s r := fun r h => (mem_comb_iota n s r).mp h
  have hasc := combI_ascR s (iotaI n) (iotaI_asc n)
  generalize combI s (iotaI n) = L at hr hlen hgood hasc
  have h : ∃ Q : List (List Int), Q.Sublist L ∧ b__law_some_rooms (startE 5 [.int (n : Int), .int (s : Int), .int c]) = .ok (.rt (.lst (Q.map rowD))) := by
    rw [show startE 5 [D.int (n : Int), .int (s : Int), .int c] = [some (.int (n : Int)), some (.int (s : Int)), some (.int c), none, none] from rfl]
    have loop := fors_inv (ag := agV 4) (mb := fun r => (then_ (ifv (tst (o2 eqD (o2 modD (cbf intD (acons (get r 2) (.ok []))) (.ok (.int 2))) (.ok (.int 1)))) (appS 3 r (get (wipeE r [3]) 4)) (.ok (.nx r))) (fun r => (asg 2 r (o2 fdivD (get (wipeE r [3]) 2) (.ok (.int 2)))))))
      (ρ := [some (.int (n : Int)), some (.int (s : Int)), some (.int c), some (.lst []), none]) (r := .ok (L.map rowD)) rowD L
      (fun i ρ => ∃ (Q : List (List Int)) (c : Int) (a : Option D), Q.Sublist (L.take i) ∧ ρ = [some (.int (n : Int)), some (.int (s : Int)), some (.int c), some (.lst (Q.map rowD)), a]) rfl ⟨[], c, none, by simp, rfl⟩ ?_
    · obtain ⟨ρ', h1, Q, c', a, hQ, rfl⟩ := loop
      rw [List.take_length] at hQ
      refine ⟨Q, hQ, ?_⟩
      unfold b__law_some_rooms
      refine th_own (ds := []) rfl ?_
      simp -implicitDefEqProofs only [List.set_cons_succ, List.set_cons_zero, wipeE_cons, wipeE_nil, get_succ, get_zero, acons_ok, dsp_ok, rgT1_nat (n := n) (lim_le (by omega)), call2, hr]
      exact th_nx h1 rfl
    · rintro i q ρ hq ⟨Q, c, a, hQ, rfl⟩
      obtain ⟨hi, hq⟩ := List.getElem?_eq_some_iff.mp hq
      have f2 : fdivD (.int c) (.int 2) = .ok (.int (c / 2)) := fdivD_int (by omega)
      have m2 : modD (.int c) (.int 2) = .ok (.int (c % 2)) := modD_int (by omega)
      by_cases hc : c % 2 = 1
      · refine ⟨[(4, rowD q)], [some (.int (n : Int)), some (.int (s : Int)), some (.int (c / 2)), some (.lst ((Q ++ [q]).map rowD)), some (rowD q)], rfl, .inl ?_, ⟨Q ++ [q], _, _, ?_, rfl⟩⟩
        · simp -implicitDefEqProofs only [setE_cons, setE_nil, List.set_cons_succ, List.set_cons_zero, get_succ, get_zero, acons_ok, cbf_ok, intD_int, calm_ok, o2_ok, m2, eqD_int, tst_ok, decide_eq_true hc, ifv_ok, if_true, wipeE_cons, wipeE_nil]
          refine th_nx (appS_nx (ds := Q.map rowD) rfl rfl ?_) ?_
          · rw [List.length_map]
            have := hQ.length_le
            rw [List.length_take] at this
            exact lim_lt' (by omega)
          · simp -implicitDefEqProofs only [List.set_cons_succ, List.set_cons_zero, get_succ, get_zero, o2_ok, f2, calm_ok, asg_ok, List.map_append, List.map_cons, List.map_nil, wipeE_cons, wipeE_nil]
        · rw [List.take_succ_eq_append_getElem hi, hq]
          exact hQ.append (List.Sublist.refl _)
      · refine ⟨[(4, rowD q)], [some (.int (n : Int)), some (.int (s : Int)), some (.int (c / 2)), some (.lst (Q.map rowD)), some (rowD q)], rfl, .inl ?_, ⟨Q, _, _, ?_, rfl⟩⟩
        · simp -implicitDefEqProofs only [setE_cons, setE_nil, List.set_cons_succ, List.set_cons_zero, get_succ, get_zero, acons_ok, cbf_ok, intD_int, calm_ok, o2_ok, m2, eqD_int, tst_ok, decide_eq_false hc, ifv_ok, wipeE_cons, wipeE_nil]
          simp -implicitDefEqProofs only [if_neg (show ¬ (false = true) from by decide), then_nx, get_succ, get_zero, wipeE_cons, wipeE_nil, List.set_cons_succ, List.set_cons_zero, o2_ok, f2, calm_ok, asg_ok]
        · rw [List.take_succ_eq_append_getElem hi]
          exact hQ.trans (List.sublist_append_left _ _)
  obtain ⟨Q, hQ, h⟩ := h
  exact ⟨Q, ⟨hasc.sublist hQ, fun r hm => hgood r (hQ.subset hm)⟩, runX_rt h⟩
theorem face_room {n s : Nat} {w : List Int} (h : RoomR n (s + 1) w) {k : Nat} (hk : k ≤ s) : RoomR n s (w.take k ++ w.drop (k + 1)) := by
  obtain ⟨h1, h2, h3⟩ := h
  have hs : (w.take k ++ w.drop (k + 1)).Sublist w := by
    have e := List.take_append_drop k w
    have : (w.take k ++ w.drop (k + 1)).Sublist (w.take k ++ w.drop k) := (List.Sublist.refl _).append (by
      rw [← List.drop_drop]
      exact List.drop_sublist _ _)
    rwa [e] at this
  refine ⟨by simp; omega, h2.sublist hs, fun p hp => h3 p (hs.subset hp)⟩
theorem whole_room {n s : Nat} {r : List Int} (h : RoomR n s r) : RoomR (n + 1) (s + 1) (r ++ [(n : Int)]) := by
  obtain ⟨h1, h2, h3⟩ := h
  refine ⟨by simp; omega, ?_, fun p hp => ?_⟩
  · refine List.pairwise_append.mpr ⟨h2, List.pairwise_singleton _ _, fun a ha b hb => ?_⟩
    rw [List.mem_singleton] at hb
    subst hb
    exact (h3 a ha).2
  · rcases List.mem_append.mp hp with hp | hp
    · have := h3 p hp
      omega
    · rw [List.mem_singleton] at hp
      omega
theorem even_ok (m s : Nat) (c : Int) (hn : m + 1 ≤ 7) (hs : s ≤ 7) (hs1 : 1 ≤ s) : ∃ Q, GoodR (m + 1) s Q ∧ m__law_even_rooms [.int ((m + 1 : Nat) : Int), .int (s : Int), .int c] = .ok (.lst (Q.map rowD)) := by
  have hr := rooms7 m s (by omega) hs
  have hgood : ∀ r ∈ combI s (iotaI m), RoomR m s r := fun r h => (mem_comb_iota m s r).mp h
  generalize combI s (iotaI m) = L at hr hgood
  have hsub : o2 subD (.ok (.int ((m + 1 : Nat) : Int))) (.ok (.int 1)) = .ok (.int (m : Int)) := by
    show DL.R.ok (D.int (((m + 1 : Nat) : Int) - 1)) = _
    rw [show ((m + 1 : Nat) : Int) - 1 = (m : Int) from by omega]
  have hadd : o2 addD (.ok (.int (s : Int))) (.ok (.int 1)) = .ok (.int ((s + 1 : Nat) : Int)) := rfl
  have h : ∃ C : List (List Int × Int), (C.map fun p => p.1).Nodup ∧ (∀ f ∈ C.map (fun p => p.1), RoomR (m + 1) s f) ∧ b__law_even_rooms (startE 8 [.int ((m + 1 : Nat) : Int), .int (s : Int), .int c]) = .ok (.rt (.lst ((sortR ((C.filter fun p => decide (p.2 = 1)).map fun p => p.1)).map rowD))) := by
    rw [show startE 8 [D.int ((m + 1 : Nat) : Int), .int (s : Int), .int c] = [some (.int ((m + 1 : Nat) : Int)), some (.int (s : Int)), some (.int c), none, none, none, none, none] from rfl]
    have inner : ∀ (C : List (List Int × Int)) (c : Int) (q w : List Int) (a b : Option D), RoomR (m + 1) (s + 1) w → (C.map fun p => p.1).Nodup → (∀ f ∈ C.map (fun p => p.1), RoomR (m + 1) s f) → ∃ (C' : List (List Int × Int)) (a' b' : Option D), (C'.map fun p => p.1).Nodup ∧ (∀ f ∈ C'.map (fun p => p.1), RoomR (m + 1) s f) ∧
        forR rg1 (agV 6) (fun r => (then_ (asg 7 r (o2 addD (o3 sliceD (get (wipeE r [3]) 5) (.ok none) (toI (get (wipeE r [3]) 6))) (o3 sliceD (get (wipeE r [3]) 5) (toI (o2 addD (get (wipeE r [3]) 6) (.ok (.int 1)))) (.ok none)))) (fun r => (dputS [3] 3 r (o2 subD (.ok (.int 1)) (og2 dgetE (get r 3) (get r 7) (.ok (.int 0)))) (get r 7)))))
          [some (.int ((m + 1 : Nat) : Int)), some (.int (s : Int)), some (.int c), some (cntD C), some (rowD q), some (rowD w), a, b] (.ok [.int ((s + 1 : Nat) : Int)]) = .ok (.nx [some (.int ((m + 1 : Nat) : Int)), some (.int (s : Int)), some (.int c), some (cntD C'), some (rowD q), some (rowD w), a', b']) := by
      intro C c q w a b hw hC hf
      have loop := for_inv (rg := rg1) (ag := agV 6) (mb := fun r => (then_ (asg 7 r (o2 addD (o3 sliceD (get (wipeE r [3]) 5) (.ok none) (toI (get (wipeE r [3]) 6))) (o3 sliceD (get (wipeE r [3]) 5) (toI (o2 addD (get (wipeE r [3]) 6) (.ok (.int 1)))) (.ok none)))) (fun r => (dputS [3] 3 r (o2 subD (.ok (.int 1)) (og2 dgetE (get r 3) (get r 7) (.ok (.int 0)))) (get r 7)))))
        (ρ := [some (.int ((m + 1 : Nat) : Int)), some (.int (s : Int)), some (.int c), some (cntD C), some (rowD q), some (rowD w), a, b]) (r := .ok [.int ((s + 1 : Nat) : Int)]) (ds := [.int ((s + 1 : Nat) : Int)]) (fun (k : Nat) => D.int (k : Int)) (List.range (s + 1))
        (fun i ρ => ∃ (C' : List (List Int × Int)) (a' b' : Option D), (C'.map fun p => p.1).Nodup ∧ (∀ f ∈ C'.map (fun p => p.1), RoomR (m + 1) s f) ∧ ρ = [some (.int ((m + 1 : Nat) : Int)), some (.int (s : Int)), some (.int c), some (cntD C'), some (rowD q), some (rowD w), a', b']) rfl (rg1_nat (lim_le (by omega))) ⟨C, a, b, hC, hf, rfl⟩ ?_
      · obtain ⟨ρ', h1, C', a', b', h2, h3, rfl⟩ := loop
        exact ⟨C', a', b', h2, h3, h1⟩
      · rintro i x ρ hx ⟨C', a', b', hC, hf, rfl⟩
        obtain ⟨hi, hx⟩ := List.getElem?_eq_some_iff.mp hx
        simp only [List.getElem_range] at hx
        subst hx
        have hi : i < s + 1 := by simpa using hi
        have hface := face_room hw (k := i) (by omega)
        have hwl := hw.1
        have s1 : o3 sliceD (.ok (rowD w)) (.ok none) (toI (.ok (.int (i : Int)))) = .ok (rowD (w.take i)) := by
          show calm (sliceD (.tup (w.map D.int)) none (some (i : Int))) = _
          rw [sliceD_tup, cutD_to]
          rfl
        have s2 : o3 sliceD (.ok (rowD w)) (toI (o2 addD (.ok (.int (i : Int))) (.ok (.int 1)))) (.ok none) = .ok (rowD (w.drop (i + 1))) := by
          show calm (sliceD (.tup (w.map D.int)) (some ((i : Int) + 1)) none) = _
          rw [sliceD_tup, show (i : Int) + 1 = ((i + 1 : Nat) : Int) from by omega, cutD_from]
          rfl
        have s3 : o2 addD (.ok (rowD (w.take i))) (.ok (rowD (w.drop (i + 1)))) = .ok (rowD (w.take i ++ w.drop (i + 1))) := by
          rw [o2_ok]
          unfold rowD
          rw [addD_tup (by simp; exact lim_le (by omega)), List.map_append]
          rfl
        generalize hfg : w.take i ++ w.drop (i + 1) = f at hface s3
        have hk := setC_keys f (1 - (getC f C').getD 0) C' hC
        refine ⟨[(6, .int (i : Int))], [some (.int ((m + 1 : Nat) : Int)), some (.int (s : Int)), some (.int c), some (cntD (setC f (1 - (getC f C').getD 0) C')), some (rowD q), some (rowD w), some (.int (i : Int)), some (rowD f)], rfl, .inl ?_, ⟨_, _, _, hk.1, ?_, rfl⟩⟩
        · simp -implicitDefEqProofs only [setE_cons, setE_nil, List.set_cons_succ, List.set_cons_zero, wipeE_cons, wipeE_nil, get_succ, get_zero, s1, s2, s3, asg_ok, then_nx]
          have hg := get_cnt (f := f) (C := C')
          have hlen := nodup_rooms hn hs hC hf
          rw [List.length_map] at hlen
          rw [dput_set (f := f) (z := 1 - (getC f C').getD 0) (C := C') rfl rfl (by rw [hg]; rfl) rfl (lim_lt' (by omega)) hC]
          simp -implicitDefEqProofs only [List.set_cons_succ, List.set_cons_zero]
        · intro g hg
          rcases (hk.2 g).mp hg with e | e
          · rw [e]
            exact hface
          · exact hf g e
    have loop := fors_inv (ag := agV 4) (mb := fun r => (then_ (ifv (tst (o2 eqD (o2 modD (cbf intD (acons (get r 2) (.ok []))) (.ok (.int 2))) (.ok (.int 1)))) (then_ (asg 5 r (o2 addD (get (wipeE r [3]) 4) (dsp tupD (acons (o2 subD (get (wipeE r [3]) 0) (.ok (.int 1))) (.ok []))))) (fun r => (forR rg1 (agV 6) (fun r => (then_ (asg 7 r (o2 addD (o3 sliceD (get (wipeE r [3]) 5) (.ok none) (toI (get (wipeE r [3]) 6))) (o3 sliceD (get (wipeE r [3]) 5) (toI (o2 addD (get (wipeE r [3]) 6) (.ok (.int 1)))) (.ok none)))) (fun r => (dputS [3] 3 r (o2 subD (.ok (.int 1)) (og2 dgetE (get r 3) (get r 7) (.ok (.int 0)))) (get r 7))))) r (acons (o2 addD (get r 1) (.ok (.int 1))) (.ok []))))) (.ok (.nx r))) (fun r => (asg 2 r (o2 fdivD (get (wipeE r [3]) 2) (.ok (.int 2)))))))
      (ρ := [some (.int ((m + 1 : Nat) : Int)), some (.int (s : Int)), some (.int c), some (cntD []), none, none, none, none]) (r := .ok (L.map rowD)) rowD L
      (fun i ρ => ∃ (C : List (List Int × Int)) (c : Int) (a b d e : Option D), (C.map fun p => p.1).Nodup ∧ (∀ f ∈ C.map (fun p => p.1), RoomR (m + 1) s f) ∧ ρ = [some (.int ((m + 1 : Nat) : Int)), some (.int (s : Int)), some (.int c), some (cntD C), a, b, d, e]) rfl ⟨[], c, none, none, none, none, by simp, by simp, rfl⟩ ?_
    · obtain ⟨ρ', h1, C, c', a, b, d, e, hC, hf, rfl⟩ := loop
      refine ⟨C, hC, hf, ?_⟩
      have hlen := nodup_rooms hn hs hC hf
      rw [List.length_map] at hlen
      unfold b__law_even_rooms
      rw [then_nx]
      simp -implicitDefEqProofs only [List.set_cons_succ, List.set_cons_zero, wipeE_cons, wipeE_nil, get_succ, get_zero, hsub, acons_ok, dsp_ok, rgT1_nat (n := m) (lim_le (by omega)), call2, hr]
      refine th_nx h1 ?_
      refine rt_of ?_
      rw [lcK_map (d := cntD C) (fun p : List Int × Int => rowD p.1) (fun p => decide (p.2 = 1)) (fun p : List Int × Int => rowD p.1) C rfl (keysI_cnt C) (lim_le (by omega)) fun p hp => ⟨[(4, rowD p.1)], rfl, ?_, fun _ => rfl⟩]
      · rw [show ((C.filter fun p => decide (p.2 = 1)).map fun p : List Int × Int => rowD p.1) = (((C.filter fun p => decide (p.2 = 1)).map fun p => p.1).map rowD) from by rw [List.map_map]; rfl]
        simp -implicitDefEqProofs only [acons_ok, cbf_ok]
        rw [sortedA_rows]
        · rfl
        · intro r hm
          obtain ⟨p, hp, rfl⟩ := List.mem_map.mp hm
          have := (hf p.1 (List.mem_map.mpr ⟨p, (List.mem_filter.mp hp).1, rfl⟩)).1
          intro e2
          rw [e2] at this
          simp at this
          omega
      · simp -implicitDefEqProofs only [setE_cons, setE_nil, List.set_cons_succ, List.set_cons_zero, wipeE_cons, wipeE_nil, get_succ, get_zero, o2_ok, at_cnt hC hp, calm_ok, eqD_int, tst_ok]
    · rintro i q ρ hq ⟨C, c, a, b, d, e, hC, hf, rfl⟩
      obtain ⟨hi, hq⟩ := List.getElem?_eq_some_iff.mp hq
      have hq2 : RoomR m s q := hgood q (hq ▸ List.getElem_mem hi)
      have f2 : fdivD (.int c) (.int 2) = .ok (.int (c / 2)) := fdivD_int (by omega)
      have m2 : modD (.int c) (.int 2) = .ok (.int (c % 2)) := modD_int (by omega)
      by_cases hc : c % 2 = 1
      · obtain ⟨C', a', b', h2, h3, h4⟩ := inner C c q (q ++ [(m : Int)]) d e (whole_room hq2) hC hf
        have hw : o2 addD (.ok (rowD q)) (dsp tupD (acons (.ok (.int (m : Int))) (.ok []))) = .ok (rowD (q ++ [(m : Int)])) := by
          show calm (addD (.tup (q.map D.int)) (.tup [.int (m : Int)])) = _
          have := hq2.1
          rw [addD_tup (by simp; exact lim_le (by omega))]
          unfold rowD
          rw [List.map_append]
          rfl
        refine ⟨[(4, rowD q)], [some (.int ((m + 1 : Nat) : Int)), some (.int (s : Int)), some (.int (c / 2)), some (cntD C'), some (rowD q), some (rowD (q ++ [(m : Int)])), a', b'], rfl, .inl ?_, ⟨_, _, _, _, _, _, h2, h3, rfl⟩⟩
        simp -implicitDefEqProofs only [setE_cons, setE_nil, List.set_cons_succ, List.set_cons_zero]
        refine th_nx (ρ := [some (.int ((m + 1 : Nat) : Int)), some (.int (s : Int)), some (.int c), some (cntD C'), some (rowD q), some (rowD (q ++ [(m : Int)])), a', b']) ?_ ?_
        · have ht : tst (o2 eqD (o2 modD (cbf intD (acons (.ok (.int c)) (.ok []))) (.ok (.int 2))) (.ok (.int 1))) = .ok true := by
            simp -implicitDefEqProofs only [acons_ok, cbf_ok, intD_int, calm_ok, o2_ok, m2, eqD_int, tst_ok, decide_eq_true hc]
          simp -implicitDefEqProofs only [get_succ, get_zero, ht, ifv_ok, if_true]
          refine th_asg (d := rowD (q ++ [(m : Int)])) ?_ ?_
          · simp -implicitDefEqProofs only [wipeE_cons, wipeE_nil, List.set_cons_succ, List.set_cons_zero, get_succ, get_zero, hsub, hw]
          · simp -implicitDefEqProofs only [List.set_cons_succ, List.set_cons_zero, get_succ, get_zero, hadd, acons_ok]
            exact h4
        · simp -implicitDefEqProofs only [wipeE_cons, wipeE_nil, List.set_cons_succ, List.set_cons_zero, get_succ, get_zero, o2_ok, f2, calm_ok, asg_ok]
      · refine ⟨[(4, rowD q)], [some (.int ((m + 1 : Nat) : Int)), some (.int (s : Int)), some (.int (c / 2)), some (cntD C), some (rowD q), b, d, e], rfl, .inl ?_, ⟨_, _, _, _, _, _, hC, hf, rfl⟩⟩
        simp -implicitDefEqProofs only [setE_cons, setE_nil, List.set_cons_succ, List.set_cons_zero, get_succ, get_zero, acons_ok, cbf_ok, intD_int, calm_ok, o2_ok, m2, eqD_int, tst_ok, decide_eq_false hc, ifv_ok, wipeE_cons, wipeE_nil]
        simp -implicitDefEqProofs only [if_neg (show ¬ (false = true) from by decide), then_nx, get_succ, get_zero, wipeE_cons, wipeE_nil, List.set_cons_succ, List.set_cons_zero, o2_ok, f2, calm_ok, asg_ok]
  obtain ⟨C, hC, hf, h⟩ := h
  have hsl : ((C.filter fun p => decide (p.2 = 1)).map fun p => p.1).Sublist (C.map fun p => p.1) := (List.filter_sublist).map _
  refine ⟨_, ⟨sortR_ascR (hC.sublist hsl), fun r hm => hf r (hsl.subset ((sortR_perm _).mem_iff.mp hm))⟩, runX_rt h⟩
end Lk32
namespace Lk32
open PySem PySem.Spec L2 DL
set_option maxHeartbeats 4000000
theorem lenC_rowD (r : List Int) : cbf (orC (lenO opT_len) lenD) (.ok [rowD r]) = .ok (.int r.length) := by
  show calm (lenD [.tup (r.map D.int)]) = _
  simp -implicitDefEqProofs
theorem lenC_lst (ds : List D) : cbf (orC (lenO opT_len) lenD) (.ok [.lst ds]) = .ok (.int ds.length) := by
  show calm (lenD [.lst ds]) = _
  simp -implicitDefEqProofs
theorem lenC_tup (ds : List D) : cbf (orC (lenO opT_len) lenD) (.ok [.tup ds]) = .ok (.int ds.length) := by
  show calm (lenD [.tup ds]) = _
  simp -implicitDefEqProofs
theorem room_fault_ok {n s : Nat} {r : List Int} (h : RoomR n s r) (hs : s ≤ 1000) : m_room_fault [.int (n : Int), .int (s : Int), rowD r] = .ok (.str "") := by
  obtain ⟨h1, h2, h3⟩ := h
  apply runX_rt
  rw [show startE 4 [D.int (n : Int), .int (s : Int), rowD r] = [some (.int (n : Int)), some (.int (s : Int)), some (rowD r), none] from rfl]
  unfold b_room_fault
  refine th_skip ?_ ?_
  · simp -implicitDefEqProofs only [get_succ, get_zero, acons_ok, lenC_rowD, o2_ok, neD_int, calm_ok, tst_ok, h1]
    simp
  have hc : lcM [3] (fun r => (itsO opT_iter (get r 2))) (agV 3) (fun _ => .ok true) (fun r => (vnot (ch2 leD ltD (.ok (.int 0)) (get r 3) (get r 0)))) [some (.int (n : Int)), some (.int (s : Int)), some (rowD r), none] = .ok (.lst (r.map fun p => .bl (!(decide (0 ≤ p) && decide (p < (n : Int)))))) := by
    refine lcM_all D.int _ r rfl (by have : LIM = 1000000 := rfl; omega) fun p hp => ⟨_, rfl, rfl, ?_⟩
    simp -implicitDefEqProofs only [wipeE_cons, wipeE_nil, setE_cons, setE_nil, List.set_cons_succ, List.set_cons_zero, get_succ, get_zero, ch2, ok_bind, leD_int, calm_ok]
    by_cases h0 : 0 ≤ p <;> simp -implicitDefEqProofs [h0, asB, ltD_int]
  have ha : anyD [.lst (r.map fun p => .bl (!(decide (0 ≤ p) && decide (p < (n : Int)))))] = .ok (.bl (r.any fun p => !(decide (0 ≤ p) && decide (p < (n : Int))))) := by
    have h := anyD_ (r.map fun p => !(decide (0 ≤ p) && decide (p < (n : Int))))
    rw [List.map_map, List.any_map] at h
    exact h
  have hd : lenSetD (rowD r) = .ok (.int ((ded r).length : Nat)) := by
    show (match intsOf (r.map D.int) with
      | some ns => if ns.length ≤ 1000 then R.ok (D.int ((ded ns).length : Nat)) else .stuck
      | none => .stuck) = _
    rw [intsOf_map]
    exact if_pos (by omega)
  have hany : (r.any fun p => !(decide (0 ≤ p) && decide (p < (n : Int)))) = false := by
    rw [List.any_eq_false]
    intro p hp
    obtain ⟨a, b⟩ := h3 p hp
    simp [a, b]
  refine th_skip ?_ ?_
  · simp -implicitDefEqProofs only [hc, acons_ok, cbf_ok, ha, calm_ok, tst_ok, hany]
  refine th_skip ?_ ?_
  · simp -implicitDefEqProofs only [get_succ, get_zero, o1_ok, hd, acons_ok, lenC_rowD, calm_ok, o2_ok, neD_int, tst_ok, ded_self h2.nodup]
    simp
  rfl
theorem e_e : eqD (.str "") (.str "") = .ok (.bl true) := eqD_refl (by decide +kernel)
theorem good_take {n s : Nat} {Q : List (List Int)} (h : GoodR n s Q) {i : Nat} (hi : i < Q.length) : Q.getD i [] ∉ Q.take i := by
  have hn := h.1.nodup
  rw [List.getD_eq_getElem?_getD, List.getElem?_eq_getElem hi]
  intro hm
  rw [List.mem_take_iff_getElem] at hm
  obtain ⟨j, hj, he⟩ := hm
  unfold List.Nodup at hn
  rw [List.pairwise_iff_getElem] at hn
  exact hn j i (by omega) hi (by omega) he
theorem faults_ok {n s : Nat} {Q : List (List Int)} (h : GoodR n s Q) (hn1 : 1 ≤ n) (hn : n ≤ 7) (hs1 : 1 ≤ s) (hs : s ≤ n) : m_book_faults [.int (n : Int), .int (s : Int), .lst (Q.map rowD)] = .ok (.lst []) := by
  have hl := h.len hn (by omega)
  apply runX_rt
  rw [show startE 9 [D.int (n : Int), .int (s : Int), .lst (Q.map rowD)] = [some (.int (n : Int)), some (.int (s : Int)), some (.lst (Q.map rowD)), none, none, none, none, none, none] from rfl]
  unfold b_book_faults
  have c1 : (1 : Int) ≤ (n : Int) := by omega
  have c2 : (n : Int) ≤ 12 := by omega
  have c3 : (1 : Int) ≤ (s : Int) := by omega
  have c4 : (s : Int) ≤ (n : Int) := by omega
  refine th_skip ?_ ?_
  · simp -implicitDefEqProofs only [get_succ, get_zero, ch2, ok_bind, leD_int, calm_ok]
    simp -implicitDefEqProofs [c1, c2, asB, leD_int]
  refine th_skip ?_ ?_
  · simp -implicitDefEqProofs only [get_succ, get_zero, ch2, ok_bind, leD_int, calm_ok]
    simp -implicitDefEqProofs [c3, c4, asB, leD_int]
  refine th_own (ds := []) rfl ?_
  rw [then_nx]
  simp -implicitDefEqProofs only [List.set_cons_succ, List.set_cons_zero]
  refine th_fors (fun (k : Nat) => D.tup [.int (k : Int), rowD (Q.getD k [])]) (List.range Q.length) (fun i ρ => ∃ a b c d, ρ = [some (.int (n : Int)), some (.int (s : Int)), some (.lst (Q.map rowD)), some (.lst []), some (.dt ((Q.take i).map kyI) ((Q.take i).map fun _ => .bl true)), a, b, c, d]) ?_ ⟨none, none, none, none, by simp⟩ ?_ ?_
  · have h := enumD_map rowD Q [] 0
    simp only [Nat.zero_add] at h
    rw [← h]
    rfl
  · rintro i x ρ hx ⟨a, b, c, d, rfl⟩
    obtain ⟨hi, hx⟩ := List.getElem?_eq_some_iff.mp hx
    simp only [List.getElem_range] at hx
    subst hx
    have hi : i < Q.length := by simpa using hi
    have hm := h.2 _ (getD_mem2 [] hi)
    have hf := room_fault_ok hm (by omega)
    have hso := sortedA_intsT (Q.getD i [])
    rw [sortI_asc hm.2.1] at hso
    have hso : sortedA [rowD (Q.getD i [])] = .ok (rowL (Q.getD i [])) := hso
    have hs2 : tupleD [rowL (Q.getD i [])] = .ok (rowD (Q.getD i [])) := rfl
    have hnt := good_take h hi
    have hin := inG_dt (Q.getD i []) (Q.take i) ((Q.take i).map fun _ => .bl true) (by rw [List.length_map])
    have htk : Q.take (i + 1) = Q.take i ++ [Q.getD i []] := by
      rw [List.take_succ_eq_append_getElem hi, List.getD_eq_getElem?_getD, List.getElem?_eq_getElem hi]
      rfl
    generalize hT : Q.take i = T at hnt hin htk
    have hTl : T.length ≤ 35 := by
      rw [← hT, List.length_take]
      omega
    generalize Q.getD i [] = r at hm hf hso hs2 hnt hin htk
    refine ⟨[(5, .int (i : Int)), (6, rowD r)], [some (.int (n : Int)), some (.int (s : Int)), some (.lst (Q.map rowD)), some (.lst []), some (.dt ((T ++ [r]).map kyI) ((T ++ [r]).map fun _ => .bl true)), some (.int (i : Int)), some (rowD r), some (.str ""), some (rowD r)], rfl, .inl ?_, ⟨_, _, _, _, by rw [htk]⟩⟩
    simp -implicitDefEqProofs only [setE_cons, setE_nil, List.set_cons_succ, List.set_cons_zero]
    refine th_asg (d := .str "") ?_ ?_
    · simp -implicitDefEqProofs only [wipeE_cons, wipeE_nil, List.set_cons_succ, List.set_cons_zero, get_succ, get_zero, acons_ok, call3, hf]
    simp -implicitDefEqProofs only [List.set_cons_succ, List.set_cons_zero]
    refine th_asg (d := rowD r) ?_ ?_
    · simp -implicitDefEqProofs only [wipeE_cons, wipeE_nil, List.set_cons_succ, List.set_cons_zero, get_succ, get_zero, acons_ok, cbf_ok, hso, hs2, calm_ok]
    simp -implicitDefEqProofs only [List.set_cons_succ, List.set_cons_zero]
    refine th_skip ?_ ?_
    · have hin2 : o2 (orR (inO opT_in) inG) (.ok (rowD r)) (.ok (.dt (T.map kyI) (T.map fun _ => .bl true))) = .ok (.bl false) := by
        show calm (inG (rowD r) (.dt (T.map kyI) (T.map fun _ => .bl true))) = _
        rw [hin, decide_eq_false hnt]
        rfl
      simp -implicitDefEqProofs only [get_succ, get_zero, o2_ok eqD, e_e, calm_ok, tst_ok, hin2, tand_ok, if_true]
    · simp -implicitDefEqProofs only [get_succ, get_zero, o2_ok, e_e, calm_ok, tst_ok, ifv_ok, if_true]
      rw [dputS_dt (d := .bl true) (r := r) (S := T) (ds := T.map fun _ => .bl true) rfl rfl rfl rfl (lim_lt' (by omega)) hnt]
      simp only [List.set_cons_succ, List.set_cons_zero, List.map_append, List.map_cons, List.map_nil]
  · rintro ρ ⟨a, b, c, d, rfl⟩
    rfl
theorem sortR_good {n s : Nat} {Q : List (List Int)} (h : GoodR n s Q) : sortR Q = Q := sortR_asc Q h.1
theorem book_ok {n s : Nat} {Q : List (List Int)} (h : GoodR n s Q) (hn1 : 1 ≤ n) (hn : n ≤ 7) (hs1 : 1 ≤ s) (hs : s ≤ n) : m_Book_init [.int (n : Int), .int (s : Int), .lst (Q.map rowD)] = .ok (bookI (n : Int) (s : Int) Q) := by
  have hl := h.len hn (by omega)
  have hf := faults_ok h hn1 hn hs1 hs
  have hso : sortedA [.lst (Q.map rowD)] = .ok (.lst (Q.map rowD)) := by
    have := sortedA_rows Q fun r hm e => by
      have := (h.2 r hm).1
      rw [e] at this
      simp at this
      omega
    rwa [sortR_good h] at this
  have hb : b_Book_init (some (.obj "Book" [] []) :: startE 7 [.int (n : Int), .int (s : Int), .lst (Q.map rowD)]) = .ok (.nx [some (bookI (n : Int) (s : Int) Q), some (.int (n : Int)), some (.int (s : Int)), some (.lst (Q.map rowD)), some (.lst []), none, none, none]) := by
    rw [show startE 7 [D.int (n : Int), .int (s : Int), .lst (Q.map rowD)] = [some (.int (n : Int)), some (.int (s : Int)), some (.lst (Q.map rowD)), none, none, none, none] from rfl]
    generalize (n : Int) = n at hf
    generalize (s : Int) = s at hf
    unfold b_Book_init
    refine th_asg (d := .lst []) ?_ ?_
    · simp -implicitDefEqProofs only [wipeE_cons, wipeE_nil, List.set_cons_succ, List.set_cons_zero, get_succ, get_zero, acons_ok, call3, hf]
    simp -implicitDefEqProofs only [List.set_cons_succ, List.set_cons_zero]
    refine th_skip rfl ?_
    refine th_nx (ρ := [some (.obj "Book" ["places"] [.int n]), some (.int n), some (.int s), some (.lst (Q.map rowD)), some (.lst []), none, none, none]) rfl ?_
    refine th_nx (ρ := [some (.obj "Book" ["places", "size"] [.int n, .int s]), some (.int n), some (.int s), some (.lst (Q.map rowD)), some (.lst []), none, none, none]) rfl ?_
    refine th_nx (ρ := [some (.obj "Book" ["places", "size", "rooms"] [.int n, .int s, .tup (Q.map rowD)]), some (.int n), some (.int s), some (.lst (Q.map rowD)), some (.lst []), none, none, none]) ?_ ?_
    · rw [lcM_all rowD rowD Q rfl (lim_le (by omega)) fun r hr => ⟨_, rfl, rfl, ?_⟩]
      · simp -implicitDefEqProofs only [acons_ok, cbf_ok, hso, calm_ok, tupleD_lst]
        unfold fldS
        rw [ok_bind, if_pos ?_]
        · rfl
        · show ([0].all fun i => match ([some (.obj "Book" ["places", "size"] [.int n, .int s]), some (.int n), some (.int s), some (.lst (Q.map rowD)), some (.lst []), none, none, none] : DL.Env)[i]? with
            | some (some d0) => !((D.tup (Q.map rowD)).has d0.kind) && (!(deep [0] i) || !((D.tup (Q.map rowD)).has 0))
            | _ => true) = true
          simp only [List.all_cons, List.all_nil, List.getElem?_cons_zero, has_rowsT]
          rfl
      · have h1 := sortedA_intsT r
        rw [sortI_asc (h.2 r hr).2.1] at h1
        have h1 : sortedA [rowD r] = .ok (rowL r) := h1
        have h2 : tupleD [rowL r] = .ok (rowD r) := rfl
        simp -implicitDefEqProofs only [setE_cons, setE_nil, List.set_cons_succ, List.set_cons_zero, wipeE_cons, wipeE_nil, get_succ, get_zero, acons_ok, cbf_ok, h1, calm_ok, h2]
    · rw [dcM_rows (fun _ => .bl true) Q (by rfl) (lim_le (by omega)) h.1.nodup fun q hq => ⟨_, rfl, rfl, rfl, rfl⟩]
      unfold fldS
      rw [ok_bind, if_pos ?_]
      · rfl
      · have hh : ∀ k, k ≠ 2 → (D.dt (Q.map kyI) (Q.map fun _ => .bl true)).has k = false := fun k hk => by
          simp only [D.has]
          rw [has_map (fun _ => .bl true) Q fun x _ => by simp [D.has]]
          simp [hk]
        show ([0].all fun i => match ([some (.obj "Book" ["places", "size", "rooms"] [.int n, .int s, .tup (Q.map rowD)]), some (.int n), some (.int s), some (.lst (Q.map rowD)), some (.lst []), none, none, none] : DL.Env)[i]? with
          | some (some d0) => !((D.dt (Q.map kyI) (Q.map fun _ => .bl true)).has d0.kind) && (!(deep [0] i) || !((D.dt (Q.map kyI) (Q.map fun _ => .bl true)).has 0))
          | _ => true) = true
        simp only [List.all_cons, List.all_nil, List.getElem?_cons_zero]
        rw [hh _ (by simp [D.kind]), hh 0 (by decide)]
        rfl
  show b_Book_init (some (.obj "Book" [] []) :: startE 7 [.int (n : Int), .int (s : Int), .lst (Q.map rowD)]) >>= endI = _
  rw [hb]
  rfl
end Lk32
namespace Lk32
open PySem PySem.Spec L2 DL
set_option maxHeartbeats 4000000
theorem erase_map {α β : Type} (f : α → β) : ∀ (L : List α) (m : Nat), (L.map f).eraseIdx m = (L.eraseIdx m).map f
  | [], _ => rfl
  | _ :: _, 0 => rfl
  | x :: L, m + 1 => by
    show f x :: (L.map f).eraseIdx m = _
    rw [erase_map f L m]
    rfl
theorem order_ok (n : Nat) (c : Int) (hn : n ≤ 1000) : ∃ W : List Int, W.length = n ∧ (∀ x ∈ W, 0 ≤ x ∧ x < n) ∧ m__law_order [.int c, .int (n : Int)] = .ok (.lst (W.map D.int)) := by
  have h : ∃ W : List Int, W.length = n ∧ (∀ x ∈ W, 0 ≤ x ∧ x < n) ∧ b__law_order (startE 6 [.int c, .int (n : Int)]) = .ok (.rt (.lst (W.map D.int))) := by
    rw [show startE 6 [D.int c, .int (n : Int)] = [some (.int c), some (.int (n : Int)), none, none, none, none] from rfl]
    have loop := for_inv (fun (k : Nat) => D.int (k : Int)) (List.range n) (rg := rg1) (ag := agV 4) (r := .ok [.int (n : Int)]) (ds := [.int (n : Int)])
      (mb := fun r => (then_ (asg 5 r (o2 subD (get (wipeE r [2, 3]) 1) (get (wipeE r [2, 3]) 4))) (fun r => (then_ (appPopS 3 2 r (o2 modD (cbf intD (acons (get r 0) (.ok []))) (get r 5))) (fun r => (asg 0 r (o2 fdivD (get (wipeE r [2, 3]) 0) (get (wipeE r [2, 3]) 5))))))))
      (ρ := [some (.int c), some (.int (n : Int)), some (.lst ((iotaI n).map D.int)), some (.lst []), none, none])
      (fun i ρ => ∃ (L W : List Int) (c : Int) (o o2 : Option D), L.length = n - i ∧ W.length = i ∧ (∀ x ∈ L, 0 ≤ x ∧ x < n) ∧ (∀ x ∈ W, 0 ≤ x ∧ x < n) ∧ ρ = [some (.int c), some (.int (n : Int)), some (.lst (L.map D.int)), some (.lst (W.map D.int)), o, o2]) rfl (rg1_nat (lim_le (by omega))) ⟨iotaI n, [], c, none, none, by rw [iotaI_len]; rfl, rfl, fun x hx => (mem_iotaI n x).mp hx, by simp, rfl⟩ ?_
    · obtain ⟨ρ', h1, L, W, c', o, o2, _, hW, _, hb, rfl⟩ := loop
      rw [List.length_range] at hW
      refine ⟨W, hW, hb, ?_⟩
      unfold b__law_order
      refine th_own (ds := (iotaI n).map D.int) ?_ ?_
      · simp -implicitDefEqProofs only [wipeE_cons, wipeE_nil, List.set_cons_succ, List.set_cons_zero, get_succ, get_zero, acons_ok, dsp_ok]
        rw [rgL1_nat (lim_le (by omega))]
        unfold iotaI
        rw [List.map_map]
        rfl
      refine th_own (ds := []) rfl ?_
      simp -implicitDefEqProofs only [List.set_cons_succ, List.set_cons_zero]
      exact th_nx h1 rfl
    · rintro i x ρ hx ⟨L, W, c, o, o2', hL, hW, hbL, hbW, rfl⟩
      obtain ⟨hi, hx⟩ := List.getElem?_eq_some_iff.mp hx
      simp only [List.getElem_range] at hx
      subst hx
      have hi : i < n := by simpa using hi
      have e1 : (n : Int) - (i : Int) = ((n - i : Nat) : Int) := by omega
      obtain ⟨m, hm, e3⟩ := modD_nat c (n := n - i) (by omega)
      have e4 : fdivD (.int c) (.int ((n - i : Nat) : Int)) = .ok (.int (c / ((n - i : Nat) : Int))) := fdivD_int (by omega)
      have hk : (L.map D.int)[m]? = some (.int (L[m]'(by omega))) := by
        rw [List.getElem?_map, List.getElem?_eq_getElem (by omega)]
        rfl
      refine ⟨[(4, .int (i : Int))], [some (.int (c / ((n - i : Nat) : Int))), some (.int (n : Int)), some (.lst ((L.eraseIdx m).map D.int)), some (.lst ((W ++ [L[m]'(by omega)]).map D.int)), some (.int (i : Int)), some (.int ((n - i : Nat) : Int))], rfl, .inl ?_, ⟨_, _, _, _, _, ?_, ?_, ?_, ?_, rfl⟩⟩
      · simp -implicitDefEqProofs only [setE_cons, setE_nil, List.set_cons_succ, List.set_cons_zero, wipeE_cons, wipeE_nil, get_succ, get_zero, o2_ok, subD_int, calm_ok, e1, asg_ok, then_nx]
        rw [appPopS_nat (k := m) (ds := W.map D.int) (es := L.map D.int) rfl rfl (by simp -implicitDefEqProofs only [get_succ, get_zero, acons_ok, cbf_ok, intD_int, calm_ok, o2_ok, e3]) hk (by rw [List.length_map]; exact lim_le (by omega)) (by rw [List.length_map]; exact lim_lt' (by omega))]
        rw [then_nx]
        simp -implicitDefEqProofs only [List.set_cons_succ, List.set_cons_zero, wipeE_cons, wipeE_nil, get_succ, get_zero, o2_ok, calm_ok, e4, asg_ok, List.map_append, List.map_cons, List.map_nil, erase_map]
      · rw [List.length_eraseIdx_of_lt (by omega)]
        omega
      · simp
        omega
      · intro x hx
        exact hbL x (List.mem_of_mem_eraseIdx hx)
      · intro x hx
        rcases List.mem_append.mp hx with hx | hx
        · exact hbW x hx
        · rw [List.mem_singleton] at hx
          subst hx
          exact hbL _ (List.getElem_mem _)
  obtain ⟨W, hW, hb, h⟩ := h
  exact ⟨W, hW, hb, runX_rt h⟩
theorem rep1 (n : Nat) (hn : n ≤ 1000) : o2N repN (dsp lstD (acons (.ok (.int 1)) (.ok []))) (.ok (.int (n : Int))) = .ok ((List.replicate n (1 : Int)).map D.int) := by
  show calm (repN (.lst [.int 1]) (.int (n : Int))) = _
  have : repN (.lst [.int 1]) (.int (n : Int)) = .ok ((List.replicate n (1 : Int)).map D.int) := by
    show gdL (0 ≤ (n : Int) ∧ (n : Int) ≤ (LIM : Int) ∧ ([D.int 1].length) * ((n : Int)).toNat ≤ LIM) _ = _
    have hL : LIM = 1000000 := rfl
    unfold gdL
    rw [if_pos ⟨by omega, by omega, by simp; omega⟩, Int.toNat_natCast]
    refine congrArg _ ?_
    clear hn
    induction n with
    | zero => rfl
    | succ n ih => rw [List.replicate_succ, List.flatten_cons, ih]; rfl
  rw [this]
  rfl
theorem mul1 (n : Nat) (hn : n ≤ 1000) : o2 mulD (dsp lstD (acons (.ok (.int 1)) (.ok []))) (.ok (.int (n : Int))) = .ok (.lst ((List.replicate n (1 : Int)).map D.int)) := by
  show calm (mulD (.lst [.int 1]) (.int (n : Int))) = _
  have : mulD (.lst [.int 1]) (.int (n : Int)) = .ok (.lst ((List.replicate n (1 : Int)).map D.int)) := by
    show gd (0 ≤ (n : Int) ∧ (n : Int) ≤ (LIM : Int) ∧ ([D.int 1].length) * ((n : Int)).toNat ≤ LIM) _ = _
    have hL : LIM = 1000000 := rfl
    rw [gd_ok ⟨by omega, by omega, by simp; omega⟩, Int.toNat_natCast]
    refine congrArg (fun x => DL.R.ok (D.lst x)) ?_
    clear hn
    induction n with
    | zero => rfl
    | succ n ih => rw [List.replicate_succ, List.flatten_cons, ih]; rfl
  rw [this]
  rfl
theorem labels_ok (ns : List Int) (n s : Nat) (hn : n ≤ 1000) (hs : 1 ≤ s) (hs2 : s ≤ 1000) : ∃ W : List Int, W.length = n ∧ m__law_labels [.scr ns, .int (n : Int), .int (s : Int)] = .ok (.lst (W.map D.int)) := by
  obtain ⟨c4, _, h4⟩ := cell_ok ns 4 (by omega)
  obtain ⟨c5, _, h5⟩ := cell_ok ns 5 (by omega)
  have h4 : m__law_cell [.scr ns, .int 4] = .ok (.int c4) := h4
  have h5 : m__law_cell [.scr ns, .int 5] = .ok (.int c5) := h5
  have h : ∃ W : List Int, W.length = n ∧ b__law_labels (startE 8 [.scr ns, .int (n : Int), .int (s : Int)]) = .ok (.rt (.lst (W.map D.int))) := by
    rw [show startE 8 [.scr ns, D.int (n : Int), .int (s : Int)] = [some (.scr ns), some (.int (n : Int)), some (.int (s : Int)), none, none, none, none, none] from rfl]
    have m2 : modD (.int c4) (.int 2) = .ok (.int (c4 % 2)) := modD_int (by omega)
    have hs0 : (0 : Int) < (s : Int) := by omega
    have ms : ∀ x : Int, modD (.int x) (.int (s : Int)) = .ok (.int (x % (s : Int))) := fun x => modD_int hs0
    have fs : ∀ x : Int, fdivD (.int x) (.int (s : Int)) = .ok (.int (x / (s : Int))) := fun x => fdivD_int ⟨hs0, by omega⟩
    have hlen : (List.replicate n (1 : Int)).length = n := by simp
    have h0 := rep1 n hn
    generalize List.replicate n (1 : Int) = W0 at hlen h0
    by_cases hc : c4 % 2 = 0
    · obtain ⟨O, hO, hbO, ho⟩ := order_ok n c5 hn
      have loop := for_inv (fun (k : Nat) => D.int (k : Int)) (List.range n) (rg := rg1) (ag := agV 5) (r := .ok [.int (n : Int)]) (ds := [.int (n : Int)])
        (mb := fun r => (setixS 3 r (o2 addD (.ok (.int 1)) (o2 modD (cbf intD (acons (get (wipeE r [3]) 5) (.ok []))) (get (wipeE r [3]) 2))) (o2 ixA (get r 4) (get r 5))))
        (ρ := [some (.scr ns), some (.int (n : Int)), some (.int (s : Int)), some (.lst (W0.map D.int)), some (.lst (O.map D.int)), none, none, none])
        (fun i ρ => ∃ (W : List Int) (a : Option D), W.length = n ∧ ρ = [some (.scr ns), some (.int (n : Int)), some (.int (s : Int)), some (.lst (W.map D.int)), some (.lst (O.map D.int)), a, none, none]) rfl (rg1_nat (lim_le (by omega))) ⟨W0, none, hlen, rfl⟩ ?_
      · obtain ⟨ρ', h1, W, a, hW, rfl⟩ := loop
        refine ⟨W, hW, ?_⟩
        unfold b__law_labels
        refine th_own (ds := W0.map D.int) ?_ ?_
        · simp -implicitDefEqProofs only [wipeE_cons, wipeE_nil, List.set_cons_succ, List.set_cons_zero, get_succ, get_zero]
          exact h0
        simp -implicitDefEqProofs only [List.set_cons_succ, List.set_cons_zero]
        refine th_if (b := true) ?_ ?_ (fun e => by cases e)
        · simp -implicitDefEqProofs only [get_succ, get_zero, acons_ok, call2, h4, cbf_ok, intD_int, calm_ok, o2_ok, m2, eqD_int, tst_ok, decide_eq_true hc]
        · intro _
          refine th_rt ?_
          refine th_asg (d := .lst (O.map D.int)) ?_ ?_
          · simp -implicitDefEqProofs only [wipeE_cons, wipeE_nil, List.set_cons_succ, List.set_cons_zero, get_succ, get_zero, acons_ok, call2, h5, ho]
          simp -implicitDefEqProofs only [List.set_cons_succ, List.set_cons_zero, get_succ, get_zero, acons_ok]
          exact th_nx h1 rfl
      · rintro i x ρ hx ⟨W, a, hW, rfl⟩
        obtain ⟨hi, hx⟩ := List.getElem?_eq_some_iff.mp hx
        simp only [List.getElem_range] at hx
        subst hx
        have hi : i < n := by simpa using hi
        have hat := at_map D.int 0 (P := O) (k := i) (by omega)
        have hb := hbO _ (getD_mem2 0 (P := O) (k := i) (by omega))
        generalize O.getD i 0 = o at hat hb
        refine ⟨[(5, .int (i : Int))], [some (.scr ns), some (.int (n : Int)), some (.int (s : Int)), some (.lst ((W.set o.toNat (1 + (i : Int) % (s : Int))).map D.int)), some (.lst (O.map D.int)), some (.int (i : Int)), none, none], rfl, .inl ?_, ⟨_, _, by simp; exact hW, rfl⟩⟩
        simp -implicitDefEqProofs only [setE_cons, setE_nil, List.set_cons_succ, List.set_cons_zero]
        rw [setixS_nat (k := o.toNat) (d := .int (1 + (i : Int) % (s : Int))) (ds := W.map D.int) ?_ rfl ?_ (by rw [List.length_map]; omega)]
        · simp -implicitDefEqProofs only [List.set_cons_succ, List.set_cons_zero, List.map_set]
        · simp -implicitDefEqProofs only [wipeE_cons, wipeE_nil, List.set_cons_succ, List.set_cons_zero, get_succ, get_zero, acons_ok, cbf_ok, intD_int, calm_ok, o2_ok, ms, addD_int]
        · rw [Int.toNat_of_nonneg hb.1]
          simp -implicitDefEqProofs only [get_succ, get_zero, o2_ok, hat, calm_ok]
    · have loop := for_inv (fun (k : Nat) => D.int (k : Int)) (List.range n) (rg := rg1) (ag := agV 7) (r := .ok [.int (n : Int)]) (ds := [.int (n : Int)])
        (mb := fun r => (then_ (setixS 3 r (o2 addD (.ok (.int 1)) (o2 modD (cbf intD (acons (get (wipeE r [3]) 6) (.ok []))) (get (wipeE r [3]) 2))) (get r 7)) (fun r => (asg 6 r (o2 fdivD (get (wipeE r [3]) 6) (get (wipeE r [3]) 2))))))
        (ρ := [some (.scr ns), some (.int (n : Int)), some (.int (s : Int)), some (.lst (W0.map D.int)), none, none, some (.int c5), none])
        (fun i ρ => ∃ (W : List Int) (c : Int) (a : Option D), W.length = n ∧ ρ = [some (.scr ns), some (.int (n : Int)), some (.int (s : Int)), some (.lst (W.map D.int)), none, none, some (.int c), a]) rfl (rg1_nat (lim_le (by omega))) ⟨W0, c5, none, hlen, rfl⟩ ?_
      · obtain ⟨ρ', h1, W, c, a, hW, rfl⟩ := loop
        refine ⟨W, hW, ?_⟩
        unfold b__law_labels
        refine th_own (ds := W0.map D.int) ?_ ?_
        · simp -implicitDefEqProofs only [wipeE_cons, wipeE_nil, List.set_cons_succ, List.set_cons_zero, get_succ, get_zero]
          exact h0
        simp -implicitDefEqProofs only [List.set_cons_succ, List.set_cons_zero]
        refine th_skip ?_ ?_
        · simp -implicitDefEqProofs only [get_succ, get_zero, acons_ok, call2, h4, cbf_ok, intD_int, calm_ok, o2_ok, m2, eqD_int, tst_ok, decide_eq_false hc]
        refine th_asg (d := .int c5) ?_ ?_
        · simp -implicitDefEqProofs only [wipeE_cons, wipeE_nil, List.set_cons_succ, List.set_cons_zero, get_succ, get_zero, acons_ok, call2, h5]
        simp -implicitDefEqProofs only [List.set_cons_succ, List.set_cons_zero, get_succ, get_zero, acons_ok]
        exact th_nx h1 rfl
      · rintro i x ρ hx ⟨W, c, a, hW, rfl⟩
        obtain ⟨hi, hx⟩ := List.getElem?_eq_some_iff.mp hx
        simp only [List.getElem_range] at hx
        subst hx
        have hi : i < n := by simpa using hi
        refine ⟨[(7, .int (i : Int))], [some (.scr ns), some (.int (n : Int)), some (.int (s : Int)), some (.lst ((W.set i (1 + c % (s : Int))).map D.int)), none, none, some (.int (c / (s : Int))), some (.int (i : Int))], rfl, .inl ?_, ⟨_, _, _, by simp; exact hW, rfl⟩⟩
        simp -implicitDefEqProofs only [setE_cons, setE_nil, List.set_cons_succ, List.set_cons_zero]
        refine th_nx (setixS_nat (k := i) (d := .int (1 + c % (s : Int))) (ds := W.map D.int) ?_ rfl rfl (by rw [List.length_map]; omega)) ?_
        · simp -implicitDefEqProofs only [wipeE_cons, wipeE_nil, List.set_cons_succ, List.set_cons_zero, get_succ, get_zero, acons_ok, cbf_ok, intD_int, calm_ok, o2_ok, ms, addD_int]
        · simp -implicitDefEqProofs only [List.set_cons_succ, List.set_cons_zero, List.map_set, wipeE_cons, wipeE_nil, get_succ, get_zero, o2_ok, fs, calm_ok, asg_ok]
  obtain ⟨W, hW, h⟩ := h
  exact ⟨W, hW, runX_rt h⟩
theorem p20 : o2 powD (.ok (.int 10)) (.ok (.int 20)) = .ok (.int 100000000000000000000) := by
  show calm (powD (.int 10) (.int 20)) = _
  have : powD (.int 10) (.int 20) = .ok (.int 100000000000000000000) := by
    unfold powD
    exact gd_ok (by decide)
  rw [this]
  rfl
def spTail : DL.Env → DL.R Fl := fun r => (then_ (ifv (tst (o2 geX (get r 3) (.ok (.int 8)))) (ret (get r 1)) (.ok (.nx r))) (fun r => (then_ (ifv (tst (o2 eqD (get r 3) (.ok (.int 0)))) (ret (o3 sliceD (get r 1) (.ok none) (toI (o1 negD (.ok (.int 1)))))) (.ok (.nx r))) (fun r => (then_ (ifv (tst (o2 eqD (get r 3) (.ok (.int 1)))) (ret (o2 addD (o3 sliceD (get r 1) (.ok none) (toI (o1 negD (.ok (.int 2))))) (dsp lstD (acons (.ok (.int 0)) (.ok []))))) (.ok (.nx r))) (fun r => (then_ (ifv (tst (o2 eqD (get r 3) (.ok (.int 2)))) (ret (o2 addD (get r 1) (dsp lstD (acons (.ok (.int 1)) (.ok []))))) (.ok (.nx r))) (fun r => (then_ (ifv (tst (o2 eqD (get r 3) (.ok (.int 3)))) (ret (o2 addD (get r 1) (dsp lstD (acons (.ok (.int 0)) (acons (.ok (.int 1)) (.ok [])))))) (.ok (.nx r))) (fun r => (then_ (ownS 5 r (dsp listL (acons (get (wipeE r [5]) 1) (.ok [])))) (fun r => (then_ (forR rg1 (agV 6) (fun r => (then_ (asg 7 r (o2 modD (cbf intD (acons (call_ 2 m__law_cell (acons (get (wipeE r [5]) 0) (acons (o2 addD (.ok (.int 8)) (get (wipeE r [5]) 6)) (.ok [])))) (.ok []))) (cbf (orC (lenO opT_len) lenD) (acons (get (wipeE r [5]) 1) (.ok []))))) (fun r => (setixS 5 r (o2 ixA (dsp lstD (acons (.ok (.int 0)) (acons (o2 addD (get (wipeE r [5]) 2) (.ok (.int 1))) (acons (o1 negD (get (wipeE r [5]) 4)) (acons (o2 addD (get (wipeE r [5]) 2) (get (wipeE r [5]) 4)) (.ok [])))))) (o2 modD (cbf intD (acons (o2 addD (get (wipeE r [5]) 3) (get (wipeE r [5]) 6)) (.ok []))) (.ok (.int 4)))) (get r 7))))) r (acons (.ok (.int 2)) (.ok []))) (fun r => (ret (get r 5))))))))))))))))
theorem pick4 (c : Int) (z : List Int) (hz : z.length = 4) : ∃ x : Int, o2 ixA (.ok (.lst (z.map D.int))) (o2 modD (.ok (.int c)) (.ok (.int 4))) = .ok (.int x) := by
  obtain ⟨q, hq, eq⟩ := mod_nat c (n := 4) (by omega)
  have m4 : modD (.int c) (.int 4) = .ok (.int (q : Int)) := by
    rw [modD_int (by omega)]
    exact congrArg (fun x => DL.R.ok (D.int x)) eq
  refine ⟨z.getD q 0, ?_⟩
  rw [o2_ok, m4, calm_ok, o2_ok, at_map D.int 0 (by omega)]
  rfl
theorem spTail_ok (ns W : List Int) (s k far : Int) (hW1 : 1 ≤ W.length) (hW : W.length ≤ 7) : ∃ V : List Int, V.length ≤ 9 ∧ spTail [some (.scr ns), some (.lst (W.map D.int)), some (.int s), some (.int k), some (.int far), none, none, none] = .ok (.rt (.lst (V.map D.int))) := by
  have sl : ∀ j : Nat, ∃ V : List Int, V.length ≤ W.length ∧ o3 sliceD (.ok (.lst (W.map D.int))) (.ok none) (toI (o1 negD (.ok (.int (j : Int))))) = .ok (.lst (V.map D.int)) := fun j => by
    refine ⟨(W.drop (HT.sIx W.length 0 none)).take (HT.sIx W.length W.length (some (-(j : Int))) - HT.sIx W.length 0 none), by simp [List.length_take, List.length_drop]; omega, ?_⟩
    show calm (sliceD (.lst (W.map D.int)) none (some (-(j : Int)))) = _
    rw [sliceD_lst, cutD_map]
    rfl
  have cat : ∀ V U : List Int, V.length + U.length ≤ 1000 → o2 addD (.ok (.lst (V.map D.int))) (.ok (.lst (U.map D.int))) = .ok (.lst ((V ++ U).map D.int)) := fun V U h => by
    rw [o2_ok, addD_lst (by simp; exact lim_le (by omega)), List.map_append]
    rfl
  by_cases k8 : 8 ≤ k
  · refine ⟨W, by omega, ?_⟩
    unfold spTail
    refine th_rt ?_
    simp -implicitDefEqProofs only [get_succ, get_zero, o2_ok, geX_int, calm_ok, tst_ok, decide_eq_true k8, ifv_ok, if_true, ret_ok]
  have t8 : ∀ x, spTail [some (.scr ns), some (.lst (W.map D.int)), some (.int s), some (.int k), some (.int far), none, none, none] = x ↔ spTail [some (.scr ns), some (.lst (W.map D.int)), some (.int s), some (.int k), some (.int far), none, none, none] = x := fun _ => Iff.rfl
  by_cases k0 : k = 0
  · obtain ⟨V, hV, hs⟩ := sl 1
    have hs : o3 sliceD (.ok (.lst (W.map D.int))) (.ok none) (toI (o1 negD (.ok (.int 1)))) = .ok (.lst (V.map D.int)) := hs
    refine ⟨V, by omega, ?_⟩
    unfold spTail
    refine th_skip (by simp -implicitDefEqProofs only [get_succ, get_zero, o2_ok, geX_int, calm_ok, tst_ok, decide_eq_false k8]) ?_
    refine th_rt ?_
    simp -implicitDefEqProofs only [get_succ, get_zero, o2_ok, eqD_int, calm_ok, tst_ok, decide_eq_true k0, ifv_ok, if_true, hs, ret_ok]
  by_cases k1 : k = 1
  · obtain ⟨V, hV, hs⟩ := sl 2
    have hs : o3 sliceD (.ok (.lst (W.map D.int))) (.ok none) (toI (o1 negD (.ok (.int 2)))) = .ok (.lst (V.map D.int)) := hs
    refine ⟨V ++ [0], by simp; omega, ?_⟩
    have hc := cat V [0] (by simp; omega)
    have hc : o2 addD (.ok (.lst (V.map D.int))) (dsp lstD (acons (.ok (.int 0)) (.ok []))) = .ok (.lst ((V ++ [0]).map D.int)) := hc
    unfold spTail
    refine th_skip (by simp -implicitDefEqProofs only [get_succ, get_zero, o2_ok, geX_int, calm_ok, tst_ok, decide_eq_false k8]) ?_
    refine th_skip (by simp -implicitDefEqProofs only [get_succ, get_zero, o2_ok, eqD_int, calm_ok, tst_ok, decide_eq_false k0]) ?_
    refine th_rt ?_
    simp -implicitDefEqProofs only [get_succ, get_zero, o2_ok eqD, eqD_int, calm_ok, tst_ok, decide_eq_true k1, ifv_ok, if_true, hs, hc, ret_ok]
  by_cases k2 : k = 2
  · refine ⟨W ++ [1], by simp; omega, ?_⟩
    have hc := cat W [1] (by simp; omega)
    have hc : o2 addD (.ok (.lst (W.map D.int))) (dsp lstD (acons (.ok (.int 1)) (.ok []))) = .ok (.lst ((W ++ [1]).map D.int)) := hc
    unfold spTail
    refine th_skip (by simp -implicitDefEqProofs only [get_succ, get_zero, o2_ok, geX_int, calm_ok, tst_ok, decide_eq_false k8]) ?_
    refine th_skip (by simp -implicitDefEqProofs only [get_succ, get_zero, o2_ok, eqD_int, calm_ok, tst_ok, decide_eq_false k0]) ?_
    refine th_skip (by simp -implicitDefEqProofs only [get_succ, get_zero, o2_ok, eqD_int, calm_ok, tst_ok, decide_eq_false k1]) ?_
    refine th_rt ?_
    simp -implicitDefEqProofs only [get_succ, get_zero, o2_ok eqD, eqD_int, calm_ok, tst_ok, decide_eq_true k2, ifv_ok, if_true, hc, ret_ok]
  by_cases k3 : k = 3
  · refine ⟨W ++ [0, 1], by simp; omega, ?_⟩
    have hc := cat W [0, 1] (by simp; omega)
    have hc : o2 addD (.ok (.lst (W.map D.int))) (dsp lstD (acons (.ok (.int 0)) (acons (.ok (.int 1)) (.ok [])))) = .ok (.lst ((W ++ [0, 1]).map D.int)) := hc
    unfold spTail
    refine th_skip (by simp -implicitDefEqProofs only [get_succ, get_zero, o2_ok, geX_int, calm_ok, tst_ok, decide_eq_false k8]) ?_
    refine th_skip (by simp -implicitDefEqProofs only [get_succ, get_zero, o2_ok, eqD_int, calm_ok, tst_ok, decide_eq_false k0]) ?_
    refine th_skip (by simp -implicitDefEqProofs only [get_succ, get_zero, o2_ok, eqD_int, calm_ok, tst_ok, decide_eq_false k1]) ?_
    refine th_skip (by simp -implicitDefEqProofs only [get_succ, get_zero, o2_ok, eqD_int, calm_ok, tst_ok, decide_eq_false k2]) ?_
    refine th_rt ?_
    simp -implicitDefEqProofs only [get_succ, get_zero, o2_ok eqD, eqD_int, calm_ok, tst_ok, decide_eq_true k3, ifv_ok, if_true, hc, ret_ok]
  have loop := for_inv (fun (k : Nat) => D.int (k : Int)) (List.range 2) (rg := rg1) (ag := agV 6) (r := .ok [.int 2]) (ds := [.int 2])
    (mb := (fun r => (then_ (asg 7 r (o2 modD (cbf intD (acons (call_ 2 m__law_cell (acons (get (wipeE r [5]) 0) (acons (o2 addD (.ok (.int 8)) (get (wipeE r [5]) 6)) (.ok [])))) (.ok []))) (cbf (orC (lenO opT_len) lenD) (acons (get (wipeE r [5]) 1) (.ok []))))) (fun r => (setixS 5 r (o2 ixA (dsp lstD (acons (.ok (.int 0)) (acons (o2 addD (get (wipeE r [5]) 2) (.ok (.int 1))) (acons (o1 negD (get (wipeE r [5]) 4)) (acons (o2 addD (get (wipeE r [5]) 2) (get (wipeE r [5]) 4)) (.ok [])))))) (o2 modD (cbf intD (acons (o2 addD (get (wipeE r [5]) 3) (get (wipeE r [5]) 6)) (.ok []))) (.ok (.int 4)))) (get r 7))))))
    (ρ := [some (.scr ns), some (.lst (W.map D.int)), some (.int s), some (.int k), some (.int far), some (.lst (W.map D.int)), none, none])
    (fun i ρ => ∃ (V : List Int) (a b : Option D), V.length = W.length ∧ ρ = [some (.scr ns), some (.lst (W.map D.int)), some (.int s), some (.int k), some (.int far), some (.lst (V.map D.int)), a, b]) rfl (rg1_nat (n := 2) (lim_le (by omega))) ⟨W, none, none, rfl, rfl⟩ ?_
  · obtain ⟨ρ', h1, V, a, b, hV, rfl⟩ := loop
    refine ⟨V, by omega, ?_⟩
    unfold spTail
    refine th_skip (by simp -implicitDefEqProofs only [get_succ, get_zero, o2_ok, geX_int, calm_ok, tst_ok, decide_eq_false k8]) ?_
    refine th_skip (by simp -implicitDefEqProofs only [get_succ, get_zero, o2_ok, eqD_int, calm_ok, tst_ok, decide_eq_false k0]) ?_
    refine th_skip (by simp -implicitDefEqProofs only [get_succ, get_zero, o2_ok, eqD_int, calm_ok, tst_ok, decide_eq_false k1]) ?_
    refine th_skip (by simp -implicitDefEqProofs only [get_succ, get_zero, o2_ok, eqD_int, calm_ok, tst_ok, decide_eq_false k2]) ?_
    refine th_skip (by simp -implicitDefEqProofs only [get_succ, get_zero, o2_ok, eqD_int, calm_ok, tst_ok, decide_eq_false k3]) ?_
    refine th_own (ds := W.map D.int) rfl ?_
    simp -implicitDefEqProofs only [List.set_cons_succ, List.set_cons_zero, acons_ok]
    exact th_nx h1 rfl
  · rintro i x ρ hx ⟨V, a, b, hV, rfl⟩
    obtain ⟨hi, hx⟩ := List.getElem?_eq_some_iff.mp hx
    simp only [List.getElem_range] at hx
    subst hx
    have hi : i < 2 := by simpa using hi
    obtain ⟨c, _, hcell⟩ := cell_ok ns (8 + i) (by omega)
    have hcell : m__law_cell [.scr ns, .int (8 + (i : Int))] = .ok (.int c) := by
      rw [← hcell]
      congr 3
    obtain ⟨j, hj, hm⟩ := modD_nat c (n := W.length) (by omega)
    obtain ⟨x, hx⟩ := pick4 (k + (i : Int)) [0, s + 1, -far, s + far] rfl
    have ls : ∀ a b c d : D, lstD [a, b, c, d] = .ok (.lst [a, b, c, d]) := fun _ _ _ _ => rfl
    refine ⟨[(6, .int (i : Int))], [some (.scr ns), some (.lst (W.map D.int)), some (.int s), some (.int k), some (.int far), some (.lst ((V.set j x).map D.int)), some (.int (i : Int)), some (.int (j : Int))], rfl, .inl ?_, ⟨_, _, _, by simp; exact hV, rfl⟩⟩
    simp -implicitDefEqProofs only [setE_cons, setE_nil, List.set_cons_succ, List.set_cons_zero]
    refine th_asg (d := .int (j : Int)) ?_ ?_
    · simp -implicitDefEqProofs only [wipeE_cons, wipeE_nil, List.set_cons_succ, List.set_cons_zero, get_succ, get_zero, acons_ok, o2_ok addD, addD_int, calm_ok, call2, hcell, cbf_ok intD, intD_int, lenC_lst, List.length_map, o2_ok modD, hm]
    simp -implicitDefEqProofs only [List.set_cons_succ, List.set_cons_zero]
    rw [setixS_nat (k := j) (d := .int x) (ds := V.map D.int) ?_ rfl ?_ (by rw [List.length_map]; omega)]
    · simp -implicitDefEqProofs only [List.set_cons_succ, List.set_cons_zero, List.map_set]
    rotate_left
    · rfl
    · rw [← hx]
      simp -implicitDefEqProofs only [wipeE_cons, wipeE_nil, List.set_cons_succ, List.set_cons_zero, get_succ, get_zero, acons_ok, o1_ok, negD_int, o2_ok addD, addD_int, calm_ok, dsp_ok, ls, cbf_ok, intD_int]
      rfl
theorem spoilt_ok (ns W : List Int) (s : Int) (hW1 : 1 ≤ W.length) (hW : W.length ≤ 7) : ∃ V : List Int, V.length ≤ 9 ∧ m__law_spoilt [.scr ns, .lst (W.map D.int), .int s] = .ok (.lst (V.map D.int)) := by
  obtain ⟨c6, _, h6⟩ := cell_ok ns 6 (by omega)
  obtain ⟨c7, _, h7⟩ := cell_ok ns 7 (by omega)
  have h6 : m__law_cell [.scr ns, .int 6] = .ok (.int c6) := h6
  have h7 : m__law_cell [.scr ns, .int 7] = .ok (.int c7) := h7
  have m32 : modD (.int c6) (.int 32) = .ok (.int (c6 % 32)) := modD_int (by omega)
  have mf : modD (.int c7) (.int 100000000000000000000) = .ok (.int (c7 % 100000000000000000000)) := modD_int (by omega)
  obtain ⟨V, hV, h⟩ := spTail_ok ns W s (c6 % 32) (1 + c7 % 100000000000000000000) hW1 hW
  refine ⟨V, hV, runX_rt ?_⟩
  rw [show startE 8 [.scr ns, .lst (W.map D.int), .int s] = [some (.scr ns), some (.lst (W.map D.int)), some (.int s), none, none, none, none, none] from rfl]
  unfold b__law_spoilt
  refine th_asg (d := .int (c6 % 32)) ?_ ?_
  · simp -implicitDefEqProofs only [wipeE_cons, wipeE_nil, List.set_cons_succ, List.set_cons_zero, get_succ, get_zero, acons_ok, call2, h6, cbf_ok, intD_int, calm_ok, o2_ok, m32]
  simp -implicitDefEqProofs only [List.set_cons_succ, List.set_cons_zero]
  refine th_asg (d := .int (1 + c7 % 100000000000000000000)) ?_ ?_
  · simp -implicitDefEqProofs only [wipeE_cons, wipeE_nil, List.set_cons_succ, List.set_cons_zero, get_succ, get_zero, acons_ok, call2, h7, cbf_ok, intD_int, calm_ok, p20, o2_ok modD, o2_ok addD, mf, addD_int]
  rw [← h]
  rfl
end Lk32
namespace DL
open PySem PySem.Spec L2
/-! ### loops that may stop -/
theorem loop_first {α : Type} {ag : D → R As} {mb : Env → R Fl} (emb : α → D) (bad : α → Bool) (out : α → R Fl) (ho : ∀ x, (∃ d, out x = .ok (.rt d)) ∨ ∃ n ds, out x = .err n ds) : ∀ (xs : List α) (P : Env → Prop) (ρ : Env), P ρ →
    (∀ x ∈ xs, ∀ ρ, P ρ → ∃ as, ag (emb x) = .ok as ∧ (bad x = true → mb (setE ρ as) = out x) ∧ (bad x = false → ∃ ρ', mb (setE ρ as) = .ok (.nx ρ') ∧ P ρ')) →
    (xs.find? bad = none → ∃ ρ', loopGo ag mb (xs.map emb) ρ = .ok (.nx ρ') ∧ P ρ') ∧ ∀ x, xs.find? bad = some x → loopGo ag mb (xs.map emb) ρ = out x
  | [], P, ρ, h0, _ => ⟨fun _ => ⟨ρ, rfl, h0⟩, fun x h => by cases h⟩
  | x :: xs, P, ρ, h0, hs => by
    obtain ⟨as, h1, h2, h3⟩ := hs x List.mem_cons_self ρ h0
    rw [List.find?_cons, List.map_cons]
    unfold loopGo
    rw [h1, calm_ok, ok_bind]
    cases hb : bad x with
    | true =>
      refine ⟨fun h => (by cases h), fun y h => ?_⟩
      cases h
      rw [h2 hb]
      rcases ho x with ⟨d, e⟩ | ⟨n, ds, e⟩
      · rw [e]
        rfl
      · rw [e]
        rfl
    | false =>
      obtain ⟨ρ', h4, h5⟩ := h3 hb
      rw [h4]
      exact loop_first emb bad out ho xs P ρ' h5 fun y hy => hs y (List.mem_cons_of_mem _ hy)
theorem lcN_map {α : Type} {vs : List Nat} {mi : Env → R (List D)} {ag : D → R As} {mt : Env → R Bool} {me : Env → R D} {ρ : Env} (emb : α → D) (f : α → Bool) (v : α → D) (xs : List α) (hi : mi ρ = .ok (xs.map emb)) (hl : xs.length ≤ LIM)
    (h : ∀ x ∈ xs, ∃ as, ag (emb x) = .ok as ∧ mt (setE (wipeE ρ vs) as) = .ok (f x) ∧ (f x = true → me (setE (wipeE ρ vs) as) = .ok (v x))) : lcN vs mi ag mt me ρ = .ok ((xs.filter f).map v) := by
  unfold lcN
  rw [hi, ok_bind, if_pos (by rw [List.length_map]; exact hl), lcGo_map emb f v xs h, calm_ok]
theorem eqD_rowLL (r q : List Int) : eqD (rowL r) (rowL q) = .ok (.bl (decide (r = q))) := by
  have h : eqD (rowL r) (rowL q) = gd ((rowL r).fine 60 = true ∧ (rowL q).fine 60 = true) (.bl (PyData.eqv (rowL r).py (rowL q).py)) := rfl
  rw [h, gd_ok ⟨fine_rowL 59 r, fine_rowL 59 q⟩, eqv_rowL]
end DL
namespace Lk32
open PySem PySem.Spec L2 DL
set_option maxHeartbeats 4000000
/-- labels in a list or a tuple -/
structure Lab (d : D) (V : List Int) : Prop where
  len : cbf (orC (lenO opT_len) lenD) (.ok [d]) = .ok (.int V.length)
  enum : enumA [d] = .ok (enumD 0 (V.map D.int))
  at_ : ∀ k : Nat, k < V.length → ixA d (.int (k : Int)) = .ok (.int (V.getD k 0))
theorem lab_lst (V : List Int) : Lab (.lst (V.map D.int)) V := ⟨by rw [lenC_lst, List.length_map], rfl, fun k h => at_map D.int 0 h⟩
theorem lab_tup (V : List Int) : Lab (.tup (V.map D.int)) V := ⟨by rw [lenC_tup, List.length_map], rfl, fun k h => at_mapT D.int 0 h⟩
def badL (s : Int) (V : List Int) (i : Nat) : Bool := !(decide (1 ≤ V.getD i 0) && decide (V.getD i 0 ≤ s))
def dueP (n : Nat) (s : Int) (V : List Int) : Option (Str × Int) :=
  if V.length = n then ((List.range n).find? (badL s V)).map fun (i : Nat) => ("label", (i : Int)) else some ("count", (V.length : Int))
def dueD : Option (Str × Int) → D
  | none => .non
  | some p => .tup [.str p.1, .int p.2]
theorem due_ok (n : Nat) (s : Int) (V : List Int) (hn : n ≤ 1000) : m__law_due [.int (n : Int), .int s, .lst (V.map D.int)] = .ok (dueD (dueP n s V)) := by
  apply runX_rt
  rw [show startE 4 [.int (n : Int), .int s, .lst (V.map D.int)] = [some (.int (n : Int)), some (.int s), some (.lst (V.map D.int)), none] from rfl]
  unfold b__law_due dueP
  by_cases hl : V.length = n
  · rw [if_pos hl]
    refine th_skip ?_ ?_
    · simp -implicitDefEqProofs only [get_succ, get_zero, acons_ok, lenC_lst, o2_ok, neD_int, calm_ok, tst_ok, List.length_map, hl]
      simp
    obtain ⟨l1, l2⟩ := loop_first (ag := agV 3) (mb := fun r => (ifv (tor (tst (o2 ltD (o2 ixA (get r 2) (get r 3)) (.ok (.int 1)))) (tst (o2 gtD (o2 ixA (get r 2) (get r 3)) (get r 1)))) (ret (dsp tupD (acons (.ok (.str "label")) (acons (get r 3) (.ok []))))) (.ok (.nx r))))
      (fun (k : Nat) => D.int (k : Int)) (badL s V) (fun i => .ok (.rt (.tup [.str "label", .int (i : Int)]))) (fun x => .inl ⟨_, rfl⟩) (List.range n) (fun ρ => ∃ a, ρ = [some (.int (n : Int)), some (.int s), some (.lst (V.map D.int)), a]) [some (.int (n : Int)), some (.int s), some (.lst (V.map D.int)), none] ⟨_, rfl⟩ (by
        rintro i hi ρ ⟨a, rfl⟩
        have hi : i < V.length := by rw [hl]; exact List.mem_range.mp hi
        have hx := at_map D.int 0 hi
        have hb : badL s V i = !(decide (1 ≤ V.getD i 0) && decide (V.getD i 0 ≤ s)) := rfl
        generalize V.getD i 0 = v at hx hb
        have ht : tor (tst (o2 ltD (o2 ixA (.ok (.lst (V.map D.int))) (.ok (.int (i : Int)))) (.ok (.int 1)))) (tst (o2 gtD (o2 ixA (.ok (.lst (V.map D.int))) (.ok (.int (i : Int)))) (.ok (.int s)))) = .ok (badL s V i) := by
          simp -implicitDefEqProofs only [o2_ok, hx, calm_ok, ltD_int, gtD_int, tst_ok, tor_ok, hb]
          by_cases h1 : v < 1
          · have h2 : ¬ 1 ≤ v := by omega
            simp [h1, h2]
          · have h2 : 1 ≤ v := by omega
            by_cases h3 : s < v
            · have h4 : ¬ v ≤ s := by omega
              simp [h1, h2, h3, h4]
            · have h4 : v ≤ s := by omega
              simp [h1, h2, h3, h4]
        refine ⟨[(3, .int (i : Int))], rfl, fun e => ?_, fun e => ⟨[some (.int (n : Int)), some (.int s), some (.lst (V.map D.int)), some (.int (i : Int))], ?_, ⟨_, rfl⟩⟩⟩
        · simp -implicitDefEqProofs only [setE_cons, setE_nil, List.set_cons_succ, List.set_cons_zero, get_succ, get_zero, ht, e, ifv_ok, if_true]
          rfl
        · simp -implicitDefEqProofs only [setE_cons, setE_nil, List.set_cons_succ, List.set_cons_zero, get_succ, get_zero, ht, e, ifv_ok]
          rfl)
    have hf : ∀ mb : DL.Env → DL.R Fl, forR rg1 (agV 3) mb [some (.int (n : Int)), some (.int s), some (.lst (V.map D.int)), none] (acons (get [some (.int (n : Int)), some (.int s), some (.lst (V.map D.int)), none] 0) (.ok [])) = loopGo (agV 3) mb ((List.range n).map fun (k : Nat) => D.int (k : Int)) [some (.int (n : Int)), some (.int s), some (.lst (V.map D.int)), none] := fun mb => by
      simp -implicitDefEqProofs only [get_succ, get_zero, acons_ok, forR_ok]
      rw [rg1_nat (lim_le (by omega)), calm_ok, ok_bind]
    rw [hf]
    cases h : (List.range n).find? (badL s V) with
    | none =>
      obtain ⟨ρ', h1, _⟩ := l1 h
      exact th_nx h1 rfl
    | some i =>
      exact th_rt (l2 i h)
  · rw [if_neg hl]
    refine th_rt ?_
    simp -implicitDefEqProofs only [get_succ, get_zero, acons_ok, lenC_lst, o2_ok, neD_int, calm_ok, tst_ok, List.length_map]
    rw [show (!decide ((V.length : Int) = (n : Int))) = true from by simp; omega]
    rfl
def errD (p : Str × Int) : List D := [.obj "BadLabels" ["at", "fault"] [.int p.2, .str p.1]]
theorem check_ok (n : Nat) (s : Int) (V : List Int) (d : D) (hd : Lab d V) (hn : n ≤ 1000) :
    (∀ p, dueP n s V = some p → m_check_place_labels [.int (n : Int), d, .int s] = .err "BadLabels" (errD p)) ∧ (dueP n s V = none → m_check_place_labels [.int (n : Int), d, .int s] = .ok .non) := by
  have hnum : m_check_number_of_labels [.int (n : Int), d] = if V.length = n then .ok .non else .err "BadLabels" (errD ("count", (V.length : Int))) := by
    show runX 2 b_check_number_of_labels [.int (n : Int), d] = _
    unfold runX
    rw [show startE 2 [.int (n : Int), d] = [some (.int (n : Int)), some d] from rfl]
    unfold b_check_number_of_labels
    simp -implicitDefEqProofs only [get_succ, get_zero, acons_ok, hd.len, o2_ok, neD_int, calm_ok, tst_ok, ifv_ok]
    by_cases hl : V.length = n
    · rw [if_pos hl, hl]
      simp
    · rw [if_neg hl, if_pos (show (!decide ((V.length : Int) = (n : Int))) = true from by simp; omega)]
      rfl
  have go : ∀ x : DL.R Fl, b_check_place_labels [some (.int (n : Int)), some d, some (.int s), none, none] = x → m_check_place_labels [.int (n : Int), d, .int s] = x >>= endD := fun x h => by
    show b_check_place_labels (startE 5 [.int (n : Int), d, .int s]) >>= endD = _
    rw [← h]
    rfl
  unfold dueP
  by_cases hl : V.length = n
  · rw [if_pos hl] at hnum ⊢
    obtain ⟨l1, l2⟩ := loop_first (ag := tupAs 2 (agC (agV 3) (agC (agV 4) agN))) (mb := fun r => (ifv (tnot (tst (ch2 leD leD (.ok (.int 1)) (get r 4) (get r 2)))) (raiseS "BadLabels" ["fault", "at"] (acons (.ok (.str "label")) (acons (get r 3) (.ok [])))) (.ok (.nx r))))
      (fun (k : Nat) => D.tup [.int (k : Int), .int (V.getD k 0)]) (badL s V) (fun i => .err "BadLabels" (errD ("label", (i : Int)))) (fun x => .inr ⟨_, _, rfl⟩) (List.range n) (fun ρ => ∃ a b, ρ = [some (.int (n : Int)), some d, some (.int s), a, b]) [some (.int (n : Int)), some d, some (.int s), none, none] ⟨_, _, rfl⟩ (by
        rintro i hi ρ ⟨a, b, rfl⟩
        have hb : badL s V i = !(decide (1 ≤ V.getD i 0) && decide (V.getD i 0 ≤ s)) := rfl
        generalize V.getD i 0 = v at hb
        have ht : tnot (tst (ch2 leD leD (.ok (.int 1)) (.ok (.int v)) (.ok (.int s)))) = .ok (badL s V i) := by
          simp -implicitDefEqProofs only [ch2, ok_bind, leD_int, calm_ok, hb]
          by_cases h1 : 1 ≤ v <;> simp -implicitDefEqProofs [h1, asB, leD_int]
        refine ⟨[(3, .int (i : Int)), (4, .int v)], rfl, fun e => ?_, fun e => ⟨[some (.int (n : Int)), some d, some (.int s), some (.int (i : Int)), some (.int v)], ?_, ⟨_, _, rfl⟩⟩⟩
        · simp -implicitDefEqProofs only [setE_cons, setE_nil, List.set_cons_succ, List.set_cons_zero, get_succ, get_zero, ht, e, ifv_ok, if_true]
          rfl
        · simp -implicitDefEqProofs only [setE_cons, setE_nil, List.set_cons_succ, List.set_cons_zero, get_succ, get_zero, ht, e, ifv_ok]
          rfl)
    have hen : enumD 0 (V.map D.int) = (List.range n).map fun (k : Nat) => D.tup [.int (k : Int), .int (V.getD k 0)] := by
      have h := enumD_map D.int V 0 0
      simp only [Nat.zero_add] at h
      rw [h, hl]
    have hb : ∀ x, loopGo (tupAs 2 (agC (agV 3) (agC (agV 4) agN))) (fun r => (ifv (tnot (tst (ch2 leD leD (.ok (.int 1)) (get r 4) (get r 2)))) (raiseS "BadLabels" ["fault", "at"] (acons (.ok (.str "label")) (acons (get r 3) (.ok [])))) (.ok (.nx r)))) ((List.range n).map fun (k : Nat) => D.tup [.int (k : Int), .int (V.getD k 0)]) [some (.int (n : Int)), some d, some (.int s), none, none] = x → b_check_place_labels [some (.int (n : Int)), some d, some (.int s), none, none] = x := fun x h => by
      unfold b_check_place_labels
      simp -implicitDefEqProofs only [get_succ, get_zero, acons_ok, call2, hnum, drp_ok, then_nx, dsp_ok, hd.enum, hen, forS_ok]
      exact h
    refine ⟨fun p h => ?_, fun h => ?_⟩
    · cases hf : (List.range n).find? (badL s V) with
      | none =>
        rw [hf] at h
        cases h
      | some i =>
        rw [hf] at h
        cases h
        exact go _ (hb _ (l2 i hf))
    · cases hf : (List.range n).find? (badL s V) with
      | none =>
        obtain ⟨ρ', h1, _⟩ := l1 hf
        exact go _ (hb _ h1)
      | some i =>
        rw [hf] at h
        cases h
  · rw [if_neg hl] at hnum ⊢
    refine ⟨fun p h => ?_, fun h => by cases h⟩
    cases h
    refine go (.err "BadLabels" (errD ("count", (V.length : Int)))) ?_
    unfold b_check_place_labels
    simp -implicitDefEqProofs only [get_succ, get_zero, acons_ok, call2, hnum]
    rfl
end Lk32
namespace Lk32
open PySem PySem.Spec L2 DL
set_option maxHeartbeats 4000000
/-! ### full rooms -/
def labs (V r : List Int) : List Int := r.map fun p => V.getD p.toNat 0
def fullB (s : Nat) (V r : List Int) : Bool := decide (sortI (labs V r) = iota1 s)
def fullQ (s : Nat) (V : List Int) (Q : List (List Int)) : List (List Int) := Q.filter (fullB s V)
theorem labs_ok {n s : Nat} {V r : List Int} {d : D} (hd : Lab d V) (hl : V.length = n) (hr : RoomR n s r) (hs : s ≤ 1000) : m_labels_of [rowD r, d] = .ok (rowL (labs V r)) := by
  apply runX_rt
  rw [show startE 3 [rowD r, d] = [some (rowD r), some d, none] from rfl]
  unfold b_labels_of
  refine rt_of ?_
  have h := hr.1
  refine (lcM_all D.int (fun p => D.int (V.getD p.toNat 0)) r rfl (by have : LIM = 1000000 := rfl; omega) fun p hp => ⟨_, rfl, rfl, ?_⟩).trans ?_
  · obtain ⟨h0, h1⟩ := hr.2.2 p hp
    have hx := hd.at_ p.toNat (by omega)
    rw [Int.toNat_of_nonneg h0] at hx
    simp -implicitDefEqProofs only [wipeE_cons, wipeE_nil, setE_cons, setE_nil, List.set_cons_succ, List.set_cons_zero, get_succ, get_zero, o2_ok, hx, calm_ok]
  · unfold rowL labs
    rw [List.map_map]
    rfl
theorem due_len {n : Nat} {s : Int} {V : List Int} (h : dueP n s V = none) : V.length = n := by
  unfold dueP at h
  split at h
  · assumption
  · cases h
theorem body_full {n s : Nat} {V : List Int} {Q : List (List Int)} {d : D} (hd : Lab d V) (hg : GoodR n s Q) (hn : n ≤ 7) (hs : s ≤ 7) (hdue : dueP n (s : Int) V = none) : b_full_rooms (startE 4 [bookI (n : Int) (s : Int) Q, d]) = .ok (.rf ((fullQ s V Q).map rowD)) := by
  have hl := hg.len hn hs
  have hc := (check_ok n (s : Int) V d hd (by omega)).2 hdue
  have hV := due_len hdue
  rw [show startE 4 [bookI (n : Int) (s : Int) Q, d] = [some (bookI (n : Int) (s : Int) Q), some d, none, none] from rfl]
  unfold b_full_rooms
  have e1 : o1 (fldD ["Book"] "places") (.ok (bookI (n : Int) (s : Int) Q)) = .ok (.int (n : Int)) := rfl
  have e2 : o1 (fldD ["Book"] "size") (.ok (bookI (n : Int) (s : Int) Q)) = .ok (.int (s : Int)) := rfl
  have e3 : its (o1 (fldD ["Book"] "rooms") (.ok (bookI (n : Int) (s : Int) Q))) = .ok (Q.map rowD) := rfl
  simp -implicitDefEqProofs only [get_succ, get_zero, e1, e2, acons_ok, call3, hc, drp_ok, then_nx]
  refine th_asg (d := rowL (iota1 s)) ?_ ?_
  · simp -implicitDefEqProofs only [o2_ok, addD_int, calm_ok, acons_ok, dsp_ok]
    exact rgLv2_1 (by omega)
  simp -implicitDefEqProofs only [List.set_cons_succ, List.set_cons_zero]
  rw [lcN_map rowD (fullB s V) rowD Q e3 (lim_le (by omega)) fun r hr => ⟨[(3, rowD r)], rfl, ?_, fun _ => rfl⟩]
  · rfl
  · have hlab := labs_ok hd hV (hg.2 r hr) (by omega)
    have hso := sortedA_ints (labs V r)
    have hso : sortedA [rowL (labs V r)] = .ok (rowL (sortI (labs V r))) := hso
    have hq : o2 (orL (eqO opT_eq) eqD) (.ok (rowL (sortI (labs V r)))) (.ok (rowL (iota1 s))) = .ok (.bl (fullB s V r)) := by
      show calm (eqD (rowL (sortI (labs V r))) (rowL (iota1 s))) = _
      rw [eqD_rowLL]
      rfl
    simp -implicitDefEqProofs only [setE_cons, setE_nil, List.set_cons_succ, List.set_cons_zero, wipeE_cons, wipeE_nil, get_succ, get_zero, acons_ok, call2, hlab, cbf_ok, hso, calm_ok, hq, tst_ok]
theorem full_ok {n s : Nat} {V : List Int} {Q : List (List Int)} {d : D} (hd : Lab d V) (hg : GoodR n s Q) (hn : n ≤ 7) (hs : s ≤ 7) (hdue : dueP n (s : Int) V = none) : m_full_rooms [bookI (n : Int) (s : Int) Q, d] = .ok (.lst ((fullQ s V Q).map rowD)) := by
  show b_full_rooms (startE 4 [bookI (n : Int) (s : Int) Q, d]) >>= endD = _
  rw [body_full hd hg hn hs hdue]
  rfl
theorem fullF_ok {n s : Nat} {V : List Int} {Q : List (List Int)} {d : D} (hd : Lab d V) (hg : GoodR n s Q) (hn : n ≤ 7) (hs : s ≤ 7) (hdue : dueP n (s : Int) V = none) : mF_full_rooms [bookI (n : Int) (s : Int) Q, d] = .ok ((fullQ s V Q).map rowD) := by
  show b_full_rooms (startE 4 [bookI (n : Int) (s : Int) Q, d]) >>= endF = _
  rw [body_full hd hg hn hs hdue]
  rfl
theorem full_bad {n s : Nat} {V : List Int} {Q : List (List Int)} {d : D} {p : Str × Int} (hd : Lab d V) (hn : n ≤ 7) (hdue : dueP n (s : Int) V = some p) : m_full_rooms [bookI (n : Int) (s : Int) Q, d] = .err "BadLabels" (errD p) := by
  have hc := (check_ok n (s : Int) V d hd (by omega)).1 p hdue
  show b_full_rooms (startE 4 [bookI (n : Int) (s : Int) Q, d]) >>= endD = _
  rw [show startE 4 [bookI (n : Int) (s : Int) Q, d] = [some (bookI (n : Int) (s : Int) Q), some d, none, none] from rfl]
  unfold b_full_rooms
  have e1 : o1 (fldD ["Book"] "places") (.ok (bookI (n : Int) (s : Int) Q)) = .ok (.int (n : Int)) := rfl
  have e2 : o1 (fldD ["Book"] "size") (.ok (bookI (n : Int) (s : Int) Q)) = .ok (.int (s : Int)) := rfl
  simp -implicitDefEqProofs only [get_succ, get_zero, e1, e2, acons_ok, call3, hc]
  rfl
theorem refused_ok {n s : Nat} {V : List Int} {Q : List (List Int)} {d : D} {p : Str × Int} (hd : Lab d V) (hn : n ≤ 7) (hdue : dueP n (s : Int) V = some p) : m__law_refused [bookI (n : Int) (s : Int) Q, d] = .ok (dueD (some p)) := by
  have hb := full_bad (Q := Q) hd hn hdue
  generalize bookI (n : Int) (s : Int) Q = bk at hb
  apply runX_rt
  rw [show startE 3 [bk, d] = [some bk, some d, none] from rfl]
  unfold b__law_refused
  refine th_rt ?_
  rw [try_err (n := "BadLabels") (n' := "BadLabels") (ks := ["at", "fault"]) (es := [.int p.2, .str p.1])]
  · have ht : xT "BadLabels" "BadLabels" = some true := by decide +kernel
    have e1 : cbf (isxD xT xB) (.ok [.exc "BadLabels" ["at", "fault"] [.int p.2, .str p.1], .cls "NeverAloneError"]) = .ok (.bl true) := by
      show calm (match xT "BadLabels" "NeverAloneError" with | some b => DL.R.ok (D.bl b) | none => .stuck) = _
      rw [show xT "BadLabels" "NeverAloneError" = some true from by decide +kernel]
      rfl
    have e2 : cbf (isxD xT xB) (.ok [.exc "BadLabels" ["at", "fault"] [.int p.2, .str p.1], .ty "ValueError"]) = .ok (.bl true) := by
      show calm (match xB "BadLabels" "ValueError" with | some b => DL.R.ok (D.bl b) | none => .stuck) = _
      rw [show xB "BadLabels" "ValueError" = some true from by decide +kernel]
      rfl
    have e0 : cbf (isxD xT xB) (.ok [.exc "BadLabels" ["at", "fault"] [.int p.2, .str p.1], .cls "BadBook"]) = .ok (.bl false) := by
      show calm (match xT "BadLabels" "BadBook" with | some b => DL.R.ok (D.bl b) | none => .stuck) = _
      rw [show xT "BadLabels" "BadBook" = some false from by decide +kernel]
      rfl
    have e3 : o1 (xfD ["BadBook", "Mismatch", "BadLabels"] "fault") (.ok (.exc "BadLabels" ["at", "fault"] [.int p.2, .str p.1])) = .ok (.str p.1) := by
      show calm (if ("BadLabels" : Str) ∈ (["BadBook", "Mismatch", "BadLabels"] : List Str) then (match getF "fault" ["at", "fault"] [.int p.2, .str p.1] with | some d => DL.R.ok d | none => .stuck) else .stuck) = _
      rw [if_pos (by decide +kernel)]
      have : getF "fault" ["at", "fault"] [.int p.2, .str p.1] = some (.str p.1) := by
        simp only [getF]
        rw [if_neg (by decide +kernel)]
        rfl
      rw [this]
      rfl
    have e4 : o1 (xfD ["BadBook", "BadLabels"] "at") (.ok (.exc "BadLabels" ["at", "fault"] [.int p.2, .str p.1])) = .ok (.int p.2) := by
      show calm (if ("BadLabels" : Str) ∈ (["BadBook", "BadLabels"] : List Str) then (match getF "at" ["at", "fault"] [.int p.2, .str p.1] with | some d => DL.R.ok d | none => .stuck) else .stuck) = _
      rw [if_pos (by decide +kernel)]
      have : getF "at" ["at", "fault"] [.int p.2, .str p.1] = some (.int p.2) := by
        simp only [getF]
        rfl
      rw [this]
      rfl
    unfold clM
    rw [if_pos rfl, ht]
    simp -implicitDefEqProofs only [wipeE_nil, List.set_cons_succ, List.set_cons_zero, get_succ, get_zero, acons_ok, e0, e1, e2, e3, e4, tst_ok, tnot_ok, tand_ok, ifv_ok, dsp_ok, tupD_2, ret_ok, if_true, Bool.not_false]
    rfl
  · refine drp_err ?_
    simp -implicitDefEqProofs only [wipeE_nil, get_succ, get_zero, acons_ok, call2, hb]
    rfl
/-! ### what is told is right -/
theorem fine_rowsDD (R : List (List Int)) : (D.lst (R.map rowD)).fine 60 = true := fine_rowsD 58 R
theorem right_ok {n s : Nat} {V : List Int} {Q : List (List Int)} {d : D} (hd : Lab d V) (hV : V.length = n) (hg : GoodR n s Q) (hn : n ≤ 7) (hs : s ≤ 7) : m__law_right [.lst ((fullQ s V Q).map rowD), .lst (Q.map rowD), d, .int (s : Int)] = .ok (.bl true) := by
  have hl := hg.len hn hs
  apply runX_rt
  have hF : (fullQ s V Q).length ≤ 35 := Nat.le_trans (List.length_filter_le _ _) hl
  have hF2 : ∀ r ∈ fullQ s V Q, r.length ≤ 1000 := fun r hr => by
    have := (hg.2 r (List.mem_filter.mp hr).1).1
    omega
  rw [show startE 8 [.lst ((fullQ s V Q).map rowD), .lst (Q.map rowD), d, .int (s : Int)] = [some (.lst ((fullQ s V Q).map rowD)), some (.lst (Q.map rowD)), some d, some (.int (s : Int)), none, none, none, none] from rfl]
  unfold b__law_right
  refine th_asg (d := .lst ((fullQ s V Q).map rowD)) ?_ ?_
  · refine lcM_map rowD (fullB s V) rowD Q rfl (lim_le (by omega)) fun r hr => ⟨[(6, rowD r)], rfl, ?_, fun _ => rfl⟩
    have hr2 := hg.2 r hr
    have hr1 := hr2.1
    have hc : lcM [7] (fun r => (itsO opT_iter (get r 6))) (agV 7) (fun _ => .ok true) (fun r => (o2 ixA (get r 2) (get r 7))) [some (.lst ((fullQ s V Q).map rowD)), some (.lst (Q.map rowD)), some d, some (.int (s : Int)), none, none, some (rowD r), none] = .ok (rowL (labs V r)) := by
      refine (lcM_all D.int (fun p => D.int (V.getD p.toNat 0)) r rfl (by have : LIM = 1000000 := rfl; omega) fun p hp => ⟨_, rfl, rfl, ?_⟩).trans ?_
      · obtain ⟨h0, h1⟩ := hr2.2.2 p hp
        have hx := hd.at_ p.toNat (by omega)
        rw [Int.toNat_of_nonneg h0] at hx
        simp -implicitDefEqProofs only [wipeE_cons, wipeE_nil, setE_cons, setE_nil, List.set_cons_succ, List.set_cons_zero, get_succ, get_zero, o2_ok, hx, calm_ok]
      · unfold rowL labs
        rw [List.map_map]
        rfl
    have hso := sortedA_ints (labs V r)
    have hso : sortedA [rowL (labs V r)] = .ok (rowL (sortI (labs V r))) := hso
    have hq : o2 (orL (eqO opT_eq) eqD) (.ok (rowL (sortI (labs V r)))) (.ok (rowL (iota1 s))) = .ok (.bl (fullB s V r)) := by
      show calm (eqD (rowL (sortI (labs V r))) (rowL (iota1 s))) = _
      rw [eqD_rowLL]
      rfl
    have hrg : dsp rgLv2 (acons (.ok (.int 1)) (acons (o2 addD (.ok (.int (s : Int))) (.ok (.int 1))) (.ok []))) = .ok (rowL (iota1 s)) := by
      simp -implicitDefEqProofs only [o2_ok, addD_int, calm_ok, acons_ok, dsp_ok]
      exact rgLv2_1 (by omega)
    simp -implicitDefEqProofs only [setE_cons, setE_nil, List.set_cons_succ, List.set_cons_zero, wipeE_cons, wipeE_nil, get_succ, get_zero, hc, acons_ok, cbf_ok, hso, calm_ok, hrg, hq, tst_ok]
  simp -implicitDefEqProofs only [List.set_cons_succ, List.set_cons_zero]
  generalize fullQ s V Q = F at hF hF2
  have i1 : cbf (isoD oT oB (fun _ _ => none)) (.ok [.lst (F.map rowD), .ty "list"]) = .ok (.bl true) := rfl
  refine th_skip ?_ ?_
  · simp -implicitDefEqProofs only [get_succ, get_zero, acons_ok, i1, tst_ok, tnot_ok, tor_ok, lenC_lst, calm_ok, o2_ok, neD_int]
    simp
  refine th_for (fun (k : Nat) => D.int (k : Int)) (List.range F.length) (fun i ρ => ∃ a b, ρ = [some (.lst (F.map rowD)), some (.lst (Q.map rowD)), some d, some (.int (s : Int)), some (.lst (F.map rowD)), a, none, b]) (ds := [.int F.length]) ?_ ?_ ⟨_, _, rfl⟩ ?_ ?_
  · simp -implicitDefEqProofs only [get_succ, get_zero, acons_ok, lenC_lst, List.length_map]
  · exact rg1_nat (lim_le (by omega))
  · rintro i x ρ hx ⟨a, b, rfl⟩
    obtain ⟨hi, hx⟩ := List.getElem?_eq_some_iff.mp hx
    simp only [List.getElem_range] at hx
    subst hx
    have hi : i < F.length := by simpa using hi
    have hp := at_map rowD [] hi
    have hm := hF2 _ (getD_mem2 [] hi)
    have hne : neD (rowD (F.getD i [])) (rowD (F.getD i [])) = .ok (.bl false) := neD_refl (fine_rowD 59 _)
    generalize F.getD i [] = p at hp hm hne
    have j1 : cbf (isoD oT oB (fun _ _ => none)) (.ok [rowD p, .ty "tuple"]) = .ok (.bl true) := rfl
    refine ⟨[(5, .int (i : Int))], [some (.lst (F.map rowD)), some (.lst (Q.map rowD)), some d, some (.int (s : Int)), some (.lst (F.map rowD)), some (.int (i : Int)), none, b], rfl, .inl ?_, _, _, rfl⟩
    simp -implicitDefEqProofs only [setE_cons, setE_nil, List.set_cons_succ, List.set_cons_zero]
    have hq : o2 ixA (.ok (.lst (F.map rowD))) (.ok (.int (i : Int))) = .ok (rowD p) := by
      rw [o2_ok, hp]
      rfl
    refine th_skip ?_ ?_
    · simp -implicitDefEqProofs only [get_succ, get_zero, hq, acons_ok, j1, tst_ok, tnot_ok, tor_ok, o2_ok neD, hne, calm_ok]
      simp
    · have hc : lcM [7] (fun r => (its (o2 ixA (get r 0) (get r 5)))) (agV 7) (fun r => (tor (tnot (tst (cbf (isoD oT oB (fun _ _ => none)) (acons (get r 7) (acons (.ok (.ty "int")) (.ok [])))))) (tst (cbf (isoD oT oB (fun _ _ => none)) (acons (get r 7) (acons (.ok (.ty "bool")) (.ok []))))))) (fun r => (get r 7)) [some (.lst (F.map rowD)), some (.lst (Q.map rowD)), some d, some (.int (s : Int)), some (.lst (F.map rowD)), some (.int (i : Int)), none, b] = .ok (.lst ((p.filter fun _ => false).map D.int)) := by
        refine lcM_map D.int (fun _ => false) D.int p ?_ (lim_le (by omega)) fun x hx => ⟨[(7, .int x)], rfl, ?_, fun e => by cases e⟩
        · simp -implicitDefEqProofs only [get_succ, get_zero, hq]
          rfl
        · rfl
      rw [hc]
      simp -implicitDefEqProofs only [acons_ok, cbf_ok, lenD_lst, calm_ok, o2_ok, gtD_int, tst_ok, ifv_ok]
      simp
  · rintro ρ ⟨a, b, rfl⟩
    rfl
end Lk32
namespace Lk32
open PySem PySem.Spec L2 DL
set_option maxHeartbeats 4000000
/-! ### counted twice -/
theorem sum_add {β : Type} (g h : β → Nat) : ∀ B : List β, (B.map fun b => g b + h b).sum = (B.map g).sum + (B.map h).sum
  | [] => rfl
  | b :: B => by
    have ih := sum_add g h B
    simp only [List.map_cons, List.sum_cons, ih]
    omega
theorem len_sum {β : Type} (p : β → Bool) : ∀ B : List β, (B.filter p).length = (B.map fun b => if p b = true then 1 else 0).sum
  | [] => rfl
  | b :: B => by
    have ih := len_sum p B
    rw [List.filter_cons, List.map_cons, List.sum_cons, ← ih]
    by_cases h : p b = true
    · rw [if_pos h, if_pos h, List.length_cons]
      omega
    · rw [if_neg h, if_neg h]
      omega
theorem swap_sum {α β : Type} (p : α → β → Bool) (B : List β) : ∀ A : List α, (A.map fun a => (B.filter (p a)).length).sum = (B.map fun b => (A.filter fun a => p a b).length).sum
  | [] => by
    simp only [List.map_nil, List.sum_nil, List.filter_nil, List.length_nil]
    induction B with
    | nil => rfl
    | cons b B ih =>
      rw [List.map_cons, List.sum_cons, ← ih]
      rfl
  | a :: A => by
    have ih := swap_sum p B A
    rw [List.map_cons, List.sum_cons, ih, len_sum (p a) B, ← sum_add]
    refine congrArg List.sum (List.map_congr_left fun b _ => ?_)
    rw [List.filter_cons]
    by_cases h : p a b = true
    · rw [if_pos h, if_pos h, List.length_cons]
      omega
    · rw [if_neg h, if_neg h]
      omega
theorem sum_even {α : Type} (g : α → Nat) : ∀ A : List α, (∀ a ∈ A, g a % 2 = 0) → (A.map g).sum % 2 = 0
  | [], _ => rfl
  | a :: A, h => by
    have ih := sum_even g A fun x hx => h x (List.mem_cons_of_mem _ hx)
    have h0 := h a List.mem_cons_self
    rw [List.map_cons, List.sum_cons]
    omega
theorem sum_par {β : Type} (g : β → Nat) (p : β → Bool) : ∀ B : List β, (∀ b ∈ B, g b % 2 = if p b = true then 1 else 0) → (B.map g).sum % 2 = (B.filter p).length % 2
  | [], _ => rfl
  | b :: B, h => by
    have ih := sum_par g p B fun x hx => h x (List.mem_cons_of_mem _ hx)
    have h0 := h b List.mem_cons_self
    rw [List.map_cons, List.sum_cons, List.filter_cons]
    by_cases e : p b = true
    · rw [if_pos e] at h0 ⊢
      rw [List.length_cons]
      omega
    · rw [if_neg e] at h0 ⊢
      omega
/-! ### faces of a room -/
theorem sub_face : ∀ {f r : List Int}, f.Sublist r → f.length + 1 = r.length → ∃ k, k < r.length ∧ f = r.take k ++ r.drop (k + 1)
  | _, _, .cons x h, hl => by
    simp only [List.length_cons] at hl
    have := h.eq_of_length (by omega)
    exact ⟨0, by simp, by simp [this]⟩
  | _, _, .cons_cons x h, hl => by
    simp only [List.length_cons] at hl
    obtain ⟨k, hk, e⟩ := sub_face h (by omega)
    exact ⟨k + 1, by simp; omega, by simp [e]⟩
  | _, _, .slnil, hl => by simp at hl
theorem mem_facesP (r f : List Int) : f ∈ facesP r ↔ ∃ k, k < r.length ∧ f = r.take k ++ r.drop (k + 1) := by
  unfold facesP
  simp only [List.mem_map, List.mem_range]
  constructor
  · rintro ⟨k, h, rfl⟩
    exact ⟨k, h, rfl⟩
  · rintro ⟨k, h, rfl⟩
    exact ⟨k, h, rfl⟩
theorem not_face {r : List Int} (hn : r.Nodup) {k : Nat} (hk : k < r.length) : r[k] ∉ r.take k ++ r.drop (k + 1) := by
  have e : r = r.take k ++ r[k] :: r.drop (k + 1) := by
    rw [← List.drop_eq_getElem_cons hk, List.take_append_drop]
  intro h
  generalize hx : r[k] = x at h e
  rw [e, List.nodup_append] at hn
  obtain ⟨_, h2, h3⟩ := hn
  rcases List.mem_append.mp h with h | h
  · exact h3 x h x List.mem_cons_self rfl
  · exact (List.nodup_cons.mp h2).1 h
theorem facesP_nodup {r : List Int} (hn : r.Nodup) : (facesP r).Nodup := by
  unfold facesP List.Nodup
  rw [List.pairwise_map]
  refine List.pairwise_lt_range.imp_of_mem fun {a b} ha hb hab => ?_
  have ha := List.mem_range.mp ha
  have hb := List.mem_range.mp hb
  intro e
  have h1 := not_face hn ha
  rw [e] at h1
  refine h1 (List.mem_append_left _ ?_)
  rw [List.mem_take_iff_getElem]
  exact ⟨a, by omega, rfl⟩
/-! ### labels -/
theorem sortI_iff (l : List Int) (m : Nat) : sortI l = iota1 m ↔ l.Perm (iota1 m) := by
  constructor
  · intro h
    rw [← h]
    exact (sortI_perm l).symm
  · intro h
    exact sorted_unique (sortI_srt l) (asc_le (iota1_asc m)) ((sortI_perm l).trans h)
theorem iota1_succ (t : Nat) : (iota1 (t + 1)).Perm (((t + 1 : Nat) : Int) :: iota1 t) := by
  unfold iota1
  rw [List.range_succ, List.map_append]
  refine (List.perm_append_comm).trans (List.Perm.of_eq ?_)
  show (1 + (t : Int)) :: _ = ((t + 1 : Nat) : Int) :: _
  rw [show 1 + (t : Int) = ((t + 1 : Nat) : Int) from by omega]
  rfl
theorem cons_cancel {v w : Int} {L : List Int} (h : (v :: L).Perm (w :: L)) : v = w := by
  have h1 := h.count_eq v
  rw [List.count_cons_self] at h1
  by_cases e : v = w
  · exact e
  · rw [List.count_cons_of_ne (fun x => e x.symm)] at h1
    omega
theorem erase_perm (l : List Int) {k : Nat} (hk : k < l.length) : l.Perm (l[k] :: l.eraseIdx k) := by
  have e : l = l.take k ++ l[k] :: l.drop (k + 1) := by
    rw [← List.drop_eq_getElem_cons hk, List.take_append_drop]
  rw [List.eraseIdx_eq_take_drop_succ]
  exact (List.Perm.of_eq e).trans List.perm_middle
theorem range_count (l : List Int) (v : Int) : ((List.range l.length).filter fun k => decide (l.getD k 0 = v)).length = l.count v := by
  have e : l = (List.range l.length).map fun k => l.getD k 0 := by
    refine List.ext_getElem (by simp) fun i h1 h2 => ?_
    simp [List.getD_eq_getElem?_getD, List.getElem?_eq_getElem h1]
  have h : l.count v = ((List.range l.length).map fun k => l.getD k 0).count v := by rw [← e]
  rw [h, List.count, List.countP_map, List.countP_eq_length_filter]
  refine congrArg List.length (List.filter_congr fun k _ => ?_)
  show decide (l.getD k 0 = v) = (l.getD k 0 == v)
  by_cases h : l.getD k 0 = v
  · rw [decide_eq_true h, beq_iff_eq.mpr h]
  · rw [decide_eq_false h, beq_eq_false_iff_ne.mpr h]
/-- how many labels can be left out -/
theorem labels_par (t : Nat) (l : List Int) (hl : l.length = t + 1) (hb : ∀ x ∈ l, 1 ≤ x ∧ x ≤ ((t + 1 : Nat) : Int)) :
    ((List.range (t + 1)).filter fun k => decide ((l.eraseIdx k).Perm (iota1 t))).length % 2 = if l.Perm (iota1 (t + 1)) then 1 else 0 := by
  have hcond : ∀ k (hk : k < l.length), (l.eraseIdx k).Perm (iota1 t) ↔ l.Perm (l[k] :: iota1 t) := fun k hk => by
    have := erase_perm l hk
    constructor
    · intro h
      exact this.trans (h.cons _)
    · intro h
      exact (List.perm_cons _).mp (this.symm.trans h)
  have hfull : l.Perm (iota1 (t + 1)) ↔ l.Perm (((t + 1 : Nat) : Int) :: iota1 t) := ⟨fun h => h.trans (iota1_succ t), fun h => h.trans (iota1_succ t).symm⟩
  by_cases hv : ∃ v, l.Perm (v :: iota1 t)
  · obtain ⟨v, hv⟩ := hv
    have e : ((List.range (t + 1)).filter fun k => decide ((l.eraseIdx k).Perm (iota1 t))) = ((List.range l.length).filter fun k => decide (l.getD k 0 = v)) := by
      rw [hl]
      refine List.filter_congr fun k hk => ?_
      have hk : k < l.length := by rw [hl]; exact List.mem_range.mp hk
      refine decide_eq_decide.mpr ?_
      rw [hcond k hk, List.getD_eq_getElem?_getD, List.getElem?_eq_getElem hk]
      show _ ↔ l[k] = v
      constructor
      · intro h
        exact (cons_cancel (hv.symm.trans h)).symm
      · intro h
        rw [h]
        exact hv
    rw [e, range_count, hv.count_eq v, List.count_cons_self]
    have hvl : v ∈ l := hv.symm.subset List.mem_cons_self
    obtain ⟨v1, v2⟩ := hb v hvl
    by_cases hs : v = ((t + 1 : Nat) : Int)
    · rw [if_pos (hfull.mpr (hs ▸ hv)), List.count_eq_zero.mpr fun h => by
        have := (mem_iota1 t v).mp h
        omega]
    · rw [if_neg fun h => hs (cons_cancel (hv.symm.trans (hfull.mp h)))]
      have hm : v ∈ iota1 t := (mem_iota1 t v).mpr (by omega)
      have h1 : 1 ≤ (iota1 t).count v := List.one_le_count_iff.mpr hm
      have h2 : (iota1 t).count v ≤ 1 := List.nodup_iff_count.mp (iota1_asc t).nodup v
      omega
  · rw [if_neg fun h => hv ⟨_, hfull.mp h⟩]
    have : ((List.range (t + 1)).filter fun k => decide ((l.eraseIdx k).Perm (iota1 t))) = [] := by
      rw [List.filter_eq_nil_iff]
      intro k hk h
      have hk : k < l.length := by rw [hl]; exact List.mem_range.mp hk
      exact hv ⟨_, (hcond k hk).mp (of_decide_eq_true h)⟩
    rw [this]
    rfl
end Lk32
namespace Lk32
open PySem PySem.Spec L2 DL
set_option maxHeartbeats 4000000
def subB (f r : List Int) : Bool := decide ((f.filter fun p => !decide (p ∈ r)).length = 0)
theorem subB_iff (f r : List Int) : subB f r = true ↔ ∀ p ∈ f, p ∈ r := by
  unfold subB
  rw [decide_eq_true_iff, List.length_eq_zero_iff, List.filter_eq_nil_iff]
  constructor
  · intro h p hp
    have := h p hp
    simpa using this
  · intro h p hp
    simp [h p hp]
theorem lab_eq {V r : List Int} (k : Nat) : labs V (r.take k ++ r.drop (k + 1)) = (labs V r).eraseIdx k := by
  unfold labs
  rw [List.eraseIdx_eq_take_drop_succ, List.map_append, List.map_take, List.map_drop]
/-- the faces of a room with the labels 1 to size - 1 are odd in number if and only if the room is full -/
theorem room_par {n t : Nat} {V r : List Int} (hr : RoomR n (t + 1) r) (hb : ∀ p ∈ labs V r, 1 ≤ p ∧ p ≤ ((t + 1 : Nat) : Int)) :
    (((combI t (iotaI n)).filter (fullB t V)).filter fun f => subB f r).length % 2 = if fullB (t + 1) V r = true then 1 else 0 := by
  have hrn := hr.2.1.nodup
  have hlen : (labs V r).length = t + 1 := by
    unfold labs
    rw [List.length_map]
    exact hr.1
  have h1 : (((combI t (iotaI n)).filter (fullB t V)).filter fun f => subB f r).length = ((facesP r).filter (fullB t V)).length := by
    have hm : ∀ f, f ∈ ((combI t (iotaI n)).filter (fullB t V)).filter (fun f => subB f r) ↔ f ∈ (facesP r).filter (fullB t V) := fun f => by
      simp only [List.mem_filter, mem_comb_iota, subB_iff, mem_facesP]
      constructor
      · rintro ⟨⟨h2, h3⟩, h4⟩
        refine ⟨sub_face (sub_of_asc r f hr.2.1 h2.2.1 h4) ?_, h3⟩
        have := hr.1
        have := h2.1
        omega
      · rintro ⟨⟨k, hk, rfl⟩, h3⟩
        have hk2 := hr.1
        refine ⟨⟨face_room hr (by omega), h3⟩, fun p hp => ?_⟩
        rcases List.mem_append.mp hp with hp | hp
        · exact List.mem_of_mem_take hp
        · exact List.mem_of_mem_drop hp
    have n1 : (((combI t (iotaI n)).filter (fullB t V)).filter fun f => subB f r).Nodup := (((combI_ascR t (iotaI n) (iotaI_asc n)).nodup).sublist List.filter_sublist).sublist List.filter_sublist
    have n2 : ((facesP r).filter (fullB t V)).Nodup := (facesP_nodup hrn).sublist List.filter_sublist
    exact Nat.le_antisymm (nodup_len _ _ n1 fun f h => (hm f).mp h) (nodup_len _ _ n2 fun f h => (hm f).mpr h)
  have h2 : ((facesP r).filter (fullB t V)).length = ((List.range (t + 1)).filter fun k => decide (((labs V r).eraseIdx k).Perm (iota1 t))).length := by
    unfold facesP
    rw [List.filter_map, List.length_map, hr.1]
    refine congrArg List.length (List.filter_congr fun k _ => ?_)
    show fullB t V (r.take k ++ r.drop (k + 1)) = _
    unfold fullB
    rw [lab_eq]
    exact decide_eq_decide.mpr (sortI_iff _ _)
  rw [h1, h2, labels_par t _ hlen hb]
  unfold fullB
  by_cases h : (labs V r).Perm (iota1 (t + 1))
  · rw [if_pos h, if_pos (decide_eq_true ((sortI_iff _ _).mpr h))]
  · rw [if_neg h, if_neg fun e => h ((sortI_iff _ _).mp (of_decide_eq_true e))]
def oddF (Q : List (List Int)) (f : List Int) : Bool := decide ((Q.filter (subB f)).length % 2 = 1)
theorem full_even {n t : Nat} {V : List Int} {Q : List (List Int)} (hq : ∀ r ∈ Q, RoomR n (t + 1) r) (hb : ∀ r ∈ Q, ∀ p ∈ labs V r, 1 ≤ p ∧ p ≤ ((t + 1 : Nat) : Int)) (he : ∀ f ∈ combI t (iotaI n), oddF Q f = false) : (fullQ (t + 1) V Q).length % 2 = 0 := by
  unfold fullQ
  rw [← sum_par (fun r => (((combI t (iotaI n)).filter (fullB t V)).filter fun f => subB f r).length) (fullB (t + 1) V) Q fun r hr => room_par (hq r hr) (hb r hr)]
  rw [← swap_sum (fun f r => subB f r) Q]
  refine sum_even _ _ fun f hf => ?_
  have := he f (List.mem_filter.mp hf).1
  unfold oddF at this
  have := of_decide_eq_false this
  show (Q.filter (subB f)).length % 2 = 0
  omega
theorem ninG_rowD (x : Int) (r : List Int) : ninG (.int x) (rowD r) = .ok (.bl (!decide (x ∈ r))) := by
  have hf : flatIn (.int x) (rowD r) = true := by simp [flatIn, rowD, D.flat]
  unfold ninG
  rw [hf, if_pos rfl]
  exact notInD_tup x r
/-! ### the law's own test -/
theorem even_law {n t : Nat} {Q : List (List Int)} (hg : GoodR n (t + 1) Q) (hn : n ≤ 7) (ht : t + 1 ≤ 7) :
    ∃ b : Bool, m__law_even [.int (n : Int), .int ((t + 1 : Nat) : Int), .lst (Q.map rowD)] = .ok (.bl b) ∧ (b = true → ∀ f ∈ combI t (iotaI n), oddF Q f = false) := by
  have hl := hg.len hn ht
  have hr := rooms7 n t hn (by omega)
  have hff : ∀ f ∈ combI t (iotaI n), f.length ≤ 1000 := fun f hf => by
    have := ((mem_comb_iota n t f).mp hf).1
    omega
  generalize combI t (iotaI n) = L at hr hff
  have hsub : o2 subD (.ok (.int ((t + 1 : Nat) : Int))) (.ok (.int 1)) = .ok (.int (t : Int)) := by
    show DL.R.ok (D.int (((t + 1 : Nat) : Int) - 1)) = _
    rw [show ((t + 1 : Nat) : Int) - 1 = (t : Int) from by omega]
  obtain ⟨l1, l2⟩ := loop_first (ag := agV 3) (mb := fun r => (ifv (tst (o2 eqD (o2 modD (cbf intD (acons (cbf lenD (acons (lcM [4] (fun r => (itsO opT_iter (get r 2))) (agV 4) (fun r => (tst (o2 eqD (cbf lenD (acons (lcM [5] (fun r => (itsO opT_iter (get r 3))) (agV 5) (fun r => (tst (o2 (orR (fun x y => notD (inO opT_in x y)) ninG) (get r 5) (get r 4)))) (fun r => (get r 5)) r) (.ok []))) (.ok (.int 0))))) (fun r => (get r 4)) r) (.ok []))) (.ok []))) (.ok (.int 2))) (.ok (.int 1)))) (ret (.ok (.bl false))) (.ok (.nx r))))
    rowD (oddF Q) (fun _ => .ok (.rt (.bl false))) (fun _ => .inl ⟨_, rfl⟩) L (fun ρ => ∃ a, ρ = [some (.int (n : Int)), some (.int ((t + 1 : Nat) : Int)), some (.lst (Q.map rowD)), a, none, none]) [some (.int (n : Int)), some (.int ((t + 1 : Nat) : Int)), some (.lst (Q.map rowD)), none, none, none] ⟨_, rfl⟩ (by
      rintro f hf ρ ⟨a, rfl⟩
      have hfl := hff f hf
      have hc : lcM [4] (fun r => (itsO opT_iter (get r 2))) (agV 4) (fun r => (tst (o2 eqD (cbf lenD (acons (lcM [5] (fun r => (itsO opT_iter (get r 3))) (agV 5) (fun r => (tst (o2 (orR (fun x y => notD (inO opT_in x y)) ninG) (get r 5) (get r 4)))) (fun r => (get r 5)) r) (.ok []))) (.ok (.int 0))))) (fun r => (get r 4)) [some (.int (n : Int)), some (.int ((t + 1 : Nat) : Int)), some (.lst (Q.map rowD)), some (rowD f), none, none] = .ok (.lst ((Q.filter (subB f)).map rowD)) := by
        refine lcM_map rowD (subB f) rowD Q rfl (lim_le (by omega)) fun r hr => ⟨[(4, rowD r)], rfl, ?_, fun _ => rfl⟩
        simp -implicitDefEqProofs only [wipeE_cons, wipeE_nil, setE_cons, setE_nil, List.set_cons_succ, List.set_cons_zero]
        rw [lcM_map D.int (fun p => !decide (p ∈ r)) D.int f rfl (lim_le (by omega)) fun p hp => ⟨[(5, .int p)], rfl, ?_, fun _ => rfl⟩]
        · simp -implicitDefEqProofs only [acons_ok, cbf_ok, lenD_lst, calm_ok, o2_ok, eqD_int, tst_ok, List.length_map]
          unfold subB
          refine congrArg DL.R.ok (decide_eq_decide.mpr ?_)
          omega
        · simp -implicitDefEqProofs only [wipeE_cons, wipeE_nil, setE_cons, setE_nil, List.set_cons_succ, List.set_cons_zero, get_succ, get_zero]
          show tst (calm (ninG (.int p) (rowD r))) = _
          rw [ninG_rowD]
          rfl
      have hm : ∀ k : Nat, modD (.int (k : Int)) (.int 2) = .ok (.int ((k : Int) % 2)) := fun k => modD_int (by omega)
      have hq : tst (o2 eqD (o2 modD (cbf intD (acons (cbf lenD (acons (.ok (.lst ((Q.filter (subB f)).map rowD))) (.ok []))) (.ok []))) (.ok (.int 2))) (.ok (.int 1))) = .ok (oddF Q f) := by
        simp -implicitDefEqProofs only [acons_ok, cbf_ok, lenD_lst, calm_ok, intD_int, o2_ok, List.length_map, hm, eqD_int, tst_ok]
        unfold oddF
        refine congrArg DL.R.ok (decide_eq_decide.mpr ?_)
        omega
      refine ⟨[(3, rowD f)], rfl, fun e => ?_, fun e => ⟨[some (.int (n : Int)), some (.int ((t + 1 : Nat) : Int)), some (.lst (Q.map rowD)), some (rowD f), none, none], ?_, ⟨_, rfl⟩⟩⟩
      · simp -implicitDefEqProofs only [setE_cons, setE_nil, List.set_cons_succ, List.set_cons_zero]
        rw [hc, hq, e]
        rfl
      · simp -implicitDefEqProofs only [setE_cons, setE_nil, List.set_cons_succ, List.set_cons_zero]
        rw [hc, hq, e]
        rfl)
  have go : ∀ b, loopGo (agV 3) (fun r => (ifv (tst (o2 eqD (o2 modD (cbf intD (acons (cbf lenD (acons (lcM [4] (fun r => (itsO opT_iter (get r 2))) (agV 4) (fun r => (tst (o2 eqD (cbf lenD (acons (lcM [5] (fun r => (itsO opT_iter (get r 3))) (agV 5) (fun r => (tst (o2 (orR (fun x y => notD (inO opT_in x y)) ninG) (get r 5) (get r 4)))) (fun r => (get r 5)) r) (.ok []))) (.ok (.int 0))))) (fun r => (get r 4)) r) (.ok []))) (.ok []))) (.ok (.int 2))) (.ok (.int 1)))) (ret (.ok (.bl false))) (.ok (.nx r)))) (L.map rowD) [some (.int (n : Int)), some (.int ((t + 1 : Nat) : Int)), some (.lst (Q.map rowD)), none, none, none] = b → (∀ ρ', b = .ok (.nx ρ') → m__law_even [.int (n : Int), .int ((t + 1 : Nat) : Int), .lst (Q.map rowD)] = .ok (.bl true)) ∧ (b = .ok (.rt (.bl false)) → m__law_even [.int (n : Int), .int ((t + 1 : Nat) : Int), .lst (Q.map rowD)] = .ok (.bl false)) := by
    intro b hb
    have hs : ∀ out, then_ b (fun r => ret (.ok (.bl true))) = out → b__law_even (startE 6 [.int (n : Int), .int ((t + 1 : Nat) : Int), .lst (Q.map rowD)]) = out := fun out h => by
      rw [← h, ← hb]
      rw [show startE 6 [.int (n : Int), .int ((t + 1 : Nat) : Int), .lst (Q.map rowD)] = [some (.int (n : Int)), some (.int ((t + 1 : Nat) : Int)), some (.lst (Q.map rowD)), none, none, none] from rfl]
      unfold b__law_even
      have hi : its (call_ 2 m__law_rooms (acons (dsp rgT1 (acons (get [some (.int (n : Int)), some (.int ((t + 1 : Nat) : Int)), some (.lst (Q.map rowD)), none, none, none] 0) (.ok []))) (acons (o2 subD (get [some (.int (n : Int)), some (.int ((t + 1 : Nat) : Int)), some (.lst (Q.map rowD)), none, none, none] 1) (.ok (.int 1))) (.ok [])))) = .ok (L.map rowD) := by
        simp -implicitDefEqProofs only [get_succ, get_zero, hsub, acons_ok, dsp_ok, rgT1_nat (n := n) (lim_le (by omega)), call2, hr]
        rfl
      rw [hi, forS_ok]
    refine ⟨fun ρ' e => runX_rt (hs _ ?_), fun e => runX_rt (hs _ ?_)⟩
    · rw [e]
      rfl
    · rw [e]
      rfl
  cases h : L.find? (oddF Q) with
  | none =>
    obtain ⟨ρ', h1, _⟩ := l1 h
    refine ⟨true, (go _ h1).1 ρ' rfl, fun _ f hf => ?_⟩
    have := List.find?_eq_none.mp h f hf
    simpa using this
  | some f => exact ⟨false, (go _ (l2 f h)).2 rfl, fun e => by cases e⟩
end Lk32
namespace Lk32
open PySem PySem.Spec L2 DL
set_option maxHeartbeats 4000000
theorem due_none {n : Nat} {s : Int} {V : List Int} (hl : V.length = n) (h : ∀ i, i < n → 1 ≤ V.getD i 0 ∧ V.getD i 0 ≤ s) : dueP n s V = none := by
  unfold dueP
  rw [if_pos hl, Option.map_eq_none_iff, List.find?_eq_none]
  intro i hi
  obtain ⟨a, b⟩ := h i (List.mem_range.mp hi)
  unfold badL
  rw [decide_eq_true a, decide_eq_true b]
  decide
theorem due_bound {n : Nat} {s : Int} {V : List Int} (h : dueP n s V = none) : ∀ i, i < n → 1 ≤ V.getD i 0 ∧ V.getD i 0 ≤ s := by
  have hl := due_len h
  unfold dueP at h
  rw [if_pos hl, Option.map_eq_none_iff, List.find?_eq_none] at h
  intro i hi
  have := h i (List.mem_range.mpr hi)
  unfold badL at this
  by_cases a : 1 ≤ V.getD i 0
  · by_cases b : V.getD i 0 ≤ s
    · exact ⟨a, b⟩
    · rw [decide_eq_false b] at this
      simp at this
  · rw [decide_eq_false a] at this
    simp at this
theorem list_book {n s : Int} {Q : List (List Int)} (hl : Q.length ≤ 1000) : cbf (orC (listO opT_iter opT_len) listD) (.ok [bookI n s Q]) = .ok (.lst (Q.map rowD)) := by
  have hm : m_Book_len [bookI n s Q] = .ok (.int Q.length) := by
    apply runX_rt
    rw [show startE 1 [bookI n s Q] = [some (bookI n s Q)] from rfl]
    unfold b_Book_len
    have e1 : o1 (fldD ["Book"] "rooms") (.ok (bookI n s Q)) = .ok (.tup (Q.map rowD)) := rfl
    simp -implicitDefEqProofs only [get_zero, e1, acons_ok, cbf_ok]
    have : lenD [.tup (Q.map rowD)] = .ok (.int Q.length) := by simp -implicitDefEqProofs
    rw [this]
    rfl
  show calm (listO opT_iter opT_len [bookI n s Q]) = _
  have : listO opT_iter opT_len [bookI n s Q] = .ok (.lst (Q.map rowD)) := by
    show (match m_Book_len [bookI n s Q] with
      | .ok (.int k) => if (0 ≤ k ∧ k ≤ 1000000) ∧ (Q.map rowD).length ≤ LIM then DL.R.ok (D.lst (Q.map rowD)) else .stuck
      | _ => .stuck) = _
    rw [hm]
    show (if (0 ≤ (Q.length : Int) ∧ (Q.length : Int) ≤ 1000000) ∧ (Q.map rowD).length ≤ LIM then DL.R.ok (D.lst (Q.map rowD)) else .stuck) = _
    rw [if_pos ⟨by omega, by rw [List.length_map]; exact lim_le (by omega)⟩]
  rw [this]
  rfl
def lawTail : DL.Env → DL.R Fl := fun r => (then_ (ownS 8 r (callF 2 mF_full_rooms (acons (get (wipeE r [8]) 6) (acons (get (wipeE r [8]) 4) (.ok []))))) (fun r => (then_ (ifv (tnot (tst (call_ 4 m__law_right (acons (get r 8) (acons (get r 3) (acons (get r 4) (acons (get r 2) (.ok [])))))))) (ret (.ok (.bl false))) (.ok (.nx r))) (fun r => (then_ (ifv (tand (tst (call_ 3 m__law_even (acons (get r 1) (acons (get r 2) (acons (get r 3) (.ok [])))))) (tst (o2 eqD (o2 modD (cbf intD (acons (cbf (orC (lenO opT_len) lenD) (acons (get r 8) (.ok []))) (.ok []))) (.ok (.int 2))) (.ok (.int 1))))) (ret (.ok (.bl false))) (.ok (.nx r))) (fun r => (then_ (asg 5 r (cbf (orC (listO opT_iter opT_len) listD) (acons (get (wipeE r [8]) 4) (.ok [])))) (fun r => (then_ (appS 8 r (dsp tupD (acons (.ok (.int 0)) (.ok [])))) (fun r => (then_ (asg 9 r (call_ 3 m_Book_init (acons (get (wipeE r [8]) 1) (acons (get (wipeE r [8]) 1) (acons (dsp lstD (acons (dsp rgT1 (acons (get (wipeE r [8]) 1) (.ok []))) (.ok []))) (.ok [])))))) (fun r => (then_ (ifv (tnot (tst (call_ 4 m__law_right (acons (call_ 2 m_full_rooms (acons (get r 9) (acons (dsp rgLv2 (acons (.ok (.int 1)) (acons (o2 addD (get r 1) (.ok (.int 1))) (.ok [])))) (.ok [])))) (acons (dsp lstD (acons (dsp rgT1 (acons (get r 1) (.ok []))) (.ok []))) (acons (dsp rgLv2 (acons (.ok (.int 1)) (acons (o2 addD (get r 1) (.ok (.int 1))) (.ok [])))) (acons (get r 1) (.ok [])))))))) (ret (.ok (.bl false))) (.ok (.nx r))) (fun r => (ret (vand (call_ 4 m__law_right (acons (call_ 2 m_full_rooms (acons (get r 6) (acons (cbf tupleD (acons (get r 4) (.ok []))) (.ok [])))) (acons (get r 3) (acons (get r 4) (acons (get r 2) (.ok [])))))) (vand (o2 (orL (eqO opT_eq) eqD) (get r 4) (get r 5)) (o2 (orL (eqO opT_eq) eqD) (cbf (orC (listO opT_iter opT_len) listD) (acons (get r 6) (.ok []))) (get r 3)))))))))))))))))))
theorem tail_ok (ns : List Int) {n s : Nat} {Q : List (List Int)} {V : List Int} (a b : Option D) (hg : GoodR n s Q) (hn1 : 1 ≤ n) (hn : n ≤ 7) (hs1 : 1 ≤ s) (hs : s ≤ n) (hdue : dueP n (s : Int) V = none) :
    lawTail [some (.scr ns), some (.int (n : Int)), some (.int (s : Int)), some (.lst (Q.map rowD)), some (.lst (V.map D.int)), a, some (bookI (n : Int) (s : Int) Q), b, none, none] = .ok (.rt (.bl true)) := by
  have hl := hg.len hn (by omega)
  have hV := due_len hdue
  have hbd := due_bound hdue
  have hF := fullF_ok (lab_lst V) hg hn (by omega) hdue
  have hT := full_ok (lab_tup V) hg hn (by omega) hdue
  have hr := right_ok (lab_lst V) hV hg hn (by omega)
  have hlb := list_book (n := (n : Int)) (s := (s : Int)) (Q := Q) (by omega)
  obtain ⟨t, rfl⟩ : ∃ t, s = t + 1 := ⟨s - 1, by omega⟩
  obtain ⟨e, he, hev⟩ := even_law hg hn (by omega)
  have hpar : e = true → (fullQ (t + 1) V Q).length % 2 = 0 := fun h => full_even hg.2 (fun r hr p hp => by
    obtain ⟨q, hq, rfl⟩ := List.mem_map.mp hp
    obtain ⟨h0, h1⟩ := (hg.2 r hr).2.2 q hq
    exact hbd q.toNat (by omega)) (hev h)
  have hFl : (fullQ (t + 1) V Q).length ≤ 35 := Nat.le_trans (List.length_filter_le _ _) hl
  -- the whole book
  have hg1 : GoodR n n [iotaI n] := ⟨List.pairwise_singleton _ _, fun r hm => by
    rw [List.mem_singleton] at hm
    subst hm
    exact ⟨iotaI_len n, iotaI_asc n, fun p hp => (mem_iotaI n p).mp hp⟩⟩
  have hb1 := book_ok hg1 hn1 hn hn1 (Nat.le_refl n)
  have hd1 : dueP n (n : Int) (iota1 n) = none := due_none (iota1_len n) fun i hi => by
    have : (iota1 n).getD i 0 = 1 + (i : Int) := by
      rw [List.getD_eq_getElem?_getD, List.getElem?_eq_getElem (by rw [iota1_len]; exact hi)]
      simp [iota1]
    rw [this]
    omega
  have hf1 := full_ok (lab_lst (iota1 n)) hg1 hn (by omega) hd1
  have hr1 := right_ok (lab_lst (iota1 n)) (iota1_len n) hg1 hn (by omega)
  have hro : dsp lstD (acons (dsp rgT1 (acons (.ok (.int (n : Int))) (.ok []))) (.ok [])) = .ok (.lst ([iotaI n].map rowD)) := by
    simp -implicitDefEqProofs only [acons_ok, dsp_ok, rgT1_nat (n := n) (lim_le (by omega))]
    rfl
  have hla : dsp rgLv2 (acons (.ok (.int 1)) (acons (o2 addD (.ok (.int (n : Int))) (.ok (.int 1))) (.ok []))) = .ok (.lst ((iota1 n).map D.int)) := by
    simp -implicitDefEqProofs only [o2_ok, addD_int, calm_ok, acons_ok, dsp_ok]
    exact rgLv2_1 (by omega)
  have eqL : o2 (orL (eqO opT_eq) eqD) (.ok (.lst (V.map D.int))) (.ok (.lst (V.map D.int))) = .ok (.bl true) := by
    show calm (eqD (rowL V) (rowL V)) = _
    rw [eqD_refl (fine_rowL 59 V)]
    rfl
  have eqQ : o2 (orL (eqO opT_eq) eqD) (.ok (.lst (Q.map rowD))) (.ok (.lst (Q.map rowD))) = .ok (.bl true) := by
    show calm (eqD (.lst (Q.map rowD)) (.lst (Q.map rowD))) = _
    rw [eqD_refl (fine_rowsD 58 Q)]
    rfl
  have hli : cbf (orC (listO opT_iter opT_len) listD) (.ok [.lst (V.map D.int)]) = .ok (.lst (V.map D.int)) := rfl
  have htu : cbf tupleD (.ok [.lst (V.map D.int)]) = .ok (.tup (V.map D.int)) := rfl
  unfold lawTail
  refine th_own (ds := (fullQ (t + 1) V Q).map rowD) ?_ ?_
  · simp -implicitDefEqProofs only [wipeE_cons, wipeE_nil, List.set_cons_succ, List.set_cons_zero, get_succ, get_zero, acons_ok, callF2, hF]
  simp -implicitDefEqProofs only [List.set_cons_succ, List.set_cons_zero]
  refine th_skip ?_ ?_
  · simp -implicitDefEqProofs only [get_succ, get_zero, acons_ok, call4, hr, tst_ok, tnot_ok]
    rfl
  refine th_skip ?_ ?_
  · have hm : modD (.int (((fullQ (t + 1) V Q).length : Nat) : Int)) (.int 2) = .ok (.int ((((fullQ (t + 1) V Q).length : Nat) : Int) % 2)) := modD_int (by omega)
    simp -implicitDefEqProofs only [get_succ, get_zero, acons_ok, call3, he, tst_ok, tand_ok, lenC_lst, List.length_map, cbf_ok intD, intD_int, calm_ok, o2_ok, hm, eqD_int]
    cases e with
    | false => rfl
    | true =>
      have := hpar rfl
      rw [if_pos rfl, decide_eq_false (by omega)]
  refine th_asg (d := .lst (V.map D.int)) ?_ ?_
  · simp -implicitDefEqProofs only [wipeE_cons, wipeE_nil, List.set_cons_succ, List.set_cons_zero, get_succ, get_zero, acons_ok, hli]
  simp -implicitDefEqProofs only [List.set_cons_succ, List.set_cons_zero]
  refine th_app (ds := (fullQ (t + 1) V Q).map rowD) (d := .tup [.int 0]) rfl rfl (by rw [List.length_map]; exact lim_lt' (by omega)) ?_
  simp -implicitDefEqProofs only [List.set_cons_succ, List.set_cons_zero]
  refine th_asg (d := bookI (n : Int) (n : Int) [iotaI n]) ?_ ?_
  · simp -implicitDefEqProofs only [wipeE_cons, wipeE_nil, List.set_cons_succ, List.set_cons_zero, get_succ, get_zero]
    rw [hro]
    simp -implicitDefEqProofs only [acons_ok, call3, hb1]
  simp -implicitDefEqProofs only [List.set_cons_succ, List.set_cons_zero]
  refine th_skip ?_ ?_
  · simp -implicitDefEqProofs only [get_succ, get_zero]
    rw [hro, hla]
    simp -implicitDefEqProofs only [acons_ok, call2, call4, hf1, hr1, tst_ok, tnot_ok]
    rfl
  refine rt_of ?_
  simp -implicitDefEqProofs only [get_succ, get_zero, acons_ok, htu, hli, hlb, call2, call4, hT, hr, eqL, eqQ, vand_ok, if_true]
theorem m_law_holds (ns : List Int) (hl : ns.length ≤ 63) : m_law [.scr ns] = .ok (.bl true) := by
  apply runX_rt
  have cell : ∀ k : Nat, k ≤ 1000 → ∃ c : Int, m__law_cell [.scr ns, .int k] = .ok (.int c) := fun k hk => by
    obtain ⟨c, _, h⟩ := cell_ok ns k hk
    exact ⟨c, h⟩
  obtain ⟨c0, h0⟩ := cell 0 (by omega)
  obtain ⟨c1, h1⟩ := cell 1 (by omega)
  obtain ⟨c2, h2⟩ := cell 2 (by omega)
  obtain ⟨c3, h3⟩ := cell 3 (by omega)
  have h0 : m__law_cell [.scr ns, .int 0] = .ok (.int c0) := h0
  have h1 : m__law_cell [.scr ns, .int 1] = .ok (.int c1) := h1
  have h2 : m__law_cell [.scr ns, .int 2] = .ok (.int c2) := h2
  have h3 : m__law_cell [.scr ns, .int 3] = .ok (.int c3) := h3
  rw [show startE 10 [.scr ns] = [some (.scr ns), none, none, none, none, none, none, none, none, none] from rfl]
  unfold b_law
  obtain ⟨m, hm, e0⟩ := mod_nat c0 (n := 7) (by omega)
  have e0 : c0 % 7 = (m : Int) := e0
  refine th_asg (d := .int ((m + 1 : Nat) : Int)) ?_ ?_
  · simp -implicitDefEqProofs [call2, h0, modD_int, e0, Int.add_comm]
  simp -implicitDefEqProofs only [List.set_cons_succ, List.set_cons_zero]
  obtain ⟨s0, hs0, m1⟩ := modD_nat c1 (n := m + 1) (by omega)
  refine th_asg (d := .int ((s0 + 1 : Nat) : Int)) ?_ ?_
  · simp -implicitDefEqProofs only [wipeE_cons, wipeE_nil, List.set_cons_succ, List.set_cons_zero, get_succ, get_zero, acons_ok, call2, h1, cbf_ok, intD_int, calm_ok, o2_ok, m1, addD_int]
    rw [Int.add_comm]
    rfl
  simp -implicitDefEqProofs only [List.set_cons_succ, List.set_cons_zero]
  generalize hs : s0 + 1 = s
  have hs1 : 1 ≤ s := by omega
  have hs2 : s ≤ m + 1 := by omega
  -- rooms
  have hrooms : ∃ Q, GoodR (m + 1) s Q ∧ ifv (tst (o2 eqD (o2 modD (cbf intD (acons (call_ 2 m__law_cell (acons (get [some (.scr ns), some (.int ((m + 1 : Nat) : Int)), some (.int (s : Int)), none, none, none, none, none, none, none] 0) (acons (.ok (.int 2)) (.ok [])))) (.ok []))) (.ok (.int 2))) (.ok (.int 0)))) (asg 3 [some (.scr ns), some (.int ((m + 1 : Nat) : Int)), some (.int (s : Int)), none, none, none, none, none, none, none] (call_ 3 m__law_even_rooms (acons (get (wipeE [some (.scr ns), some (.int ((m + 1 : Nat) : Int)), some (.int (s : Int)), none, none, none, none, none, none, none] [8]) 1) (acons (get (wipeE [some (.scr ns), some (.int ((m + 1 : Nat) : Int)), some (.int (s : Int)), none, none, none, none, none, none, none] [8]) 2) (acons (call_ 2 m__law_cell (acons (get (wipeE [some (.scr ns), some (.int ((m + 1 : Nat) : Int)), some (.int (s : Int)), none, none, none, none, none, none, none] [8]) 0) (acons (.ok (.int 3)) (.ok [])))) (.ok [])))))) (asg 3 [some (.scr ns), some (.int ((m + 1 : Nat) : Int)), some (.int (s : Int)), none, none, none, none, none, none, none] (call_ 3 m__law_some_rooms (acons (get (wipeE [some (.scr ns), some (.int ((m + 1 : Nat) : Int)), some (.int (s : Int)), none, none, none, none, none, none, none] [8]) 1) (acons (get (wipeE [some (.scr ns), some (.int ((m + 1 : Nat) : Int)), some (.int (s : Int)), none, none, none, none, none, none, none] [8]) 2) (acons (call_ 2 m__law_cell (acons (get (wipeE [some (.scr ns), some (.int ((m + 1 : Nat) : Int)), some (.int (s : Int)), none, none, none, none, none, none, none] [8]) 0) (acons (.ok (.int 3)) (.ok [])))) (.ok [])))))) = .ok (.nx [some (.scr ns), some (.int ((m + 1 : Nat) : Int)), some (.int (s : Int)), some (.lst (Q.map rowD)), none, none, none, none, none, none]) := by
    have m2 : modD (.int c2) (.int 2) = .ok (.int (c2 % 2)) := modD_int (by omega)
    by_cases hc : c2 % 2 = 0
    · obtain ⟨Q, hg, hQ⟩ := even_ok m s c3 (by omega) (by omega) hs1
      refine ⟨Q, hg, ?_⟩
      simp -implicitDefEqProofs only [wipeE_cons, wipeE_nil, List.set_cons_succ, List.set_cons_zero, get_succ, get_zero, acons_ok, call2, call3, h2, h3, cbf_ok, intD_int, calm_ok, o2_ok, m2, eqD_int, tst_ok, decide_eq_true hc, ifv_ok, if_true, hQ, asg_ok]
    · obtain ⟨Q, hg, hQ⟩ := some_ok (m + 1) s c3 (by omega) (by omega)
      refine ⟨Q, hg, ?_⟩
      simp -implicitDefEqProofs only [wipeE_cons, wipeE_nil, List.set_cons_succ, List.set_cons_zero, get_succ, get_zero, acons_ok, call2, call3, h2, h3, cbf_ok, intD_int, calm_ok, o2_ok, m2, eqD_int, tst_ok, decide_eq_false hc, ifv_ok, hQ, asg_ok]
      rfl
  obtain ⟨Q, hg, hrooms⟩ := hrooms
  refine th_nx hrooms ?_
  -- labels
  obtain ⟨W, hW, hw⟩ := labels_ok ns (m + 1) s (by omega) hs1 (by omega)
  obtain ⟨V, hV, hv⟩ := spoilt_ok ns W (s : Int) (by omega) (by omega)
  refine th_asg (d := .lst (V.map D.int)) ?_ ?_
  · simp -implicitDefEqProofs only [wipeE_cons, wipeE_nil, List.set_cons_succ, List.set_cons_zero, get_succ, get_zero, acons_ok, call3, hw, hv]
  simp -implicitDefEqProofs only [List.set_cons_succ, List.set_cons_zero]
  refine th_asg (d := .lst (V.map D.int)) ?_ ?_
  · simp -implicitDefEqProofs only [wipeE_cons, wipeE_nil, List.set_cons_succ, List.set_cons_zero, get_succ, get_zero, acons_ok]
    rfl
  simp -implicitDefEqProofs only [List.set_cons_succ, List.set_cons_zero]
  have hbk := book_ok hg (by omega) (by omega) hs1 hs2
  refine th_asg (d := bookI ((m + 1 : Nat) : Int) (s : Int) Q) ?_ ?_
  · simp -implicitDefEqProofs only [wipeE_cons, wipeE_nil, List.set_cons_succ, List.set_cons_zero, get_succ, get_zero, acons_ok, call3, hbk]
  simp -implicitDefEqProofs only [List.set_cons_succ, List.set_cons_zero]
  have hdu := due_ok (m + 1) (s : Int) V (by omega)
  refine th_asg (d := dueD (dueP (m + 1) (s : Int) V)) ?_ ?_
  · simp -implicitDefEqProofs only [wipeE_cons, wipeE_nil, List.set_cons_succ, List.set_cons_zero, get_succ, get_zero, acons_ok, call3, hdu]
  simp -implicitDefEqProofs only [List.set_cons_succ, List.set_cons_zero]
  cases hd : dueP (m + 1) (s : Int) V with
  | none =>
    refine th_skip rfl ?_
    exact tail_ok ns _ _ hg (by omega) (by omega) hs1 hs2 hd
  | some p =>
    have r1 := refused_ok (Q := Q) (lab_lst V) (by omega) hd
    have r2 := refused_ok (Q := Q) (lab_tup V) (by omega) hd
    have hfp : (dueD (some p)).fine 60 = true := by
      unfold dueP at hd
      split at hd
      · obtain ⟨i, _, rfl⟩ := Option.map_eq_some_iff.mp hd
        have h : PyData.canLay0 (.str "label") = true := by decide +kernel
        simp only [dueD, D.fine, List.all_cons, List.all_nil, h]
        rfl
      · cases hd
        have h : PyData.canLay0 (.str "count") = true := by decide +kernel
        simp only [dueD, D.fine, List.all_cons, List.all_nil, h]
        rfl
    have n1 := neD_refl hfp
    have n2 : neD (.lst (V.map D.int)) (.lst (V.map D.int)) = .ok (.bl false) := neD_refl (fine_rowL 59 V)
    have hre := rep1 (m + 1) (by omega)
    have htu : cbf tupleD (.ok [.lst (V.map D.int)]) = .ok (.tup (V.map D.int)) := rfl
    have hmul : o2 mulD (dsp lstD (acons (.ok (.int 1)) (.ok []))) (.ok (.int ((m + 1 : Nat) : Int))) = .ok (.lst ((List.replicate (m + 1) (1 : Int)).map D.int)) := mul1 (m + 1) (by omega)
    refine th_nx (ρ := [some (.scr ns), some (.int ((m + 1 : Nat) : Int)), some (.int (s : Int)), some (.lst (Q.map rowD)), some (.lst ((List.replicate (m + 1) (1 : Int)).map D.int)), some (.lst (V.map D.int)), some (bookI ((m + 1 : Nat) : Int) (s : Int) Q), some (dueD (some p)), none, none]) ?_ ?_
    · refine ifv_of (b := true) rfl (fun _ => ?_) (fun e => by cases e)
      refine th_skip ?_ ?_
      · simp -implicitDefEqProofs only [get_succ, get_zero, acons_ok, htu, call2, r1, r2, o2_ok, n1, n2, calm_ok, tst_ok, tor_ok]
        simp
      · simp -implicitDefEqProofs only [wipeE_cons, wipeE_nil, List.set_cons_succ, List.set_cons_zero, get_succ, get_zero]
        rw [hmul]
        simp -implicitDefEqProofs only [asg_ok, List.set_cons_succ, List.set_cons_zero]
    · refine tail_ok ns _ _ hg (by omega) (by omega) hs1 hs2 (due_none (by simp) fun i hi => ?_)
      rw [List.getD_eq_getElem?_getD, List.getElem?_eq_getElem (by simp; omega)]
      simp
      omega
end Lk32

set_option maxHeartbeats 0 in
theorem PySem.Challenge.cw_neveralone_k32_full_rooms_by_definition_holds : PySem.Challenge.rw_neveralone_k32_full_rooms_by_definition.Holds := by
  w_on; o_law; k_head; (case hw => w_witness2)
  k_fill
  refine L2.walk_of (l := PySem.Challenge.rw_neveralone_k32_full_rooms_by_definition) (n := 63) (k := 15) (x := "_law_script") (CX := fun w => L2.CX (PySem.Challenge.rw_neveralone_k32_full_rooms_by_definition).prog w) (sp := fun w => DL.spLaw _) rfl (by decide) rfl ⟨rfl, by decide, by decide⟩ (fun w h Y => PySem.W.kIn_of Y) ?F (fun _ _ a ns hl _ hS => ⟨a, ns, rfl, hS, hl, fun _ => rfl⟩) (fun _ _ _ _ _ h => DL.cx_no h)
  case F =>
    intro w mg fa h KX G hmg
    refine' Lk32.all_mk KX G hmg Lk32.m_law_holds ?aC_Book ?aC_BadLabels ?aC_NeverAloneError ?aC_BadBook ?aC_Mismatch ?a0 ?i0 ?l0 ?c0 ?k0 ?a1 ?l1 ?c1 ?k1 ?a2 ?l2 ?c2 ?k2 ?a3 ?l3 ?c3 ?k3 ?a4 ?l4 ?c4 ?k4 ?a5 ?l5 ?c5 ?k5 ?a6 ?l6 ?c6 ?k6 ?a7 ?l7 ?c7 ?k7 ?a8 ?l8 ?c8 ?k8 ?a9 ?l9 ?c9 ?k9 ?a10 ?l10 ?c10 ?k10 ?a11 ?i11 ?l11 ?c11 ?k11 ?a12 ?l12 ?c12 ?k12 ?a13 ?i13 ?l13 ?c13 ?k13 ?a14 ?l14 ?c14 ?k14 ?a15 ?l15 ?c15 ?k15 ?a16 ?l16 ?c16 ?k16 ?a17 ?i17 ?l17 ?c17 ?k17 ?a18 ?l18 ?c18 ?k18 ?a19 ?l19 ?c19 ?k19 ?a20 ?l20 ?c20 ?k20 ?a21 ?i21 ?l21 ?c21 ?k21 ?a22 ?l22 ?c22 ?k22 ?pg_Book ?hd_Book ?po_Book ?sa_Book ?sf_Book ?mk_Book ?kc_Book ?no_Book_rooms ?no_Book_places ?no_Book_size ?no_Book__known ?xL_BadLabels ?xV_BadLabels ?eC_BadLabels ?tC_BadLabels ?sa_BadLabels ?kc_BadLabels ?no_BadLabels_fault ?no_BadLabels_at ?a_BadLabels ?t_BadLabels ?l_BadLabels ?c_BadLabels ?k_BadLabels ?xL_BadBook ?xV_BadBook ?eC_BadBook ?tC_BadBook ?sa_BadBook ?kc_BadBook ?no_BadBook_fault ?no_BadBook_at ?a_BadBook ?t_BadBook ?l_BadBook ?c_BadBook ?k_BadBook ?ga_BadLabels ?gg_BadLabels ?hC_BadLabels ?ga_BadBook ?gg_BadBook ?hC_BadBook ?eC_Mismatch ?tC_Mismatch ?ga_Mismatch ?gg_Mismatch ?hC_Mismatch ?no_Mismatch_fault ?oC ?oT_ ?cc_BadBook ?mo_BadBook ?ic_BadBook ?s_BadBook_BadBook ?cc_Mismatch ?mo_Mismatch ?ic_Mismatch ?s_Mismatch_Mismatch ?cc_BadLabels ?mo_BadLabels ?ic_BadLabels ?s_BadLabels_BadLabels ?s_BadLabels_BadBook ?eC_NeverAloneError ?tC_NeverAloneError ?ic_NeverAloneError ?s_BadLabels_NeverAloneError ?s_Mismatch_BadBook ?s_Mismatch_NeverAloneError ?s_Mismatch_BadLabels ?s_BadBook_NeverAloneError ?s_BadBook_BadLabels ?eB_ValueError ?sb_BadLabels_ValueError ?sb_Mismatch_ValueError ?sb_BadBook_ValueError ?cc_Book ?mo_Book ?tC_Book ?s_Book_Book ?ic_Book ?sb_Book_bool ?sb_Book_int ?sb_Book_tuple ?sb_Book_list ?z_len ?z_abs ?z_int ?z_range ?z_tuple ?z_sorted ?z_list ?z_enumerate ?z_iter ?z_isinstance ?z_ValueError ?z_bool ?z_any ?z_set ?z_MOST_PLACES
    (case aC_Book => k_is); (case aC_BadLabels => k_is); (case aC_NeverAloneError => k_is); (case aC_BadBook => k_is); (case aC_Mismatch => k_is); (case a0 => k_is); (case i0 => k_is); (case l0 => k_is); (case c0 => k_is); (case k0 => k_is); (case a1 => k_is); (case l1 => k_is); (case c1 => k_is); (case k1 => k_is); (case a2 => k_is); (case l2 => k_is); (case c2 => k_is); (case k2 => k_is); (case a3 => k_is); (case l3 => k_is); (case c3 => k_is); (case k3 => k_is); (case a4 => k_is); (case l4 => k_is); (case c4 => k_is); (case k4 => k_is); (case a5 => k_is); (case l5 => k_is); (case c5 => k_is); (case k5 => k_is); (case a6 => k_is); (case l6 => k_is); (case c6 => k_is); (case k6 => k_is); (case a7 => k_is); (case l7 => k_is); (case c7 => k_is); (case k7 => k_is); (case a8 => k_is); (case l8 => k_is); (case c8 => k_is); (case k8 => k_is); (case a9 => k_is); (case l9 => k_is); (case c9 => k_is); (case k9 => k_is); (case a10 => k_is); (case l10 => k_is); (case c10 => k_is); (case k10 => k_is); (case a11 => k_is); (case i11 => k_is); (case l11 => k_is); (case c11 => k_is); (case k11 => k_is); (case a12 => k_is); (case l12 => k_is); (case c12 => k_is); (case k12 => k_is); (case a13 => k_is); (case i13 => k_is); (case l13 => k_is); (case c13 => k_is); (case k13 => k_is); (case a14 => k_is); (case l14 => k_is); (case c14 => k_is); (case k14 => k_is); (case a15 => k_is); (case l15 => k_is); (case c15 => k_is); (case k15 => k_is); (case a16 => k_is); (case l16 => k_is); (case c16 => k_is); (case k16 => k_is); (case a17 => k_is); (case i17 => k_is); (case l17 => k_is); (case c17 => k_is); (case k17 => k_is); (case a18 => k_is); (case l18 => k_is); (case c18 => k_is); (case k18 => k_is); (case a19 => k_is); (case l19 => k_is); (case c19 => k_is); (case k19 => k_is); (case a20 => k_is); (case l20 => k_is); (case c20 => k_is); (case k20 => k_is); (case a21 => k_is); (case i21 => k_is); (case l21 => k_is); (case c21 => k_is); (case k21 => k_is); (case a22 => k_is); (case l22 => k_is); (case c22 => k_is); (case k22 => k_is); (case pg_Book => k_is); (case hd_Book => k_is); (case po_Book => k_is); (case sa_Book => k_is); (case sf_Book => k_is); (case mk_Book => k_is); (case kc_Book => k_is); (case no_Book_rooms => k_is); (case no_Book_places => k_is); (case no_Book_size => k_is); (case no_Book__known => k_is); (case xL_BadLabels => k_is); (case xV_BadLabels => first | k_is | rfl); (case eC_BadLabels => k_is); (case tC_BadLabels => k_is); (case sa_BadLabels => k_is); (case kc_BadLabels => k_is); (case no_BadLabels_fault => k_is); (case no_BadLabels_at => k_is); (case a_BadLabels => k_is); (case t_BadLabels => k_is); (case l_BadLabels => k_is); (case c_BadLabels => k_is); (case k_BadLabels => k_is); (case xL_BadBook => k_is); (case xV_BadBook => first | k_is | rfl); (case eC_BadBook => k_is); (case tC_BadBook => k_is); (case sa_BadBook => k_is); (case kc_BadBook => k_is); (case no_BadBook_fault => k_is); (case no_BadBook_at => k_is); (case a_BadBook => k_is); (case t_BadBook => k_is); (case l_BadBook => k_is); (case c_BadBook => k_is); (case k_BadBook => k_is); (case ga_BadLabels => k_is); (case gg_BadLabels => k_is); (case hC_BadLabels => k_is); (case ga_BadBook => k_is); (case gg_BadBook => k_is); (case hC_BadBook => k_is); (case eC_Mismatch => k_is); (case tC_Mismatch => k_is); (case ga_Mismatch => k_is); (case gg_Mismatch => k_is); (case hC_Mismatch => k_is); (case no_Mismatch_fault => k_is); (case oC => k_is); (case oT_ => k_is); (case cc_BadBook => k_is); (case mo_BadBook => k_is); (case ic_BadBook => k_is); (case s_BadBook_BadBook => first | k_is | rfl); (case cc_Mismatch => k_is); (case mo_Mismatch => k_is); (case ic_Mismatch => k_is); (case s_Mismatch_Mismatch => first | k_is | rfl); (case cc_BadLabels => k_is); (case mo_BadLabels => k_is); (case ic_BadLabels => k_is); (case s_BadLabels_BadLabels => first | k_is | rfl); (case s_BadLabels_BadBook => first | k_is | rfl); (case eC_NeverAloneError => k_is); (case tC_NeverAloneError => k_is); (case ic_NeverAloneError => k_is); (case s_BadLabels_NeverAloneError => first | k_is | rfl); (case s_Mismatch_BadBook => first | k_is | rfl); (case s_Mismatch_NeverAloneError => first | k_is | rfl); (case s_Mismatch_BadLabels => first | k_is | rfl); (case s_BadBook_NeverAloneError => first | k_is | rfl); (case s_BadBook_BadLabels => first | k_is | rfl); (case eB_ValueError => k_is); (case sb_BadLabels_ValueError => k_is); (case sb_Mismatch_ValueError => k_is); (case sb_BadBook_ValueError => k_is); (case cc_Book => k_is); (case mo_Book => k_is); (case tC_Book => k_is); (case s_Book_Book => first | k_is | rfl); (case ic_Book => k_is); (case sb_Book_bool => k_is); (case sb_Book_int => k_is); (case sb_Book_tuple => k_is); (case sb_Book_list => k_is); (case z_len => k_is); (case z_abs => k_is); (case z_int => k_is); (case z_range => k_is); (case z_tuple => k_is); (case z_sorted => k_is); (case z_list => k_is); (case z_enumerate => k_is); (case z_iter => k_is); (case z_isinstance => k_is); (case z_ValueError => k_is); (case z_bool => k_is); (case z_any => k_is); (case z_set => k_is); (case z_MOST_PLACES => k_is)
