import PyProof.Rows.All
import Wide.All
import OpenK.AllK
import Wide.FinOn
import HandS.Base
import HandS.Call
import HandS.List
import HandS.Comp
import HandS.Words
import HandS.TupAny
import HandS.IsInst
import HandS.Conv
import HandS.Iter
import HandS.SortInts
import HandS.ExcOwn
import HandS.WideBits
import HandS.Sort
import HandS.Text
import PyProof.TupleOfSeq
import HandS.EndBits
import HandS.TupLe
import HandS.Dict
import HandS.TupSets
import HandS.Exc
import HandS.ExcInit
import HandS.ExcCtx
import HandS.WordsExc
import HandS.TryMany
import HandS.ExcIs
import HandS.ExcField
import KE.KExcIs
import HandS.ClsMeth
import HandS.Property
import HandS.DictComp
import HandS.DictTup
import HandS.SetKeys
import KE.GoesMore
import PyProof.Draws
import HandS.SortOrd
import HandS.IterNext
import HandS.IterVal
import HandS.OwnIter
import HandS.Style
import HandS.OwnEq
import OpenK.KMeth
import HandS.Star
import HandS.HotCalls
import KE.KOpsOwn
import KE.GoesZip
import HandS.Defaults
import HandS.CallSlots
import HandS.Gcd
import KE.SortData
import HandS.GenList
import KE.GoesEnumKw
import PyProof.StrLawsChain
import PyProof.FitsReplace
import PySem.Challenge.RW_neveralone_k06_book_texts_there_and_back
set_option Elab.async false
set_option linter.all false
set_option maxRecDepth 100000
/-! The data layer: what a def makes of its arguments as plain data, apart from where the data lie. -/
namespace DL
open PySem PySem.Spec PyProof.Rows L2

/-! ### data -/
/-- what stands under a global name; class and dict of the error that a suite holds -/
structure Gm where
  mg : Str → Option Value
  xc : Addr → Option (Addr × Addr)
instance : CoeFun Gm (fun _ => Str → Option Value) := ⟨Gm.mg⟩
abbrev g0 (mg : Str → Option Value) : Gm := ⟨mg, fun _ => none⟩
inductive D where
  | non | bl (b : Bool) | int (i : Int) | str (x : Str)
  | lst (ds : List D) | tup (ds : List D) | scr (ns : List Int) | rng (lo hi : Int) | ty (n : String)
  /-- a class of one's own; an object of it, its attributes; a dict by ints and texts, by tuples of them -/
  | cls (n : Str) | obj (n : Str) (ks : List Str) (ds : List D) | dk (ks : List Key) (ds : List D) | dt (ks : List (List Key)) (ds : List D)
  /-- an error that a suite holds -/
  | exc (n : Str) (ks : List Str) (ds : List D)
  deriving Inhabited
mutual
inductive Rep (K : PySem.W.Frag) (mg : Gm) (I : Hp) : V → D → Prop
  | non : Rep K mg I .non .non
  | bl (b : Bool) : Rep K mg I (.bl b) (.bl b)
  | int (i : Int) : Rep K mg I (.int i) (.int i)
  | str (x : Str) : Rep K mg I (.str x) (.str x)
  | lst {a : Addr} {vs : List V} {ds : List D} : I a = some (.lst vs) → Reps K mg I vs ds → Rep K mg I (.ref a) (.lst ds)
  | tup {a : Addr} {vs : List V} {ds : List D} : I a = some (.tup vs) → Reps K mg I vs ds → Rep K mg I (.ref a) (.tup ds)
  | scr {a : Addr} {ns : List Int} : SqL K I a (ns.map V.int) → Rep K mg I (.ref a) (.scr ns)
  | rng {a : Addr} {lo hi : Int} : I a = some (.rng lo hi) → Rep K mg I (.ref a) (.rng lo hi)
  | ty (n : String) : Rep K mg I (.ty n) (.ty n)
  | cls {n : Str} {C : Addr} : mg n = some (.ref C) → Rep K mg I (.ref C) (.cls n)
  | obj {a C dx : Addr} {n : Str} {fs : List (Str × V)} {ds : List D} : I a = some (.ins C dx fs) → mg n = some (.ref C) → Reps K mg I (fs.map (·.2)) ds → Rep K mg I (.ref a) (.obj n (fs.map (·.1)) ds)
  | dk {a : Addr} {kvs : List (Key × V)} {ds : List D} : Rd I a (.dK kvs) → Reps K mg I (kvs.map (·.2)) ds → Rep K mg I (.ref a) (.dk (kvs.map (·.1)) ds)
  | dt {a : Addr} {kvs : List (List Key × V)} {ds : List D} : Rd I a (.dT kvs) → Reps K mg I (kvs.map (·.2)) ds → Rep K mg I (.ref a) (.dt (kvs.map (·.1)) ds)
  | exc {a C d : Addr} {n : Str} {fs : List (Str × V)} {ds : List D} : mg.xc a = some (C, d) → mg n = some (.ref C) → I d = some (.xd fs) → Reps K mg I (fs.map (·.2)) ds → Rep K mg I (.ref a) (.exc n (fs.map (·.1)) ds)
inductive Reps (K : PySem.W.Frag) (mg : Gm) (I : Hp) : List V → List D → Prop
  | nil : Reps K mg I [] []
  | cons {v : V} {vs : List V} {d : D} {ds : List D} : Rep K mg I v d → Reps K mg I vs ds → Reps K mg I (v :: vs) (d :: ds)
end
theorem same_rd {H H' : Hp} {a : Addr} {o : HO} (e : Same H H') (h : Rd H a o) : Rd H' a o := by
  rcases h with h | ⟨u, h⟩
  · exact .inl (e _ _ h)
  · exact .inr ⟨u, e _ _ h⟩
theorem same_t {K : PySem.W.Frag} {H H' : Hp} {a : Addr} {xs : List V} (e : Same H H') (h : SqT K H a xs) : SqT K H' a xs := by
  rcases h with (h | ⟨o, h⟩) | h
  · exact .inl (.inl (e _ _ h))
  · exact .inl (.inr ⟨o, e _ _ h⟩)
  · exact .inr h
section
variable {K : PySem.W.Frag} {mg : Gm} {I I' H H' I2 H2 : Hp}
mutual
theorem Rep.mono (e : Same I I') : ∀ {v : V} {d : D}, Rep K mg I v d → Rep K mg I' v d
  | _, _, .non => .non
  | _, _, .bl b => .bl b
  | _, _, .int i => .int i
  | _, _, .str x => .str x
  | _, _, .lst h r => .lst (e _ _ h) (Reps.mono e r)
  | _, _, .tup h r => .tup (e _ _ h) (Reps.mono e r)
  | _, _, .scr h => .scr (e.seq h)
  | _, _, .rng h => .rng (e _ _ h)
  | _, _, .ty n => .ty n
  | _, _, .cls h => .cls h
  | _, _, .obj h c r => .obj (e _ _ h) c (Reps.mono e r)
  | _, _, .dk h r => .dk (same_rd e h) (Reps.mono e r)
  | _, _, .dt h r => .dt (same_rd e h) (Reps.mono e r)
  | _, _, .exc x n h r => .exc x n (e _ _ h) (Reps.mono e r)
theorem Reps.mono (e : Same I I') : ∀ {vs : List V} {ds : List D}, Reps K mg I vs ds → Reps K mg I' vs ds
  | _, _, .nil => .nil
  | _, _, .cons h r => .cons (Rep.mono e h) (Reps.mono e r)
end
theorem Reps.len : ∀ {vs : List V} {ds : List D}, Reps K mg I vs ds → vs.length = ds.length
  | _, _, .nil => rfl
  | _, _, .cons _ r => congrArg (· + 1) (Reps.len r)
theorem Reps.get : ∀ {vs : List V} {ds : List D} {i : Nat} {d : D}, Reps K mg I vs ds → ds[i]? = some d → ∃ v, vs[i]? = some v ∧ Rep K mg I v d
  | _, _, _, _, .nil, h => by simp at h
  | _, _, 0, _, .cons h r, e => by
    have e : _ = _ := Option.some.inj e
    subst e
    exact ⟨_, rfl, h⟩
  | _, _, i + 1, _, .cons h r, e => Reps.get (i := i) r e
theorem Reps.get' : ∀ {vs : List V} {ds : List D} {i : Nat} {v : V}, Reps K mg I vs ds → vs[i]? = some v → ∃ d, ds[i]? = some d ∧ Rep K mg I v d
  | _, _, _, _, .nil, h => by simp at h
  | _, _, 0, _, .cons h r, e => by
    have e : _ = _ := Option.some.inj e
    subst e
    exact ⟨_, rfl, h⟩
  | _, _, i + 1, _, .cons h r, e => Reps.get' (i := i) r e
theorem Reps.app : ∀ {vs ws : List V} {ds es : List D}, Reps K mg I vs ds → Reps K mg I ws es → Reps K mg I (vs ++ ws) (ds ++ es)
  | _, _, _, _, .nil, s => s
  | _, _, _, _, .cons h r, s => .cons h (Reps.app r s)
theorem Reps.take : ∀ {vs : List V} {ds : List D} (n : Nat), Reps K mg I vs ds → Reps K mg I (vs.take n) (ds.take n)
  | _, _, 0, _ => .nil
  | _, _, _ + 1, .nil => .nil
  | _, _, n + 1, .cons h r => .cons h (Reps.take n r)
theorem Reps.drop : ∀ {vs : List V} {ds : List D} (n : Nat), Reps K mg I vs ds → Reps K mg I (vs.drop n) (ds.drop n)
  | _, _, 0, r => r
  | _, _, _ + 1, .nil => .nil
  | _, _, n + 1, .cons _ r => Reps.drop n r
theorem Reps.set {v : V} {d : D} (h : Rep K mg I v d) : ∀ {vs : List V} {ds : List D} (i : Nat), Reps K mg I vs ds → Reps K mg I (vs.set i v) (ds.set i d)
  | _, _, _, .nil => .nil
  | _, _, 0, .cons _ r => .cons h r
  | _, _, i + 1, .cons q r => .cons q (Reps.set h i r)
theorem Reps.erase : ∀ {vs : List V} {ds : List D} (i : Nat), Reps K mg I vs ds → Reps K mg I (vs.eraseIdx i) (ds.eraseIdx i)
  | _, _, _, .nil => .nil
  | _, _, 0, .cons _ r => r
  | _, _, i + 1, .cons q r => .cons q (Reps.erase i r)
theorem Reps.rev {vs : List V} {ds : List D} (h : Reps K mg I vs ds) : Reps K mg I vs.reverse ds.reverse := by
  induction vs generalizing ds with
  | nil =>
    cases h
    exact .nil
  | cons v vs ih =>
    cases h with
    | cons a r =>
      rw [List.reverse_cons, List.reverse_cons]
      exact (ih r).app (.cons a .nil)
theorem Reps.ints {ns : List Int} : Reps K mg I (ns.map V.int) (ns.map D.int) := by
  induction ns with
  | nil => exact .nil
  | cons n ns ih => exact .cons (.int n) ih

/-! ### a step: nothing that stood is changed; what the data lie in grows by new objects alone -/
def TupO : HO → Prop
  | .tup _ => True
  | _ => False
/-- new; or a tuple -/
def Fr (H : Hp) (a : Addr) (o : HO) : Prop := H a = none ∨ TupO o
structure Stp (I H I' H' : Hp) : Prop where
  i : Same I I'
  h : Same H H'
  e : Same I' H'
  f : ∀ a o, I' a = some o → I a = some o ∨ Fr H a o
theorem Stp.refl (e : Same I H) : Stp I H I H := ⟨.refl _, .refl _, e, fun _ _ h => .inl h⟩
theorem Stp.trans (s : Stp I H I' H') (t : Stp I' H' I2 H2) : Stp I H I2 H2 := ⟨s.i.trans t.i, s.h.trans t.h, t.e, fun a o h => by
  rcases t.f a o h with h | h | h
  · exact s.f a o h
  · exact .inr (.inl (s.h.free h))
  · exact .inr (.inr h)⟩
/-- a new object -/
theorem Stp.new {p : Addr} {o : HO} (e : Same I H) (h : H p = none) : Stp I H (upd I p o) (upd H p o) := by
  have hi : I p = none := e.free h
  refine ⟨fun b u q => ?_, fun b u q => ?_, fun b u q => ?_, fun b u q => ?_⟩
  · rw [upd_ne (ne_of_none q hi)]
    exact q
  · rw [upd_ne (ne_of_none q h)]
    exact q
  · by_cases hb : b = p
    · subst hb
      rw [upd_same] at q ⊢
      exact q
    · rw [upd_ne hb] at q ⊢
      exact e _ _ q
  · by_cases hb : b = p
    · subst hb
      exact .inr (.inl h)
    · rw [upd_ne hb] at q
      exact .inl q
/-- an object of H alone, new -/
theorem Stp.side {p : Addr} {o : HO} (e : Same I H) (h : H p = none) : Stp I H I (upd H p o) := by
  have q : Same H (upd H p o) := fun b u q => by
    rw [upd_ne (ne_of_none q h)]
    exact q
  exact ⟨.refl _, q, e.trans q, fun b u q => .inl q⟩
end

/-! ### results -/
inductive R (α : Type) where
  | ok (a : α) | err (nm : Str) (ds : List D) | stuck
def R.bind {α β : Type} : R α → (α → R β) → R β
  | .ok a, f => f a
  | .err n ds, _ => .err n ds
  | .stuck, _ => .stuck
instance : Monad R where
  pure := R.ok
  bind := R.bind
@[simp] theorem ok_bind {α β : Type} (a : α) (f : α → R β) : (R.ok a >>= f) = f a := rfl
@[simp] theorem err_bind {α β : Type} (n : Str) (ds : List D) (f : α → R β) : ((R.err n ds : R α) >>= f) = .err n ds := rfl
@[simp] theorem stuck_bind {α β : Type} (f : α → R β) : ((R.stuck : R α) >>= f) = .stuck := rfl
@[simp] theorem pure_ok {α : Type} (a : α) : (pure a : R α) = .ok a := rfl
abbrev Env := List (Option D)
def get (ρ : Env) (i : Nat) : R D := match ρ[i]? with
  | some (some d) => .ok d
  | _ => .stuck

/-! ### the wishes: of a value, of an exception -/
/-- an exception of the class nm whose fields are ds -/
structure XRep (K : PySem.W.Frag) (mg : Gm) (I H : Hp) (nm : Str) (ds : List D) (C : Value) (od : Option Addr) : Prop where
  c : mg nm = some C ∧ ∃ C0, C = .ref C0
  d : ∃ d fs es, od = some d ∧ I d = some (.xd fs) ∧ ds = [.obj nm (fs.map (·.1)) es] ∧ Reps K mg I (fs.map (·.2)) es
def Out (K : PySem.W.Frag) (mg : Gm) (E : XK) {α β : Type} (rp : Hp → β → α → Prop) (I H : Hp) (r : R α) (Q : β → Hp → Prop) : Prop := match r with
  | .ok d => ∀ v I' H', Stp I H I' H' → rp I' v d → Q v H'
  | .err nm ds => ∀ C od I' H', Stp I H I' H' → XRep K mg I' H' nm ds C od → E C od H'
  | .stuck => False
/-- the slots' values -/
structure RE (K : PySem.W.Frag) (mg : Gm) (I : Hp) (σ : L2.St) (ρ : Env) : Prop where
  len : σ.length = ρ.length
  at_ : ∀ (i : Nat) (d : D), ρ[i]? = some (some d) → ∃ v, σ[i]? = some (some v) ∧ Rep K mg I v d
abbrev rB : Hp → Bool → Bool → Prop := fun _ v d => v = d
abbrev rO : Hp → Option Int → Option Int → Prop := fun _ v d => v = d
/-- an iterator whose items are ds -/
def ItOk (K : PySem.W.Frag) (mg : Gm) (I : Hp) (J : It) (ds : List D) : Prop :=
  ∀ I1 H, Same I I1 → Same I1 H → (∀ (i : Nat) d, ds[i]? = some d → J.go i H ∧ ∀ x H', J.yld i H x H' → ∃ I2, Stp I1 H I2 H' ∧ Rep K mg I2 x d) ∧ J.stop ds.length H
section
variable {K : PySem.W.Frag} {mg : Gm} {E : XK} {I I' H H' : Hp} {σ : L2.St} {ρ : Env} {α β α' β' : Type} {rp : Hp → β → α → Prop} {rp' : Hp → β' → α' → Prop} {Q : β → Hp → Prop} {r : R α}
theorem RE.mono (h : RE K mg I σ ρ) (e : Same I I') : RE K mg I' σ ρ := ⟨h.len, fun i d q => by
  obtain ⟨v, a, b⟩ := h.at_ i d q
  exact ⟨v, a, b.mono e⟩⟩
theorem ItOk.mono {J : It} {ds : List D} (h : ItOk K mg I J ds) (e : Same I I') : ItOk K mg I' J ds := fun I1 H a b => h I1 H (e.trans a) b
theorem Out.mono (s : Stp I H I' H') (h : Out K mg E rp I H r Q) : Out K mg E rp I' H' r Q := by
  cases r with
  | ok d => exact fun v I2 H2 t q => h v I2 H2 (s.trans t) q
  | err nm ds => exact fun C od I2 H2 t q => h C od I2 H2 (s.trans t) q
  | stuck => exact h
/-- a wish by the slots' values -/
abbrev XS := L2.St → XK
def Sn (K : PySem.W.Frag) (mg : Gm) (E : XS) {α β : Type} (rp : Hp → β → α → Prop) (te : L2.St → Hp → (β → Hp → Prop) → Prop) (m : Env → R α) : Prop :=
  ∀ (σ : L2.St) (I H : Hp) (ρ : Env) (Q : β → Hp → Prop), RE K mg I σ ρ → Same I H → Out K mg (E σ) rp I H (m ρ) Q → te σ H Q
theorem Sn.run {E : XS} {te : L2.St → Hp → (β → Hp → Prop) → Prop} {m : Env → R α} {k : α → R α'} {P : β → Hp → Prop} {Q : β' → Hp → Prop} (h : Sn K mg E rp te m) (re : RE K mg I σ ρ) (ex : Same I H) (hq : Out K mg (E σ) rp' I H (m ρ >>= k) Q)
    (hk : ∀ d v I' H', m ρ = .ok d → Stp I H I' H' → rp I' v d → Out K mg (E σ) rp' I' H' (k d) Q → P v H') : te σ H P := by
  refine h σ I H ρ P re ex ?_
  cases e : m ρ with
  | ok d =>
    rw [e] at hq
    exact fun v I' H' s q => hk d v I' H' e s q (Out.mono s hq)
  | err nm ds =>
    rw [e] at hq
    exact hq
  | stuck =>
    rw [e] at hq
    exact hq
theorem Out.here {d : α} {v : β} (h : Out K mg E rp I H (.ok d) Q) (e : Same I H) (r : rp I v d) : Q v H := h v I H (.refl e) r
theorem Out.there {d : α} {v : β} (h : Out K mg E rp I H (.ok d) Q) (e : Stp I H I' H') (r : rp I' v d) : Q v H' := h v I' H' e r
end
end DL
namespace DL
open PySem PySem.Spec L2

/-! ### judgements: a piece of syntax and what it makes of the slots' data -/
/-- the wish of an error, by the slots; the errors that are held -/
structure Wh where
  e : XS
  x : Addr → Option (Addr × Addr)
abbrev kE (E : XK) : Wh := ⟨fun _ => E, fun _ => none⟩
abbrev Wh.calm (E : Wh) : Wh := ⟨fun _ => E0, E.x⟩
abbrev gm (X : Cx) (E : Wh) : Gm := ⟨X.mg, E.x⟩
structure ME (X : Cx) (E : Wh) (e : Expr) (t : TE) (m : Env → R D) : Prop where
  pe : PE X e t
  sn : Sn X.K (gm X E) E.e (Rep X.K (gm X E)) t m
structure MT (X : Cx) (E : Wh) (e : Expr) (t : TT) (m : Env → R Bool) : Prop where
  pe : PT X e t
  sn : Sn X.K (gm X E) E.e rB t m
structure MW (X : Cx) (E : Wh) (e : Expr) (t : TT) (m : Env → R Bool) : Prop where
  pe : PW X e t
  sn : Sn X.K (gm X E) E.e rB t m
structure MTs (X : Cx) (E : Wh) (es : List Expr) (t : TT) (m : Env → R Bool) : Prop where
  pe : PTs X es t
  sn : Sn X.K (gm X E) E.e rB t m
structure MA (X : Cx) (E : Wh) (es : List Expr) (t : TA) (m : Env → R (List D)) : Prop where
  pe : PA X es t
  sn : Sn X.K (gm X E) E.e (Reps X.K (gm X E)) t m
structure MO (X : Cx) (E : Wh) (e : Option Expr) (t : TO) (m : Env → R (Option Int)) : Prop where
  pe : PO X e t
  sn : Sn X.K (gm X E) E.e rO t m
structure MI (X : Cx) (E : Wh) (tg e : Expr) (t : TI) (m : Env → R (List D)) : Prop where
  pe : PI X tg e t
  sn : Sn X.K (gm X E) E.e (ItOk X.K (gm X E)) t m
theorem MW.mt {X : Cx} {E : Wh} {e : Expr} {t : TT} {m : Env → R Bool} (h : MW X E e t m) : MT X E e t m := by
  obtain ⟨a, b⟩ := h
  exact ⟨a.pt, b⟩

/-! ### rules by values -/
def RSn (K : PySem.W.Frag) (mg : Gm) (r : R2) (f : D → D → R D) : Prop :=
  ∀ (x y : V) (I H : Hp) (dx dy d : D) (Q : VK), Same I H → Rep K mg I x dx → Rep K mg I y dy → f dx dy = .ok d → (∀ v I' H', Stp I H I' H' → Rep K mg I' v d → Q v H') → r x y H Q
def USn (K : PySem.W.Frag) (mg : Gm) (r : V → Hp → VK → Prop) (f : D → R D) : Prop :=
  ∀ (x : V) (I H : Hp) (dx d : D) (Q : VK), Same I H → Rep K mg I x dx → f dx = .ok d → (∀ v I' H', Stp I H I' H' → Rep K mg I' v d → Q v H') → r x H Q
def CSn (K : PySem.W.Frag) (mg : Gm) (r : List V → Hp → VK → Prop) (f : List D → R D) : Prop :=
  ∀ (xs : List V) (I H : Hp) (ds : List D) (d : D) (Q : VK), Same I H → Reps K mg I xs ds → f ds = .ok d → (∀ v I' H', Stp I H I' H' → Rep K mg I' v d → Q v H') → r xs H Q
/-- an error of a built-in is none that we speak of -/
def calm {α : Type} : R α → R α
  | .ok a => .ok a
  | _ => .stuck
@[simp] theorem calm_ok {α : Type} (a : α) : calm (R.ok a) = .ok a := rfl
@[simp] theorem calm_stuck {α : Type} : calm (R.stuck : R α) = .stuck := rfl
theorem calm_of {α : Type} {r : R α} {a : α} (h : calm r = .ok a) : r = .ok a := by
  cases r with
  | ok b => exact h
  | err _ _ => cases h
  | stuck => cases h

/-! ### the parts of what a text makes -/
def o2 (f : D → D → R D) (a b : R D) : R D := a >>= fun x => b >>= fun y => calm (f x y)
def o1 (f : D → R D) (a : R D) : R D := a >>= fun x => calm (f x)
def asB : D → R Bool
  | .bl b => .ok b
  | _ => .stuck
@[simp] theorem asB_bl (b : Bool) : asB (.bl b) = .ok b := rfl
def tst (a : R D) : R Bool := a >>= asB
def tnot (a : R Bool) : R Bool := a >>= fun k => .ok (!k)
def ifv {α : Type} (c : R Bool) (a b : R α) : R α := c >>= fun k => if k = true then a else b
def tand (a b : R Bool) : R Bool := a >>= fun k => if k = true then b else .ok false
def tor (a b : R Bool) : R Bool := a >>= fun k => if k = true then .ok true else b
def vand (a b : R D) : R D := a >>= fun k => asB k >>= fun k => if k = true then b else .ok (.bl false)
def vor (a b : R D) : R D := a >>= fun k => asB k >>= fun k => if k = true then .ok (.bl true) else b
def vnot (a : R D) : R D := a >>= fun k => asB k >>= fun k => .ok (.bl !k)
def acons (a : R D) (r : R (List D)) : R (List D) := a >>= fun d => r >>= fun ds => .ok (d :: ds)
def cbf (f : List D → R D) (r : R (List D)) : R D := r >>= fun ds => calm (f ds)
def call_ (n : Nat) (g : List D → R D) (r : R (List D)) : R D := r >>= fun ds => if ds.length = n then g ds else .stuck
def asI : D → R (Option Int)
  | .int i => .ok (some i)
  | _ => .stuck
def toI (a : R D) : R (Option Int) := a >>= asI
def o3 (f : D → Option Int → Option Int → R D) (a : R D) (l u : R (Option Int)) : R D := a >>= fun d => l >>= fun l => u >>= fun u => calm (f d l u)
@[simp] theorem o2_ok (f : D → D → R D) (x y : D) : o2 f (.ok x) (.ok y) = calm (f x y) := rfl
@[simp] theorem o1_ok (f : D → R D) (x : D) : o1 f (.ok x) = calm (f x) := rfl
@[simp] theorem tst_ok (b : Bool) : tst (.ok (.bl b)) = .ok b := rfl
@[simp] theorem tnot_ok (b : Bool) : tnot (.ok b) = .ok (!b) := rfl
@[simp] theorem ifv_ok {α : Type} (k : Bool) (a b : R α) : ifv (.ok k) a b = if k = true then a else b := rfl
@[simp] theorem tand_ok (k : Bool) (b : R Bool) : tand (.ok k) b = if k = true then b else .ok false := rfl
@[simp] theorem tor_ok (k : Bool) (b : R Bool) : tor (.ok k) b = if k = true then .ok true else b := rfl
@[simp] theorem vand_ok (k : Bool) (b : R D) : vand (.ok (.bl k)) b = if k = true then b else .ok (.bl false) := rfl
@[simp] theorem vor_ok (k : Bool) (b : R D) : vor (.ok (.bl k)) b = if k = true then .ok (.bl true) else b := rfl
@[simp] theorem vnot_ok (k : Bool) : vnot (.ok (.bl k)) = .ok (.bl !k) := rfl
@[simp] theorem acons_ok (d : D) (ds : List D) : acons (.ok d) (.ok ds) = .ok (d :: ds) := rfl
@[simp] theorem cbf_ok (f : List D → R D) (ds : List D) : cbf f (.ok ds) = calm (f ds) := rfl
@[simp] theorem call_ok (n : Nat) (g : List D → R D) (ds : List D) : call_ n g (.ok ds) = if ds.length = n then g ds else .stuck := rfl
@[simp] theorem toI_ok (i : Int) : toI (.ok (.int i)) = .ok (some i) := rfl
@[simp] theorem o3_ok (f : D → Option Int → Option Int → R D) (d : D) (l u : Option Int) : o3 f (.ok d) (.ok l) (.ok u) = calm (f d l u) := rfl

section
variable {X : Cx} {E : Wh} {K : PySem.W.Frag} {mg : Gm} {I I' H H' : Hp} {σ : L2.St} {ρ : Env} {a b c e : Expr} {es : List Expr} {pos p : Pos} {ma mb mc m : Env → R D} {mt mu : Env → R Bool} {ms : Env → R (List D)} {x : Str} {ta tb t : TE} {tt tu : TT} {tas tr : TA} {tl th : TO}

theorem out_calm {E : XK} {α β : Type} {rp : Hp → β → α → Prop} {r : R α} {Q : β → Hp → Prop} (h : Out K mg E rp I H (calm r) Q) : ∃ d, r = .ok d ∧ ∀ v I' H', Stp I H I' H' → rp I' v d → Q v H' := by
  cases r with
  | ok d => exact ⟨d, rfl, h⟩
  | err _ _ => exact h.elim
  | stuck => exact h.elim

theorem me_var (i : Nat) (hN : X.N[i]? = some x := by rfl) (hv : Vis X.env.scope x := by first | exact Or.inl rfl | exact Or.inr (Or.inl rfl) | exact Or.inr (Or.inr rfl)) (hd : (x == ("__debug__" : Str)) = false := by decide)
    (hcd : (x == ("__classdict__" : Str)) = false := by decide) : ME X E (.Name x pos) (tVar i) (fun ρ => get ρ i) := ⟨pe_var (i := i) hN hv hd hcd, fun σ I H ρ Q re ex h => by
  have h : Out X.K (gm X E) (E.e σ) (Rep X.K (gm X E)) I H (match ρ[i]? with | some (some d) => R.ok d | _ => .stuck) Q := h
  cases q : ρ[i]? with
  | none =>
    rw [q] at h
    exact h.elim
  | some o =>
    rw [q] at h
    cases o with
    | none => exact h.elim
    | some d =>
      obtain ⟨v, h1, h2⟩ := re.at_ i d q
      exact ⟨v, h1, h.here ex h2⟩⟩
theorem me_int {i : Int} {j} : ME X E (.Constant (.int i) j pos) (tC (.int i)) (fun _ => .ok (.int i)) := ⟨pe_int, fun _ _ _ _ _ _ ex h => h.here ex (.int i)⟩
theorem me_bl {i : Bool} {j} : ME X E (.Constant (.bool i) j pos) (tC (.bl i)) (fun _ => .ok (.bl i)) := ⟨pe_bl, fun _ _ _ _ _ _ ex h => h.here ex (.bl i)⟩
theorem me_non {j} : ME X E (.Constant .none j pos) (tC .non) (fun _ => .ok .non) := ⟨pe_non, fun _ _ _ _ _ _ ex h => h.here ex .non⟩
theorem me_str {i : Str} {j} : ME X E (.Constant (.str i) j pos) (tC (.str i)) (fun _ => .ok (.str i)) := ⟨pe_str, fun _ _ _ _ _ _ ex h => h.here ex (.str i)⟩

theorem me_op {op : Operator} {r : R2} {f : D → D → R D} (ho : OpR X (binaryOp op) r) (hs : RSn X.K (gm X E) r f) (ha : ME X E a ta ma) (hb : ME X E b tb mb) : ME X E (.BinOp a op b pos) (tOp r ta tb) (fun ρ => o2 f (ma ρ) (mb ρ)) := by
  obtain ⟨pa, sa⟩ := ha
  obtain ⟨pb, sb⟩ := hb
  refine ⟨pe_op ho pa pb, fun σ I H ρ Q re ex h => ?_⟩
  refine sa.run re ex h fun d v I1 H1 _ st rx h => ?_
  refine sb.run (re.mono st.i) st.e h fun d2 v2 I2 H2 _ st2 ry h => ?_
  obtain ⟨z, hz, h⟩ := out_calm h
  exact hs v v2 I2 H2 d d2 z Q st2.e (rx.mono st2.i) ry hz h
theorem me_un {op : UnaryOp} {r : V → Hp → VK → Prop} {f : D → R D} (ho : UnR X (unaryOp op) r) (hs : USn X.K (gm X E) r f) (ha : ME X E a ta ma) : ME X E (.UnaryOp op a pos) (tUn r ta) (fun ρ => o1 f (ma ρ)) := by
  obtain ⟨pa, sa⟩ := ha
  refine ⟨pe_un ho pa, fun σ I H ρ Q re ex h => ?_⟩
  refine sa.run re ex h fun d v I1 H1 _ st rx h => ?_
  obtain ⟨z, hz, h⟩ := out_calm h
  exact hs v I1 H1 d z Q st.e rx hz h
theorem me_cmp {op : CmpOp} {r : R2} {f : D → D → R D} (ho : OpR X (compareOp op) r) (hs : RSn X.K (gm X E) r f) (ha : ME X E a ta ma) (hb : ME X E b tb mb) (hm : behindInMarks op b = false := by first | exact nomark _ | rfl) :
    ME X E (.Compare a [op] [b] pos) (tOp r ta tb) (fun ρ => o2 f (ma ρ) (mb ρ)) := by
  obtain ⟨pa, sa⟩ := ha
  obtain ⟨pb, sb⟩ := hb
  refine ⟨pe_cmpR ho pa pb hm, fun σ I H ρ Q re ex h => ?_⟩
  refine sa.run re ex h fun d v I1 H1 _ st rx h => ?_
  refine sb.run (re.mono st.i) st.e h fun d2 v2 I2 H2 _ st2 ry h => ?_
  obtain ⟨z, hz, h⟩ := out_calm h
  exact hs v v2 I2 H2 d d2 z Q st2.e (rx.mono st2.i) ry hz h
/-- o[i] -/
theorem me_ix {r : R2} {f : D → D → R D} (ho : IxR X r) (hs : RSn X.K (gm X E) r f) (ha : ME X E a ta ma) (hb : ME X E b tb mb) (hp : PlainIx b := by exact fun _ _ => rfl) : ME X E (.Subscript a b pos) (tOp r ta tb) (fun ρ => o2 f (ma ρ) (mb ρ)) := by
  obtain ⟨pa, sa⟩ := ha
  obtain ⟨pb, sb⟩ := hb
  refine ⟨pe_ix ho pa pb hp, fun σ I H ρ Q re ex h => ?_⟩
  refine sa.run re ex h fun d v I1 H1 _ st rx h => ?_
  refine sb.run (re.mono st.i) st.e h fun d2 v2 I2 H2 _ st2 ry h => ?_
  obtain ⟨z, hz, h⟩ := out_calm h
  exact hs v v2 I2 H2 d d2 z Q st2.e (rx.mono st2.i) ry hz h

/-! ### tests -/
theorem mt_val (h : ME X E e t m) (he : ∀ whole, isTrue e X.env whole = (do let v ← whole; standAt e.pos; holding [v] (truthy v)) := by intro _; rfl) : MT X E e (tB t) (fun ρ => tst (m ρ)) := by
  obtain ⟨pt, st⟩ := h
  refine ⟨pt_val pt he, fun σ I H ρ Q re ex h => ?_⟩
  refine st.run re ex h fun d v I1 H1 _ st rx h => ?_
  cases rx with
  | bl k => exact ⟨k, rfl, h.here st.e rfl⟩
  | _ => exact h.elim
theorem mt_cmp {op : CmpOp} {r : R2} {f : D → D → R D} (ho : OpR X (compareOp op) r) (hs : RSn X.K (gm X E) r f) (ha : ME X E a ta ma) (hb : ME X E b tb mb) (hm : behindInMarks op b = false := by first | exact nomark _ | rfl) :
    MT X E (.Compare a [op] [b] pos) (tTest (tOp r ta tb)) (fun ρ => tst (o2 f (ma ρ) (mb ρ))) := by
  obtain ⟨pa, sa⟩ := ha
  obtain ⟨pb, sb⟩ := hb
  refine ⟨pt_cmpR ho pa pb hm, fun σ I H ρ Q re ex h => ?_⟩
  have h : Out X.K (gm X E) (E.e σ) rB I H (ma ρ >>= fun x => (mb ρ >>= fun y => calm (f x y)) >>= asB) Q := by
    have h : Out X.K (gm X E) (E.e σ) rB I H (tst (o2 f (ma ρ) (mb ρ))) Q := h
    cases e : ma ρ with
    | ok x =>
      rw [e] at h
      exact h
    | err _ _ =>
      rw [e] at h
      exact h
    | stuck =>
      rw [e] at h
      exact h
  refine sa.run re ex h fun d v I1 H1 _ st rx h => ?_
  have h : Out X.K (gm X E) (E.e σ) rB I1 H1 (mb ρ >>= fun y => calm (f d y) >>= asB) Q := by
    cases e : mb ρ with
    | ok x =>
      rw [e] at h
      exact h
    | err _ _ =>
      rw [e] at h
      exact h
    | stuck =>
      rw [e] at h
      exact h
  refine sb.run (re.mono st.i) st.e h fun d2 v2 I2 H2 _ st2 ry h => ?_
  cases hz : f d d2 with
  | err _ _ =>
    rw [hz] at h
    exact h.elim
  | stuck =>
    rw [hz] at h
    exact h.elim
  | ok z =>
    rw [hz] at h
    refine hs v v2 I2 H2 d d2 z _ st2.e (rx.mono st2.i) ry hz fun v3 I3 H3 st3 r3 => ?_
    cases r3 with
    | bl k => exact ⟨k, rfl, h.there st3 rfl⟩
    | _ => exact h.elim
theorem mt_not (h : MT X E a tt mt) : MT X E (.UnaryOp .Not a pos) (tNot tt) (fun ρ => tnot (mt ρ)) := by
  obtain ⟨pt, st⟩ := h
  refine ⟨pt_not pt, fun σ I H ρ Q re ex h => ?_⟩
  refine st.run re ex h fun d v I1 H1 _ st rx h => ?_
  cases rx
  exact h.here st.e rfl
theorem mw_and1 (h : MT X E a tt mt) : MW X E (.BoolOp .And [a] pos) tt mt := by
  obtain ⟨pt, st⟩ := h
  exact ⟨pw_and1 pt, st⟩
theorem mw_or1 (h : MT X E a tt mt) : MW X E (.BoolOp .Or [a] pos) tt mt := by
  obtain ⟨pt, st⟩ := h
  exact ⟨pw_or1 pt, st⟩
theorem mw_and {rest : List Expr} (h : MT X E a tt mt) (h2 : MW X E (.BoolOp .And (b :: rest) pos) tu mu) : MW X E (.BoolOp .And (a :: b :: rest) pos) (tAnd tt tu) (fun ρ => tand (mt ρ) (mu ρ)) := by
  obtain ⟨pt, st⟩ := h
  obtain ⟨pt2, st2⟩ := h2
  refine ⟨pw_and pt pt2, fun σ I H ρ Q re ex h => ?_⟩
  refine st.run re ex h fun d v I1 H1 _ st rx h => ?_
  cases rx
  cases d with
  | true => exact st2 σ I1 H1 ρ Q (re.mono st.i) st.e h
  | false => exact h.here st.e rfl
theorem mw_or {rest : List Expr} (h : MT X E a tt mt) (h2 : MW X E (.BoolOp .Or (b :: rest) pos) tu mu) : MW X E (.BoolOp .Or (a :: b :: rest) pos) (tOr tt tu) (fun ρ => tor (mt ρ) (mu ρ)) := by
  obtain ⟨pt, st⟩ := h
  obtain ⟨pt2, st2⟩ := h2
  refine ⟨pw_or pt pt2, fun σ I H ρ Q re ex h => ?_⟩
  refine st.run re ex h fun d v I1 H1 _ st rx h => ?_
  cases rx
  cases d with
  | true => exact h.here st.e rfl
  | false => exact st2 σ I1 H1 ρ Q (re.mono st.i) st.e h
/-- and, or, not as values -/
theorem me_one {op} (h : ME X E a ta ma) : ME X E (.BoolOp op [a] pos) ta ma := by
  obtain ⟨pt, st⟩ := h
  exact ⟨pe_one pt, st⟩
theorem me_and {rest : List Expr} (h : ME X E a ta ma) (h2 : ME X E (.BoolOp .And (b :: rest) pos) tb mb) : ME X E (.BoolOp .And (a :: b :: rest) pos) (tAndV ta tb) (fun ρ => vand (ma ρ) (mb ρ)) := by
  obtain ⟨pt, st⟩ := h
  obtain ⟨pt2, st2⟩ := h2
  refine ⟨pe_and pt pt2, fun σ I H ρ Q re ex h => ?_⟩
  refine st.run re ex h fun d v I1 H1 _ st rx h => ?_
  cases rx with
  | bl k =>
    refine ⟨k, rfl, ?_⟩
    cases k with
    | true => exact st2 σ I1 H1 ρ Q (re.mono st.i) st.e h
    | false => exact h.here st.e (.bl false)
  | _ => exact h.elim
theorem me_or {rest : List Expr} (h : ME X E a ta ma) (h2 : ME X E (.BoolOp .Or (b :: rest) pos) tb mb) : ME X E (.BoolOp .Or (a :: b :: rest) pos) (tOrV ta tb) (fun ρ => vor (ma ρ) (mb ρ)) := by
  obtain ⟨pt, st⟩ := h
  obtain ⟨pt2, st2⟩ := h2
  refine ⟨pe_or pt pt2, fun σ I H ρ Q re ex h => ?_⟩
  refine st.run re ex h fun d v I1 H1 _ st rx h => ?_
  cases rx with
  | bl k =>
    refine ⟨k, rfl, ?_⟩
    cases k with
    | true => exact h.here st.e (.bl true)
    | false => exact st2 σ I1 H1 ρ Q (re.mono st.i) st.e h
  | _ => exact h.elim
theorem me_not (h : ME X E a ta ma) : ME X E (.UnaryOp .Not a pos) (tNotV ta) (fun ρ => vnot (ma ρ)) := by
  obtain ⟨pt, st⟩ := h
  refine ⟨pe_not pt, fun σ I H ρ Q re ex h => ?_⟩
  refine st.run re ex h fun d v I1 H1 _ st rx h => ?_
  cases rx with
  | bl k => exact ⟨k, rfl, h.here st.e (.bl _)⟩
  | _ => exact h.elim
theorem mts_nil : MTs X E [] tYes (fun _ => .ok true) := ⟨pts_nil, fun σ I H ρ Q re ex h => h.here ex rfl⟩
theorem mts_one (h : MT X E c tt mt) : MTs X E [c] tt mt := by
  obtain ⟨pt, st⟩ := h
  exact ⟨pts_one pt, st⟩

/-! ### arguments, displays -/
theorem ma_nil : MA X E [] tNil (fun _ => .ok []) := ⟨pa_nil, fun σ I H ρ Q re ex h => h.here ex .nil⟩
theorem ma_cons (ha : ME X E e ta ma) (hr : MA X E es tr ms) (hs : starEach (e :: es) X.env = (false, eval e X.env) :: starEach es X.env := by rfl) : MA X E (e :: es) (tCons ta tr) (fun ρ => acons (ma ρ) (ms ρ)) := by
  obtain ⟨pt, st⟩ := ha
  obtain ⟨pt2, st2⟩ := hr
  refine ⟨pa_cons pt pt2 hs, fun σ I H ρ Q re ex h => ?_⟩
  refine st.run re ex h fun d v I1 H1 _ st rx h => ?_
  refine st2.run (re.mono st.i) st.e h fun ds vs I2 H2 _ st2 rs h => ?_
  exact h.here st2.e (.cons (rx.mono st2.i) rs)
def LIM : Nat := 1000000
theorem lim_ok {n : Nat} (h : n ≤ LIM) : n ≤ sizeLine := Nat.le_trans h (by decide)
theorem lim_lt {n : Nat} (h : n ≤ LIM) : n < sizeLine := Nat.lt_of_le_of_lt h (by decide)
theorem upd_rep {p : Addr} {o : HO} {vs : List V} {ds : List D} (e : Same I H) (h : H p = none) (r : Reps K mg I vs ds) : Reps K mg (upd I p o) vs ds := r.mono (Stp.new e h).i
theorem new_lst {p : Addr} {vs : List V} {ds : List D} (e : Same I H) (h : H p = none) (r : Reps K mg I vs ds) : Rep K mg (upd I p (.lst vs)) (.ref p) (.lst ds) := .lst upd_same (upd_rep e h r)
theorem new_tup {p : Addr} {vs : List V} {ds : List D} (e : Same I H) (h : H p = none) (r : Reps K mg I vs ds) : Rep K mg (upd I p (.tup vs)) (.ref p) (.tup ds) := .tup upd_same (upd_rep e h r)
def lstD (ds : List D) : R D := if ds.length ≤ LIM then .ok (.lst ds) else .stuck
def tupD (ds : List D) : R D := if ds.length ≤ LIM then .ok (.tup ds) else .stuck
def dsp {α : Type} (f : List D → R α) (r : R (List D)) : R α := r >>= f
@[simp] theorem dsp_ok {α : Type} (f : List D → R α) (ds : List D) : dsp f (.ok ds) = f ds := rfl
theorem out_if {E : XK} {α β : Type} {rp : Hp → β → α → Prop} {c : Prop} [Decidable c] {r : R α} {Q : β → Hp → Prop} (h : Out K mg E rp I H (if c then r else .stuck) Q) : c ∧ Out K mg E rp I H r Q := by
  by_cases hc : c
  · rw [if_pos hc] at h
    exact ⟨hc, h⟩
  · rw [if_neg hc] at h
    exact h.elim
theorem me_tup {x1} (h : MA X E es tas ms) : ME X E (.Tuple es x1 pos) (tTup tas) (fun ρ => dsp tupD (ms ρ)) := by
  obtain ⟨pt, st⟩ := h
  refine ⟨pe_tup pt, fun σ I H ρ Q re ex h => ?_⟩
  refine st.run re ex h fun ds vs I1 H1 _ st rx h => ?_
  obtain ⟨hl, h⟩ := out_if h
  exact ⟨lim_ok (by rw [rx.len]; exact hl), fun p hp => h.there (.new st.e hp) (new_tup st.e hp rx)⟩
theorem me_lst (h : MA X E es tas ms) : ME X E (.List es pos) (tLst tas) (fun ρ => dsp lstD (ms ρ)) := by
  obtain ⟨pt, st⟩ := h
  refine ⟨pe_lst pt, fun σ I H ρ Q re ex h => ?_⟩
  refine st.run re ex h fun ds vs I1 H1 _ st rx h => ?_
  obtain ⟨hl, h⟩ := out_if h
  exact ⟨lim_ok (by rw [rx.len]; exact hl), fun p hp => h.there (.new st.e hp) (new_lst st.e hp rx)⟩

/-! ### calls of built-ins -/
theorem me_callB {id : String} {r : List V → Hp → VK → Prop} {f : List D → R D} (hc : CallR X (.builtin id) r) (hs : CSn X.K (gm X E) r f) (hg : Gl X x) (hm : X.mg x = none) (hv : bootBuiltins x = some (.builtin id)) (ha : MA X E (e :: es) tas ms) (hn : x ≠ "__name__" := by decide) (hdb : (x == ("__debug__" : Str)) = false := by decide)
    (he : starEach (e :: es) X.env = (false, eval e X.env) :: starEach es X.env := by rfl) (hpl : (backTo pos (starEach es X.env)).any (·.1) = false := by rfl) : ME X E (.Call (.Name x p) (e :: es) [] pos) (tCB r tas) (fun ρ => cbf f (ms ρ)) := by
  obtain ⟨pt, st⟩ := ha
  refine ⟨pe_callB hc hg hm hv pt hn hdb he hpl, fun σ I H ρ Q re ex h => ?_⟩
  refine st.run re ex h fun ds vs I1 H1 _ st rx h => ?_
  obtain ⟨z, hz, h⟩ := out_calm h
  exact hs vs I1 H1 ds z Q st.e rx hz h
theorem me_callTy {T : String} {r : List V → Hp → VK → Prop} {f : List D → R D} (hc : CallR X (.type T) r) (hs : CSn X.K (gm X E) r f) (hg : Gl X x) (hm : X.mg x = none) (hv : bootBuiltins x = some (.type T)) (ha : MA X E (e :: es) tas ms) (hn : x ≠ "__name__" := by decide) (hdb : (x == ("__debug__" : Str)) = false := by decide)
    (he : starEach (e :: es) X.env = (false, eval e X.env) :: starEach es X.env := by rfl) (hpl : (backTo pos (starEach es X.env)).any (·.1) = false := by rfl) : ME X E (.Call (.Name x p) (e :: es) [] pos) (tCB r tas) (fun ρ => cbf f (ms ρ)) := by
  obtain ⟨pt, st⟩ := ha
  refine ⟨pe_callTy hc hg hm hv pt hn hdb he hpl, fun σ I H ρ Q re ex h => ?_⟩
  refine st.run re ex h fun ds vs I1 H1 _ st rx h => ?_
  obtain ⟨z, hz, h⟩ := out_calm h
  exact hs vs I1 H1 ds z Q st.e rx hz h

/-! ### calls of one's own -/
/-- what a def promises: f of the arguments' data -/
def spOf (K : PySem.W.Frag) (mg : Gm) (n : Nat) (f : List D → R D) : Sp := fun vs H Q E => ∃ I ds, ds.length = n ∧ Same I H ∧ Reps K mg I vs ds ∧ Out K mg E (Rep K mg) I H (f ds) Q
theorem spOf.len {E : XK} {n : Nat} {f : List D → R D} {vs : List V} {Q : VK} (h : spOf K mg n f vs H Q E) : vs.length = n := by
  obtain ⟨I, ds, hl, _, r, _⟩ := h
  exact r.len.trans hl
theorem me_call {CX : CXT} {k n : Nat} {f : Addr} {fd : FuncData} {ps : List Str} {g : List D → R D} (F : FnOk X.prog X.w X.K X.mg X.base CX k f fd ps (spOf X.K (g0 X.mg) n g)) (hr : Room k X.A) (hg : Gl X x) (hm : X.mg x = some (.ref f)) (hk : PySem.W.keepIn X.K (.ref f) = true) (hb : Binds X.K fd ps []) (hx : ∀ σ, PassesAt CX X σ (E.e σ)) (h0 : E.x = fun _ => none)
    (ha : MA X E (e :: es) tas ms) (hdb : (x == ("__debug__" : Str)) = false := by decide) (he : starEach (e :: es) X.env = (false, eval e X.env) :: starEach es X.env := by rfl) (hpl : (backTo pos (starEach es X.env)).any (·.1) = false := by rfl) :
    ME X E (.Call (.Name x p) (e :: es) [] pos) (tCallS (spOf X.K (g0 X.mg) n g) E.e tas) (fun ρ => call_ n g (ms ρ)) := by
  obtain ⟨E1, E2⟩ := E
  have h0 : E2 = fun _ => none := h0
  subst h0
  obtain ⟨pt, st⟩ := ha
  refine ⟨pe_callS F hr hg hm hk hb hx pt hdb he hpl, fun σ I H ρ Q re ex h => ?_⟩
  refine st.run re ex h fun ds vs I1 H1 _ st rx h => ?_
  obtain ⟨hl, h⟩ := out_if h
  exact ⟨I1, ds, hl, st.e, rx, h⟩

/-! ### slices -/
theorem mo_none : MO X E none tNoPart (fun _ => .ok none) := ⟨po_none, fun σ I H ρ Q re ex h => h.here ex rfl⟩
theorem mo_some (h : ME X E e t m) : MO X E (some e) (tPart t) (fun ρ => toI (m ρ)) := by
  obtain ⟨pt, st⟩ := h
  refine ⟨po_some pt, fun σ I H ρ Q re ex h => ?_⟩
  refine st.run re ex h fun d v I1 H1 _ st rx h => ?_
  cases rx with
  | int i => exact ⟨i, rfl, h.here st.e rfl⟩
  | _ => exact h.elim
def SSn (K : PySem.W.Frag) (mg : Gm) (r : V → Option Int → Option Int → Hp → VK → Prop) (f : D → Option Int → Option Int → R D) : Prop :=
  ∀ (x : V) (lo hi : Option Int) (I H : Hp) (dx d : D) (Q : VK), Same I H → Rep K mg I x dx → f dx lo hi = .ok d → (∀ v I' H', Stp I H I' H' → Rep K mg I' v d → Q v H') → r x lo hi H Q
theorem me_slice {lo hi : Option Expr} {p2 : Pos} {r : V → Option Int → Option Int → Hp → VK → Prop} {f : D → Option Int → Option Int → R D} {ml mh : Env → R (Option Int)} (hr : SlR X r) (hs : SSn X.K (gm X E) r f) (ha : ME X E a ta ma) (hl : MO X E lo tl ml) (hh : MO X E hi th mh) :
    ME X E (.Subscript a (.Slice lo hi none p2) pos) (tSl r ta tl th) (fun ρ => o3 f (ma ρ) (ml ρ) (mh ρ)) := by
  obtain ⟨pt, st⟩ := ha
  obtain ⟨pl, sl⟩ := hl
  obtain ⟨ph, sh⟩ := hh
  refine ⟨pe_slice hr pt pl ph, fun σ I H ρ Q re ex h => ?_⟩
  refine st.run re ex h fun d v I1 H1 _ s1 rx h => ?_
  refine sl.run (re.mono s1.i) s1.e h fun l l' I2 H2 _ s2 e1 h => ?_
  cases e1
  refine sh.run ((re.mono s1.i).mono s2.i) s2.e h fun u u' I3 H3 _ s3 e2 h => ?_
  cases e2
  obtain ⟨z, hz, h⟩ := out_calm h
  exact hs v _ _ I3 H3 d z Q s3.e ((rx.mono s2.i).mono s3.i) hz h
end
end DL
namespace DL
open PySem PySem.Spec L2

/-! ### data as the library's data, for == -/
mutual
def D.py : D → PyData
  | .non => .none
  | .bl b => .bool b
  | .int i => .int i
  | .str x => .str x
  | .lst ds => .list (D.pys ds)
  | .tup ds => .tuple (D.pys ds)
  | .scr _ => .none
  | .rng _ _ => .none
  | .ty _ => .none
  | .cls _ => .none
  | .obj _ _ _ => .none
  | .dk _ _ => .none
  | .dt _ _ => .none
  | .exc _ _ _ => .none
def D.pys : List D → List PyData
  | [] => []
  | d :: ds => D.py d :: D.pys ds
end
/-- of at most that depth, no script in it, short texts -/
def D.fine : Nat → D → Bool
  | _, .non => true
  | _, .bl _ => true
  | _, .int _ => true
  | _, .str x => PyData.canLay0 (.str x)
  | 0, .lst ds => ds.isEmpty
  | 0, .tup ds => ds.isEmpty
  | n + 1, .lst ds => ds.all (D.fine n)
  | n + 1, .tup ds => ds.all (D.fine n)
  | _, .scr _ => false
  | _, .rng _ _ => false
  | _, .ty _ => false
  | _, .cls _ => false
  | _, .obj _ _ _ => false
  | _, .dk _ _ => false
  | _, .dt _ _ => false
  | _, .exc _ _ _ => false
mutual
theorem D.fine_lay : ∀ (n : Nat) (d : D), d.fine n = true → PyData.canLay0 d.py = true ∧ PyData.depth d.py ≤ n + 1
  | n, .non, _ => ⟨rfl, Nat.zero_le _⟩
  | n, .bl _, _ => ⟨rfl, Nat.zero_le _⟩
  | n, .int _, _ => ⟨rfl, Nat.zero_le _⟩
  | n, .str x, h => ⟨by
      have h : PyData.canLay0 (.str x) = true := by cases n <;> exact h
      exact h, Nat.zero_le _⟩
  | 0, .lst [], h => ⟨rfl, Nat.le_refl _⟩
  | 0, .lst (_ :: _), h => nomatch h
  | 0, .tup [], h => ⟨rfl, Nat.le_refl _⟩
  | 0, .tup (_ :: _), h => nomatch h
  | n + 1, .lst ds, h => by
    obtain ⟨a, b⟩ := D.fine_lays n ds h
    exact ⟨a, Nat.succ_le_succ b⟩
  | n + 1, .tup ds, h => by
    obtain ⟨a, b⟩ := D.fine_lays n ds h
    exact ⟨a, Nat.succ_le_succ b⟩
  | n, .scr _, h => by cases n <;> cases h
  | n, .rng _ _, h => by cases n <;> cases h
  | n, .ty _, h => by cases n <;> cases h
  | n, .cls _, h => by cases n <;> cases h
  | n, .obj _ _ _, h => by cases n <;> cases h
  | n, .dk _ _, h => by cases n <;> cases h
  | n, .dt _ _, h => by cases n <;> cases h
  | n, .exc _ _ _, h => by cases n <;> cases h
theorem D.fine_lays : ∀ (n : Nat) (ds : List D), ds.all (D.fine n) = true → PyData.canLayAll0 (D.pys ds) = true ∧ PyData.depthAll (D.pys ds) ≤ n + 1
  | n, [], _ => ⟨rfl, Nat.zero_le _⟩
  | n, d :: ds, h => by
    rw [List.all_cons, Bool.and_eq_true] at h
    obtain ⟨a, b⟩ := D.fine_lay n d h.1
    obtain ⟨a', b'⟩ := D.fine_lays n ds h.2
    refine ⟨?_, ?_⟩
    · show (PyData.canLay0 d.py && PyData.canLayAll0 (D.pys ds)) = true
      rw [a, a']
      rfl
    · show max (PyData.depth d.py) (PyData.depthAll (D.pys ds)) ≤ n + 1
      exact Nat.max_le.mpr ⟨b, b'⟩
end
theorem D.fine_shaped {d : D} (h : d.fine 60 = true) : SeqAt.shaped d.py = true := by
  obtain ⟨a, b⟩ := D.fine_lay 60 d h
  show (PyData.canLay0 d.py && decide (PyData.depth d.py ≤ 64)) = true
  rw [a, decide_eq_true (show PyData.depth d.py ≤ 64 by omega)]
  rfl
mutual
theorem Rep.dp {K : PySem.W.Frag} {mg : Gm} {H : Hp} : ∀ (n : Nat) {v : V} {d : D}, Rep K mg H v d → d.fine n = true → Dp K H v d.py
  | _, _, _, .non, _ => .non
  | _, _, _, .bl b, _ => .bl b
  | _, _, _, .int i, _ => .int i
  | _, _, _, .str x, _ => .str x
  | 0, _, .lst [], .lst h r, _ => .lst (SqL.of h) (by cases r; exact .nil)
  | 0, _, .lst (_ :: _), .lst h r, q => nomatch q
  | 0, _, .tup [], .tup h r, _ => .tup (SqT.of h) (by cases r; exact .nil)
  | 0, _, .tup (_ :: _), .tup h r, q => nomatch q
  | n + 1, _, .lst _, .lst h r, q => .lst (SqL.of h) (Reps.dp n r q)
  | n + 1, _, .tup _, .tup h r, q => .tup (SqT.of h) (Reps.dp n r q)
  | n, _, _, .scr h, q => by cases n <;> cases q
  | n, _, _, .rng h, q => by cases n <;> cases q
  | n, _, _, .ty _, q => by cases n <;> cases q
  | n, _, _, .cls _, q => by cases n <;> cases q
  | n, _, _, .obj _ _ _, q => by cases n <;> cases q
  | n, _, _, .dk _ _, q => by cases n <;> cases q
  | n, _, _, .dt _ _, q => by cases n <;> cases q
  | n, _, _, .exc _ _ _ _, q => by cases n <;> cases q
theorem Reps.dp {K : PySem.W.Frag} {mg : Gm} {H : Hp} : ∀ (n : Nat) {vs : List V} {ds : List D}, Reps K mg H vs ds → ds.all (D.fine n) = true → DpAll K H vs (D.pys ds)
  | _, _, _, .nil, _ => .nil
  | n, _, d :: ds, .cons a r, q => by
    rw [List.all_cons, Bool.and_eq_true] at q
    exact .cons (Rep.dp n a q.1) (Reps.dp n r q.2)
end

/-! ### operators -/
theorem OpR.or {X : Cx} {f : Value → Value → Sem Value} {r r' : R2} (h : OpR X f r) (h' : OpR X f r') : OpR X f (fun x y H Q => r x y H Q ∨ r' x y H Q) := by
  intro pins s σ H x y v u Q I rx ry q
  rcases q with q | q
  · exact h pins s σ H x y v u Q I rx ry q
  · exact h' pins s σ H x y v u Q I rx ry q
def gd (c : Prop) [Decidable c] (d : D) : R D := if c then .ok d else .stuck
theorem gd_of {c : Prop} [Decidable c] {d e : D} (h : gd c d = .ok e) : c ∧ d = e := by
  unfold gd at h
  by_cases hc : c
  · rw [if_pos hc] at h
    cases h
    exact ⟨hc, rfl⟩
  · rw [if_neg hc] at h
    cases h
theorem gd_ok {c : Prop} [Decidable c] {d : D} (h : c) : gd c d = .ok d := if_pos h

def addD : D → D → R D
  | .int i, .int j => .ok (.int (i + j))
  | .str x, .str y => gd (x.length + y.length ≤ LIM) (.str (x ++ y))
  | .lst xs, .lst ys => gd (xs.length + ys.length ≤ LIM) (.lst (xs ++ ys))
  | .tup xs, .tup ys => gd (xs.length + ys.length ≤ LIM) (.tup (xs ++ ys))
  | _, _ => .stuck
def rAddX (K : PySem.W.Frag) : R2 := fun x y H Q => rI0 (fun i j => .int (i + j)) x y H Q ∨ (rCat x y H Q ∨ (rCatA K x y H Q ∨ (∃ i j, x = .str i ∧ y = .str j ∧ i.length + j.length ≤ sizeLine ∧ Q (.str (i ++ j)) H)))
theorem op_addX {X : Cx} : OpR X (binaryOp .Add) (rAddX X.K) := OpR.or op_add (OpR.or op_cat (OpR.or op_catA op_add_str))
theorem rs_add {K : PySem.W.Frag} {mg : Gm} : RSn K mg (rAddX K) addD := by
  intro x y I H dx dy d Q ex rx ry h q
  cases rx with
  | int i =>
    cases ry with
    | int j =>
      cases h
      exact .inl ⟨i, j, rfl, rfl, q _ _ _ (.refl ex) (.int _)⟩
    | _ => cases h
  | str i =>
    cases ry with
    | str j =>
      obtain ⟨hl, rfl⟩ := gd_of h
      exact .inr (.inr (.inr ⟨i, j, rfl, rfl, lim_ok hl, q _ _ _ (.refl ex) (.str _)⟩))
    | _ => cases h
  | @lst a vs ds ha ra =>
    cases ry with
    | @lst b ws es hb rb =>
      obtain ⟨hl, rfl⟩ := gd_of h
      refine .inr (.inl ⟨a, b, vs, ws, rfl, rfl, ex _ _ ha, ex _ _ hb, lim_ok (by rw [ra.len, rb.len]; exact hl), fun p hp => q _ _ _ (.new ex hp) (new_lst ex hp (ra.app rb))⟩)
    | _ => cases h
  | @tup a vs ds ha ra =>
    cases ry with
    | @tup b ws es hb rb =>
      obtain ⟨hl, rfl⟩ := gd_of h
      refine .inr (.inr (.inl ⟨a, b, vs, ws, rfl, rfl, SqT.of (ex _ _ ha), SqT.of (ex _ _ hb), lim_ok (by rw [ra.len, rb.len]; exact hl), fun e => ?_, fun _ e => ?_, fun _ _ p hp => q _ _ _ (.new ex hp) (new_tup ex hp (ra.app rb))⟩))
      · subst e
        cases ra
        exact q _ _ _ (.refl ex) (.tup hb rb)
      · subst e
        cases rb
        rw [List.append_nil] at q
        exact q _ _ _ (.refl ex) (.tup ha ra)
    | _ => cases h
  | _ => cases h
def subD : D → D → R D
  | .int i, .int j => .ok (.int (i - j))
  | _, _ => .stuck
/-- a number or a list as the left one; one factor small -/
def mulD : D → D → R D
  | .int i, .int j => gd (((-(2 ^ 64) < i ∧ i < 2 ^ 64) ∨ (-(2 ^ 64) < j ∧ j < 2 ^ 64)) ∨ (Builtin.Int.intBits i : Int) + (Builtin.Int.intBits j : Int) ≤ 134217728) (.int (i * j))
  | .lst xs, .int k => gd (0 ≤ k ∧ k ≤ LIM ∧ xs.length * k.toNat ≤ LIM) (.lst (List.replicate k.toNat xs).flatten)
  | _, _ => .stuck
def modD : D → D → R D
  | .int i, .int j => gd (0 < j) (.int (i % j))
  | _, _ => .stuck
def fdivD : D → D → R D
  | .int i, .int j => gd (0 < j ∧ j < 1073741824) (.int (i / j))
  | _, _ => .stuck
def powD : D → D → R D
  | .int i, .int j => gd (0 ≤ j ∧ j ≤ 1000000 ∧ i.natAbs < 2 ^ 64) (.int (i ^ j.toNat))
  | _, _ => .stuck
def negD : D → R D
  | .int i => .ok (.int (-i))
  | _ => .stuck
theorem rs_I0 {K : PySem.W.Frag} {mg : Gm} {g : Int → Int → V} {gd' : Int → Int → D} {f : D → D → R D} (hg : ∀ I i j, Rep K mg I (g i j) (gd' i j)) (hf : ∀ i j, f (.int i) (.int j) = .ok (gd' i j)) (hn : ∀ dx dy d, f dx dy = .ok d → ∃ i j, dx = .int i ∧ dy = .int j) : RSn K mg (rI0 g) f := by
  intro x y I H dx dy d Q ex rx ry h q
  obtain ⟨i, j, rfl, rfl⟩ := hn _ _ _ h
  cases rx
  cases ry
  rw [hf] at h
  cases h
  exact ⟨i, j, rfl, rfl, q _ _ _ (.refl ex) (hg _ _ _)⟩
theorem rs_I {K : PySem.W.Frag} {mg : Gm} {C : Int → Int → Prop} {g : Int → Int → V} {gd' : Int → Int → D} {f : D → D → R D} (hg : ∀ I i j, Rep K mg I (g i j) (gd' i j)) (hf : ∀ i j d, f (.int i) (.int j) = .ok d → C i j ∧ d = gd' i j) (hn : ∀ dx dy d, f dx dy = .ok d → ∃ i j, dx = .int i ∧ dy = .int j) : RSn K mg (rI C g) f := by
  intro x y I H dx dy d Q ex rx ry h q
  obtain ⟨i, j, rfl, rfl⟩ := hn _ _ _ h
  cases rx
  cases ry
  obtain ⟨hc, rfl⟩ := hf _ _ _ h
  exact ⟨i, j, rfl, rfl, hc, q _ _ _ (.refl ex) (hg _ _ _)⟩
theorem rs_sub {K : PySem.W.Frag} {mg : Gm} : RSn K mg (rI0 fun i j => .int (i - j)) subD := rs_I0 (gd' := fun i j => .int (i - j)) (fun _ _ _ => .int _) (fun _ _ => rfl) fun dx dy d h => by
  cases dx <;> cases dy <;> first | exact ⟨_, _, rfl, rfl⟩ | cases h
def rMulX : R2 := fun x y H Q => (rI CMul (fun i j => .int (i * j)) x y H Q ∨ rI CMulX (fun i j => .int (i * j)) x y H Q) ∨ rRep x y H Q
theorem op_mulX {X : Cx} : OpR X (binaryOp .Mult) rMulX := OpR.or (OpR.or op_mul L2.op_mulX) op_rep
theorem Reps.rep {K : PySem.W.Frag} {mg : Gm} {I : Hp} {vs : List V} {ds : List D} (r : Reps K mg I vs ds) : ∀ n : Nat, Reps K mg I (List.replicate n vs).flatten (List.replicate n ds).flatten
  | 0 => .nil
  | n + 1 => by
    rw [List.replicate_succ, List.replicate_succ, List.flatten_cons, List.flatten_cons]
    exact r.app (Reps.rep r n)
theorem rs_mul {K : PySem.W.Frag} {mg : Gm} : RSn K mg rMulX mulD := by
  intro x y I H dx dy d Q ex rx ry h q
  cases rx with
  | int i =>
    cases ry with
    | int j =>
      obtain ⟨hl, rfl⟩ := gd_of h
      rcases hl with hl | hl
      · exact .inl (.inl ⟨i, j, rfl, rfl, hl, q _ _ _ (.refl ex) (.int _)⟩)
      · exact .inl (.inr ⟨i, j, rfl, rfl, hl, q _ _ _ (.refl ex) (.int _)⟩)
    | _ => cases h
  | @lst a vs ds ha ra =>
    cases ry with
    | int k =>
      obtain ⟨⟨h0, h1, h2⟩, rfl⟩ := gd_of h
      have h1 : k ≤ 1000000 := h1
      exact .inr ⟨a, k, vs, rfl, rfl, ex _ _ ha, by omega, by omega, lim_ok (by rw [ra.len]; exact h2), fun p hp => q _ _ _ (.new ex hp) (new_lst ex hp (ra.rep _))⟩
    | _ => cases h
  | _ => cases h
theorem rs_mod {K : PySem.W.Frag} {mg : Gm} : RSn K mg (rI (fun _ j => 0 < j) fun i j => .int (i % j)) modD := rs_I (gd' := fun i j => .int (i % j)) (fun _ _ _ => .int _) (fun i j d h => (gd_of h).imp id Eq.symm) fun dx dy d h => by
  cases dx <;> cases dy <;> first | exact ⟨_, _, rfl, rfl⟩ | cases h
theorem rs_fdiv {K : PySem.W.Frag} {mg : Gm} : RSn K mg (rI CDiv fun i j => .int (i / j)) fdivD := rs_I (gd' := fun i j => .int (i / j)) (fun _ _ _ => .int _) (fun i j d h => (gd_of h).imp id Eq.symm) fun dx dy d h => by
  cases dx <;> cases dy <;> first | exact ⟨_, _, rfl, rfl⟩ | cases h
theorem rs_pow {K : PySem.W.Frag} {mg : Gm} : RSn K mg (rI CPow fun i j => .int (i ^ j.toNat)) powD := rs_I (gd' := fun i j => .int (i ^ j.toNat)) (fun _ _ _ => .int _) (fun i j d h => (gd_of h).imp id Eq.symm) fun dx dy d h => by
  cases dx <;> cases dy <;> first | exact ⟨_, _, rfl, rfl⟩ | cases h
theorem us_neg {K : PySem.W.Frag} {mg : Gm} : USn K mg (rU fun i => .int (-i)) negD := by
  intro x I H dx d Q ex rx h q
  cases rx with
  | int i =>
    cases h
    exact ⟨i, rfl, q _ _ _ (.refl ex) (.int _)⟩
  | _ => cases h

def intsOf : List D → Option (List Int)
  | [] => some []
  | .int i :: ds => (intsOf ds).map (i :: ·)
  | _ :: _ => none
theorem intsOf_map (ns : List Int) : intsOf (ns.map D.int) = some ns := by
  induction ns with
  | nil => rfl
  | cons n ns ih => rw [List.map_cons, intsOf, ih]; rfl
theorem reps_ints {K : PySem.W.Frag} {mg : Gm} {I : Hp} : ∀ {vs : List V} {ds : List D} {ns : List Int}, Reps K mg I vs ds → intsOf ds = some ns → vs = ns.map V.int ∧ ds = ns.map D.int
  | _, _, ns, .nil, h => by
    cases h
    exact ⟨rfl, rfl⟩
  | _, _, ns, .cons (d := d) (ds := ds) a r, h => by
    cases a with
    | int i =>
      cases e : intsOf ds with
      | none =>
        rw [intsOf, e] at h
        cases h
      | some ms =>
        rw [intsOf, e] at h
        cases h
        obtain ⟨a, b⟩ := reps_ints r e
        rw [a, b]
        exact ⟨rfl, rfl⟩
    | _ => cases h
def ltD : D → D → R D
  | .int i, .int j => .ok (.bl (decide (i < j)))
  | .tup xs, .tup ys => match intsOf xs, intsOf ys with
    | some ns, some ms => .ok (.bl (HT.lexLt ns ms))
    | _, _ => .stuck
  | _, _ => .stuck
def leD : D → D → R D
  | .int i, .int j => .ok (.bl (decide (i ≤ j)))
  | _, _ => .stuck
def gtD : D → D → R D
  | .int i, .int j => .ok (.bl (decide (j < i)))
  | _, _ => .stuck
theorem rs_le {K : PySem.W.Frag} {mg : Gm} : RSn K mg (rI0 fun i j => .bl (decide (i ≤ j))) leD := rs_I0 (gd' := fun i j => .bl (decide (i ≤ j))) (fun _ _ _ => .bl _) (fun _ _ => rfl) fun dx dy d h => by
  cases dx <;> cases dy <;> first | exact ⟨_, _, rfl, rfl⟩ | cases h
theorem rs_gt {K : PySem.W.Frag} {mg : Gm} : RSn K mg (rI0 fun i j => .bl (decide (j < i))) gtD := rs_I0 (gd' := fun i j => .bl (decide (j < i))) (fun _ _ _ => .bl _) (fun _ _ => rfl) fun dx dy d h => by
  cases dx <;> cases dy <;> first | exact ⟨_, _, rfl, rfl⟩ | cases h
def rLtX (K : PySem.W.Frag) : R2 := fun x y H Q => rI0 (fun i j => .bl (decide (i < j))) x y H Q ∨ rLtT K x y H Q
theorem op_ltX {X : Cx} {k : Nat} (hr : Room k X.A) : OpR X (compareOp .Lt) (rLtX X.K) := OpR.or op_lt (op_ltT hr.units0)
theorem rs_lt {K : PySem.W.Frag} {mg : Gm} : RSn K mg (rLtX K) ltD := by
  intro x y I H dx dy d Q ex rx ry h q
  cases rx with
  | int i =>
    cases ry with
    | int j =>
      cases h
      exact .inl ⟨i, j, rfl, rfl, q _ _ _ (.refl ex) (.bl _)⟩
    | _ => cases h
  | @tup a vs ds ha ra =>
    cases ry with
    | @tup b ws es hb rb =>
      have h : (match intsOf ds, intsOf es with | some ns, some ms => R.ok (.bl (HT.lexLt ns ms)) | _, _ => .stuck) = R.ok d := h
      cases e1 : intsOf ds with
      | none =>
        rw [e1] at h
        cases h
      | some ns =>
        cases e2 : intsOf es with
        | none =>
          rw [e1, e2] at h
          cases h
        | some ms =>
          rw [e1, e2] at h
          cases h
          obtain ⟨rfl, _⟩ := reps_ints ra e1
          obtain ⟨rfl, _⟩ := reps_ints rb e2
          exact .inr ⟨a, b, ns, ms, rfl, rfl, SqT.of (ex _ _ ha), SqT.of (ex _ _ hb), q _ _ _ (.refl ex) (.bl _)⟩
    | _ => cases h
  | _ => cases h
def eqD : D → D → R D
  | .int i, .int j => .ok (.bl (decide (i = j)))
  | .non, .non => .ok (.bl true)
  | d, e => gd (d.fine 60 = true ∧ e.fine 60 = true) (.bl (PyData.eqv d.py e.py))
def notD : R D → R D
  | .ok (.bl b) => .ok (.bl !b)
  | _ => .stuck
def neD (d e : D) : R D := notD (eqD d e)
theorem eqD_of {d e r : D} (h : eqD d e = .ok r) : d.fine 60 = true ∧ e.fine 60 = true ∧ r = .bl (PyData.eqv d.py e.py) := by
  unfold eqD at h
  split at h
  · cases h
    refine ⟨rfl, rfl, ?_⟩
    congr 1
  · cases h
    exact ⟨rfl, rfl, rfl⟩
  · obtain ⟨⟨a, b⟩, c⟩ := gd_of h
    exact ⟨a, b, c.symm⟩
theorem rs_eq {K : PySem.W.Frag} {mg : Gm} : RSn K mg (rEqD K) eqD := by
  intro x y I H dx dy d Q ex rx ry h q
  obtain ⟨a, b, rfl⟩ := eqD_of h
  exact ⟨_, _, (rx.mono ex).dp _ a, (ry.mono ex).dp _ b, D.fine_shaped a, D.fine_shaped b, q _ _ _ (.refl ex) (.bl _)⟩
theorem rs_ne {K : PySem.W.Frag} {mg : Gm} : RSn K mg (rNeD K) neD := by
  intro x y I H dx dy d Q ex rx ry h q
  unfold neD at h
  cases e : eqD dx dy with
  | ok r =>
    obtain ⟨a, b, rfl⟩ := eqD_of e
    rw [e] at h
    cases h
    exact ⟨_, _, (rx.mono ex).dp _ a, (ry.mono ex).dp _ b, D.fine_shaped a, D.fine_shaped b, q _ _ _ (.refl ex) (.bl _)⟩
  | err _ _ =>
    rw [e] at h
    cases h
  | stuck =>
    rw [e] at h
    cases h
end DL
namespace DL
open PySem PySem.Spec L2

theorem op_notIn_rng {X : Cx} : OpR X (compareOp .NotIn) (fun x y H Q => ∃ i a lo hi, x = V.int i ∧ y = V.ref a ∧ H a = some (.rng lo hi) ∧ Q (.bl (!decide (lo ≤ i ∧ i < hi))) H) := by
  intro pins s σ H x y v u Q I rx ry h
  obtain ⟨i, a, lo, hi, rfl, rfl, ha, q⟩ := h
  obtain ⟨k, rfl⟩ := rx
  obtain rfl : u = Value.ref a := ry
  obtain ⟨t1, t2, t3, ho⟩ := I.hok a _ ha
  show wpAny _ _ (do return Value.bool (!(← contains (Value.ref a) (Value.int i k)))) _ _ s
  refine wpAny_bind (wpAny_contains_slot (T := "range") ⟨_, ho, rfl⟩ F.slot_range_contains (call_meets F.slot_range_contains ⟨_, ho, rfl⟩ F.entry_range_contains (F.args_range_contains_2 _ _) (q_contains a lo hi i t1 t2 t3 k)
    ⟨ho, wpAny_truthy_bool (wpAny_pure ⟨.bl _, H, I, rfl, ?_⟩)⟩))
  rw [place1]
  exact q
def D.flat : D → Bool
  | .non => true
  | .bl _ => true
  | .int _ => true
  | .str _ => true
  | _ => false
def eqF : D → D → Bool
  | .non, .non => true
  | .bl a, .bl b => a == b
  | .bl a, .int b => (if a then 1 else 0) == b
  | .int a, .bl b => a == (if b then 1 else 0)
  | .int a, .int b => a == b
  | .str a, .str b => a == b
  | _, _ => false
def inB (x : D) (ds : List D) : Bool := ds.any fun y => eqF y x
def inD : D → D → R D
  | x, .lst ds => gd (x.flat = true ∧ ds.all D.flat = true) (.bl (inB x ds))
  | x, .tup ds => gd (x.flat = true ∧ ds.all D.flat = true) (.bl (inB x ds))
  | .int i, .rng lo hi => .ok (.bl (decide (lo ≤ i ∧ i < hi)))
  | _, _ => .stuck
def notInD (x y : D) : R D := notD (inD x y)
theorem Rep.flat {K : PySem.W.Frag} {mg : Gm} {I : Hp} {v : V} {d : D} (r : Rep K mg I v d) (h : d.flat = true) : flatV v = true := by
  cases r <;> first | rfl | cases h
theorem Rep.eqF {K : PySem.W.Frag} {mg : Gm} {I : Hp} {v w : V} {d e : D} (r : Rep K mg I v d) (q : Rep K mg I w e) (h : d.flat = true) (h2 : e.flat = true) : eqV v w = eqF d e := by
  cases r <;> cases q <;> first | rfl | cases h | cases h2
theorem Reps.flat {K : PySem.W.Frag} {mg : Gm} {I : Hp} : ∀ {vs : List V} {ds : List D}, Reps K mg I vs ds → ds.all D.flat = true → vs.all flatV = true
  | _, _, .nil, _ => rfl
  | _, _, .cons a r, h => by
    rw [List.all_cons, Bool.and_eq_true] at h
    rw [List.all_cons, a.flat h.1, Reps.flat r h.2]
    rfl
theorem Reps.inB {K : PySem.W.Frag} {mg : Gm} {I : Hp} {x : V} {d : D} (rx : Rep K mg I x d) (hx : d.flat = true) : ∀ {vs : List V} {ds : List D}, Reps K mg I vs ds → ds.all D.flat = true → inV x vs = inB d ds
  | _, _, .nil, _ => rfl
  | _, _, .cons (v := v) (vs := vs) (d := e) (ds := ds) a r, h => by
    rw [List.all_cons, Bool.and_eq_true] at h
    have ih := Reps.inB rx hx r h.2
    show (eqV v x || vs.any fun y => eqV y x) = (DL.eqF e d || ds.any fun y => DL.eqF y d)
    rw [a.eqF rx h.1 hx]
    exact congrArg _ ih
def rInX (K : PySem.W.Frag) : R2 := fun x y H Q => rIn K false x y H Q ∨ (∃ i a lo hi, x = V.int i ∧ y = V.ref a ∧ H a = some (.rng lo hi) ∧ Q (.bl (decide (lo ≤ i ∧ i < hi))) H)
def rNinX (K : PySem.W.Frag) : R2 := fun x y H Q => rIn K true x y H Q ∨ (∃ i a lo hi, x = V.int i ∧ y = V.ref a ∧ H a = some (.rng lo hi) ∧ Q (.bl (!decide (lo ≤ i ∧ i < hi))) H)
theorem op_inX {X : Cx} : OpR X (compareOp .In) (rInX X.K) := OpR.or op_in_seq op_in_rng
theorem op_ninX {X : Cx} : OpR X (compareOp .NotIn) (rNinX X.K) := OpR.or op_notIn_seq op_notIn_rng
theorem in_cases {x y d : D} (h : inD x y = .ok d) : (∃ ds, (y = .lst ds ∨ y = .tup ds) ∧ x.flat = true ∧ ds.all D.flat = true ∧ d = .bl (inB x ds)) ∨ (∃ i lo hi, x = .int i ∧ y = .rng lo hi ∧ d = .bl (decide (lo ≤ i ∧ i < hi))) := by
  unfold inD at h
  split at h
  · obtain ⟨⟨a, b⟩, rfl⟩ := gd_of h
    exact .inl ⟨_, .inl rfl, a, b, rfl⟩
  · obtain ⟨⟨a, b⟩, rfl⟩ := gd_of h
    exact .inl ⟨_, .inr rfl, a, b, rfl⟩
  · cases h
    exact .inr ⟨_, _, _, rfl, rfl, rfl⟩
  · cases h
theorem in_seq {K : PySem.W.Frag} {mg : Gm} {I H : Hp} {x y : V} {dx dy : D} {ds : List D} (ex : Same I H) (rx : Rep K mg I x dx) (ry : Rep K mg I y dy) (e : dy = .lst ds ∨ dy = .tup ds) (a : dx.flat = true) (b : ds.all D.flat = true) :
    ∃ p xs, y = .ref p ∧ (SqL K H p xs ∨ SqT K H p xs) ∧ flatV x = true ∧ xs.all flatV = true ∧ inV x xs = inB dx ds := by
  rcases e with e | e
  · subst e
    cases ry with
    | lst h r => exact ⟨_, _, rfl, .inl (SqL.of (ex _ _ h)), rx.flat a, r.flat b, Reps.inB rx a r b⟩
  · subst e
    cases ry with
    | tup h r => exact ⟨_, _, rfl, .inr (SqT.of (ex _ _ h)), rx.flat a, r.flat b, Reps.inB rx a r b⟩
theorem rs_in {K : PySem.W.Frag} {mg : Gm} : RSn K mg (rInX K) inD := by
  intro x y I H dx dy d Q ex rx ry h q
  rcases in_cases h with ⟨ds, e, a, b, rfl⟩ | ⟨i, lo, hi, rfl, rfl, rfl⟩
  · obtain ⟨p, xs, rfl, hs, fx, fa, eb⟩ := in_seq ex rx ry e a b
    refine .inl ⟨p, xs, rfl, hs, fx, fa, ?_⟩
    show Q (.bl (inV x xs)) H
    rw [eb]
    exact q _ _ _ (.refl ex) (.bl _)
  · cases rx
    cases ry with
    | rng hh => exact .inr ⟨_, _, _, _, rfl, rfl, ex _ _ hh, q _ _ _ (.refl ex) (.bl _)⟩
theorem rs_notIn {K : PySem.W.Frag} {mg : Gm} : RSn K mg (rNinX K) notInD := by
  intro x y I H dx dy d Q ex rx ry h q
  unfold notInD at h
  cases hi : inD dx dy with
  | ok r =>
    rw [hi] at h
    rcases in_cases hi with ⟨ds, e, a, b, rfl⟩ | ⟨i, lo, hi, rfl, rfl, rfl⟩
    · cases h
      obtain ⟨p, xs, rfl, hs, fx, fa, eb⟩ := in_seq ex rx ry e a b
      refine .inl ⟨p, xs, rfl, hs, fx, fa, ?_⟩
      show Q (.bl (!inV x xs)) H
      rw [eb]
      exact q _ _ _ (.refl ex) (.bl _)
    · cases h
      cases rx
      cases ry with
      | rng hh => exact .inr ⟨_, _, _, _, rfl, rfl, ex _ _ hh, q _ _ _ (.refl ex) (.bl _)⟩
  | err _ _ =>
    rw [hi] at h
    cases h
  | stuck =>
    rw [hi] at h
    cases h

/-! ### o[i], o[a:b] -/
def ixD : D → D → R D
  | .lst ds, .int i => match atI ds i with
    | some d => .ok d
    | none => .stuck
  | .tup ds, .int i => match atI ds i with
    | some d => .ok d
    | none => .stuck
  | .scr ns, .int i => match atI ns i with
    | some n => .ok (.int n)
    | none => .stuck
  | .str z, .int i => match atI z.cps.toList i with
    | some c => gd (z.length ≤ LIM) (.str ⟨#[c]⟩)
    | none => .stuck
  | _, _ => .stuck
theorem Reps.atI {K : PySem.W.Frag} {mg : Gm} {I : Hp} {vs : List V} {ds : List D} {i : Int} {d : D} (r : Reps K mg I vs ds) (h : atI ds i = some d) : ∃ v, L2.atI vs i = some v ∧ Rep K mg I v d := by
  unfold L2.atI at h ⊢
  rw [r.len]
  cases e : ixN ds.length i with
  | none =>
    rw [e] at h
    cases h
  | some j =>
    rw [e] at h
    obtain ⟨v, hv, rv⟩ := r.get h
    exact ⟨v, hv, rv⟩
theorem rs_ix {K : PySem.W.Frag} {mg : Gm} : RSn K mg (rIx K) ixD := by
  intro x y I H dx dy d Q ex rx ry h q
  cases ry with
  | int i =>
    cases rx with
    | @lst a vs ds ha ra =>
      have h : (match atI ds i with | some d => R.ok d | none => .stuck) = R.ok d := h
      cases e : atI ds i with
      | none =>
        rw [e] at h
        cases h
      | some z =>
        rw [e] at h
        cases h
        obtain ⟨v, hv, rv⟩ := ra.atI e
        exact .inl ⟨_, _, _, v, rfl, rfl, SqL.of (ex _ _ ha), hv, q _ _ _ (.refl ex) rv⟩
    | @tup a vs ds ha ra =>
      have h : (match atI ds i with | some d => R.ok d | none => .stuck) = R.ok d := h
      cases e : atI ds i with
      | none =>
        rw [e] at h
        cases h
      | some z =>
        rw [e] at h
        cases h
        obtain ⟨v, hv, rv⟩ := ra.atI e
        exact .inr (.inl ⟨_, _, _, v, rfl, rfl, SqT.of (ex _ _ ha), hv, q _ _ _ (.refl ex) rv⟩)
    | @scr a ns ha =>
      have h : (match atI ns i with | some n => R.ok (D.int n) | none => .stuck) = R.ok d := h
      cases e : atI ns i with
      | none =>
        rw [e] at h
        cases h
      | some z =>
        rw [e] at h
        cases h
        refine .inl ⟨_, _, _, .int z, rfl, rfl, ex.seq ha, ?_, q _ _ _ (.refl ex) (.int _)⟩
        unfold L2.atI at e ⊢
        rw [List.length_map]
        cases e1 : ixN ns.length i with
        | none =>
          rw [e1] at e
          cases e
        | some j =>
          rw [e1] at e
          have e : ns[j]? = some z := e
          show (ns.map V.int)[j]? = some (V.int z)
          rw [List.getElem?_map, e]
          rfl
    | str z =>
      have h : (match atI z.cps.toList i with | some c => gd (z.length ≤ LIM) (.str ⟨#[c]⟩) | none => .stuck) = R.ok d := h
      cases e : atI z.cps.toList i with
      | none =>
        rw [e] at h
        cases h
      | some c =>
        rw [e] at h
        obtain ⟨hl, rfl⟩ := gd_of h
        exact .inr (.inr ⟨_, _, c, rfl, rfl, lim_ok hl, e, q _ _ _ (.refl ex) (.str _)⟩)
    | _ => cases h
  | _ => cases rx <;> cases h
def cutD (xs : List D) (lo hi : Option Int) : List D := (xs.drop (HT.sIx xs.length 0 lo)).take (HT.sIx xs.length xs.length hi - HT.sIx xs.length 0 lo)
theorem Reps.cut {K : PySem.W.Frag} {mg : Gm} {I : Hp} {vs : List V} {ds : List D} (r : Reps K mg I vs ds) (lo hi : Option Int) : Reps K mg I (cutV vs lo hi) (cutD ds lo hi) := by
  unfold cutV cutD
  rw [r.len]
  exact (r.drop _).take _
def sliceD : D → Option Int → Option Int → R D
  | .lst ds, lo, hi => .ok (.lst (cutD ds lo hi))
  | .tup ds, lo, hi => .ok (.tup (cutD ds lo hi))
  | .str z, lo, hi => gd (z.length ≤ LIM) (.str (cutS z lo hi))
  | _, _, _ => .stuck
def rSlX (K : PySem.W.Frag) : V → Option Int → Option Int → Hp → VK → Prop := fun x lo hi H Q => rSlL K x lo hi H Q ∨ (rSlA K x lo hi H Q ∨ rSlS x lo hi H Q)
theorem sl_X {X : Cx} : SlR X (rSlX X.K) := SlR.or sl_list (SlR.or sl_tupA sl_str)
theorem ss_X {K : PySem.W.Frag} {mg : Gm} : SSn K mg (rSlX K) sliceD := by
  intro x lo hi I H dx d Q ex rx h q
  cases rx with
  | @lst a vs ds ha ra =>
    cases h
    exact .inl ⟨_, _, rfl, SqL.of (ex _ _ ha), fun p hp => q _ _ _ (.new ex hp) (new_lst ex hp (ra.cut lo hi))⟩
  | @tup a vs ds ha ra =>
    cases h
    refine .inr (.inl ⟨_, _, rfl, SqT.of (ex _ _ ha), fun e => ?_, fun _ p hp => q _ _ _ (.new ex hp) (new_tup ex hp (ra.cut lo hi))⟩)
    have ec : cutD ds lo hi = ds := by
      unfold cutD
      rw [← ra.len, e.1, e.2, List.drop_zero, Nat.sub_zero]
      exact List.take_of_length_le (Nat.le_of_eq ra.len.symm)
    rw [ec] at q
    exact q _ _ _ (.refl ex) (.tup ha ra)
  | str z =>
    obtain ⟨hl, rfl⟩ := gd_of h
    exact .inr (.inr ⟨_, rfl, lim_ok hl, q _ _ _ (.refl ex) (.str _)⟩)
  | _ => cases h

/-! ### built-ins -/
def lenD : List D → R D
  | [.lst ds] => .ok (.int ds.length)
  | [.tup ds] => .ok (.int ds.length)
  | [.scr ns] => .ok (.int ns.length)
  | _ => .stuck
def rLenX (K : PySem.W.Frag) : List V → Hp → VK → Prop := fun xs H Q => ∃ p ys, xs = [.ref p] ∧ (SqL K H p ys ∨ SqT K H p ys) ∧ Q (.int ys.length) H
theorem cr_lenX {X : Cx} : CallR X (.builtin "len") (rLenX X.K) := call_len_seq
theorem cs_len {K : PySem.W.Frag} {mg : Gm} : CSn K mg (rLenX K) lenD := by
  intro xs I H ds d Q ex rs h q
  cases rs with
  | nil => cases h
  | cons rx r =>
    cases r with
    | cons _ _ => cases rx <;> cases h
    | nil =>
      cases rx with
      | lst hh ra =>
        cases h
        refine ⟨_, _, rfl, .inl (SqL.of (ex _ _ hh)), ?_⟩
        rw [ra.len]
        exact q _ _ _ (.refl ex) (.int _)
      | tup hh ra =>
        cases h
        refine ⟨_, _, rfl, .inr (SqT.of (ex _ _ hh)), ?_⟩
        rw [ra.len]
        exact q _ _ _ (.refl ex) (.int _)
      | scr hh =>
        cases h
        refine ⟨_, _, rfl, .inl (ex.seq hh), ?_⟩
        rw [List.length_map]
        exact q _ _ _ (.refl ex) (.int _)
      | _ => cases h
def absD : List D → R D
  | [.int i] => .ok (.int (if i < 0 then -i else i))
  | _ => .stuck
theorem reps1 {K : PySem.W.Frag} {mg : Gm} {I : Hp} {xs : List V} {d : D} (r : Reps K mg I xs [d]) : ∃ v, xs = [v] ∧ Rep K mg I v d := by
  cases r with
  | cons a t =>
    cases t
    exact ⟨_, rfl, a⟩
theorem reps2 {K : PySem.W.Frag} {mg : Gm} {I : Hp} {xs : List V} {d e : D} (r : Reps K mg I xs [d, e]) : ∃ v w, xs = [v, w] ∧ Rep K mg I v d ∧ Rep K mg I w e := by
  cases r with
  | cons a t =>
    obtain ⟨w, rfl, b⟩ := reps1 t
    exact ⟨_, _, rfl, a, b⟩
theorem cs_abs {K : PySem.W.Frag} {mg : Gm} : CSn K mg (fun xs H Q => ∃ i, xs = [.int i] ∧ Q (.int (if i < 0 then -i else i)) H) absD := by
  intro xs I H ds d Q ex rs h q
  unfold absD at h
  split at h
  · cases h
    obtain ⟨v, rfl, r⟩ := reps1 rs
    cases r
    exact ⟨_, rfl, q _ _ _ (.refl ex) (.int _)⟩
  · cases h
def intD : List D → R D
  | [.int i] => .ok (.int i)
  | [.bl k] => .ok (.int (if k then 1 else 0))
  | _ => .stuck
theorem cs_int {K : PySem.W.Frag} {mg : Gm} : CSn K mg (fun xs H Q => (∃ i, xs = [.int i] ∧ Q (.int i) H) ∨ ∃ k, xs = [.bl k] ∧ Q (.int (if k then 1 else 0)) H) intD := by
  intro xs I H ds d Q ex rs h q
  unfold intD at h
  split at h
  · cases h
    obtain ⟨v, rfl, r⟩ := reps1 rs
    cases r
    exact .inl ⟨_, rfl, q _ _ _ (.refl ex) (.int _)⟩
  · cases h
    obtain ⟨v, rfl, r⟩ := reps1 rs
    cases r
    exact .inr ⟨_, rfl, q _ _ _ (.refl ex) (.int _)⟩
  · cases h
/-- list(xs), tuple(xs) -/
def listD : List D → R D
  | [.lst ds] => .ok (.lst ds)
  | [.tup ds] => .ok (.lst ds)
  | [.scr ns] => .ok (.lst (ns.map D.int))
  | _ => .stuck
def tupleD : List D → R D
  | [.lst ds] => .ok (.tup ds)
  | [.tup ds] => .ok (.tup ds)
  | [.scr ns] => .ok (.tup (ns.map D.int))
  | _ => .stuck
def rListOf (K : PySem.W.Frag) : List V → Hp → VK → Prop := fun xs H Q => ∃ p ys, xs = [.ref p] ∧ (SqL K H p ys ∨ SqT K H p ys) ∧ ∀ l, H l = none → Q (.ref l) (upd H l (.lst ys))
def rTupOf (K : PySem.W.Frag) : List V → Hp → VK → Prop := fun xs H Q => ∃ p ys, xs = [.ref p] ∧ ((SqL K H p ys ∧ ∀ l, H l = none → Q (.ref l) (upd H l (.tup ys))) ∨ (SqT K H p ys ∧ Q (.ref p) H))
theorem cr_listOf {X : Cx} : CallR X (.type "list") (rListOf X.K) := call_list_of
theorem cr_tupOf {X : Cx} : CallR X (.type "tuple") (rTupOf X.K) := call_tuple_of
theorem cs_list {K : PySem.W.Frag} {mg : Gm} : CSn K mg (rListOf K) listD := by
  intro xs I H ds d Q ex rs h q
  unfold listD at h
  split at h
  · cases h
    obtain ⟨v, rfl, r⟩ := reps1 rs
    cases r with
    | lst hh ra => exact ⟨_, _, rfl, .inl (SqL.of (ex _ _ hh)), fun p hp => q _ _ _ (.new ex hp) (new_lst ex hp ra)⟩
  · cases h
    obtain ⟨v, rfl, r⟩ := reps1 rs
    cases r with
    | tup hh ra => exact ⟨_, _, rfl, .inr (SqT.of (ex _ _ hh)), fun p hp => q _ _ _ (.new ex hp) (new_lst ex hp ra)⟩
  · cases h
    obtain ⟨v, rfl, r⟩ := reps1 rs
    cases r with
    | scr hh => exact ⟨_, _, rfl, .inl (ex.seq hh), fun p hp => q _ _ _ (.new ex hp) (new_lst ex hp .ints)⟩
  · cases h
theorem cs_tuple {K : PySem.W.Frag} {mg : Gm} : CSn K mg (rTupOf K) tupleD := by
  intro xs I H ds d Q ex rs h q
  unfold tupleD at h
  split at h
  · cases h
    obtain ⟨v, rfl, r⟩ := reps1 rs
    cases r with
    | lst hh ra => exact ⟨_, _, rfl, .inl ⟨SqL.of (ex _ _ hh), fun p hp => q _ _ _ (.new ex hp) (new_tup ex hp ra)⟩⟩
  · cases h
    obtain ⟨v, rfl, r⟩ := reps1 rs
    cases r with
    | tup hh ra => exact ⟨_, _, rfl, .inr ⟨SqT.of (ex _ _ hh), q _ _ _ (.refl ex) (.tup hh ra)⟩⟩
  · cases h
    obtain ⟨v, rfl, r⟩ := reps1 rs
    cases r with
    | scr hh => exact ⟨_, _, rfl, .inl ⟨ex.seq hh, fun p hp => q _ _ _ (.new ex hp) (new_tup ex hp .ints)⟩⟩
  · cases h
/-- sorted(xs), ints -/
def insI (x : Int) : List Int → List Int
  | [] => [x]
  | y :: ys => if x ≤ y then x :: y :: ys else y :: insI x ys
def sortI : List Int → List Int
  | [] => []
  | x :: xs => insI x (sortI xs)
theorem insI_perm (x : Int) : ∀ ys : List Int, (insI x ys).Perm (x :: ys)
  | [] => .refl _
  | y :: ys => by
    unfold insI
    split
    · exact .refl _
    · exact ((insI_perm x ys).cons y).trans (.swap x y ys)
theorem sortI_perm : ∀ xs : List Int, (sortI xs).Perm xs
  | [] => .refl _
  | x :: xs => (insI_perm x _).trans ((sortI_perm xs).cons x)
theorem insI_srt (x : Int) : ∀ ys : List Int, ys.Pairwise (· ≤ ·) → (insI x ys).Pairwise (· ≤ ·)
  | [], _ => List.pairwise_singleton _ _
  | y :: ys, h => by
    unfold insI
    split
    · rename_i hxy
      refine List.pairwise_cons.mpr ⟨fun z hz => ?_, h⟩
      rcases List.mem_cons.mp hz with e | hz
      · rw [e]
        exact hxy
      · exact Int.le_trans hxy ((List.pairwise_cons.mp h).1 z hz)
    · rename_i hxy
      refine List.pairwise_cons.mpr ⟨fun z hz => ?_, insI_srt x ys (List.pairwise_cons.mp h).2⟩
      rcases List.mem_cons.mp ((insI_perm x ys).mem_iff.mp hz) with e | hz
      · rw [e]
        omega
      · exact (List.pairwise_cons.mp h).1 z hz
theorem sortI_srt : ∀ xs : List Int, (sortI xs).Pairwise (· ≤ ·)
  | [] => .nil
  | x :: xs => insI_srt x _ (sortI_srt xs)
theorem srt_uniq : ∀ {xs ys : List Int}, xs.Perm ys → xs.Pairwise (· ≤ ·) → ys.Pairwise (· ≤ ·) → xs = ys
  | [], ys, p, _, _ => (List.Perm.nil_eq p)
  | x :: xs, [], p, _, _ => (List.Perm.eq_nil p)
  | x :: xs, y :: ys, p, hx, hy => by
    have e : x = y := by
      have h1 : x ∈ y :: ys := p.mem_iff.mp List.mem_cons_self
      have h2 : y ∈ x :: xs := p.mem_iff.mpr List.mem_cons_self
      rcases List.mem_cons.mp h1 with e | h1
      · exact e
      · rcases List.mem_cons.mp h2 with e | h2
        · exact e.symm
        · have a := (List.pairwise_cons.mp hx).1 y h2
          have b := (List.pairwise_cons.mp hy).1 x h1
          omega
    subst e
    rw [srt_uniq (List.perm_cons x |>.mp p) (List.pairwise_cons.mp hx).2 (List.pairwise_cons.mp hy).2]
def sortedD : List D → R D
  | [.lst ds] => match intsOf ds with
    | some ns => .ok (.lst ((sortI ns).map D.int))
    | none => .stuck
  | [.tup ds] => match intsOf ds with
    | some ns => .ok (.lst ((sortI ns).map D.int))
    | none => .stuck
  | _ => .stuck
section
open PyProof.Rows SrtO
/-- sorted of a list or a tuple, under a strict weak order -/
theorem sorted_seqO {prog : Program} {w : World} {A : Around} {E : Value → Shared → Prop} {s : Shared} {l : Addr} {T : String} {o : Obj} {vs : List Value} {n : Nat} {ltv : Value → Value → Bool} {Q : Value → Shared → Prop} (O : Swo ltv) (hT : T = "list" ∨ T = "tuple")
    (ho : s.heap.get? l = some o) (hc : o.cls = .type T) (hd : o.data = .seq vs.toArray n) (hz : vs.length ≤ sizeLine)
    (hS : 2 ≤ vs.length → ∀ (h₁ : Heap) (a : Addr), h₁.get? a = some (seqObj "list" vs.toArray 0) → (∀ b o, s.heap.get? b = some o → b ≠ a ∧ h₁.get? b = some o) → SortableO prog w A.in1.in1 { s with heap := h₁ } a vs ltv)
    (h : ∀ (h' : Heap) (out : List Value), (∀ b o, s.heap.get? b = some o → h'.get? b = some o) → Srtd ltv out → Stb ltv out vs → Q (.ref h'.objs.size) { s with heap := sortedHeap (h'.push (seqObj "list" vs.toArray 0)) h'.objs.size vs out.toArray }) :
    wpAny (model prog w) A (call (.builtin "sorted") [.ref l]) Q E s := by
  refine Calls.call_function_entry kind_sorted plain_sorted entry_sorted (args_sorted1 _) ?_
  unfold Builtin.«sorted»
  refine wpAny_bind (m := checkCount "sorted" 1 1 _) (wpAny_pure ?_)
  refine wpAny_bind (wpAny_collect_seq l hT ho hc hd (fun h' hk => ?_) (by simpa using hz))
  refine wpAny_bind (wpAny_newList ?_ (by simpa using hz))
  have hoL : (h'.push (seqObj "list" vs.toArray 0)).get? h'.objs.size = some (seqObj "list" vs.toArray 0) := Heap.get?_push_size _ rfl
  have keep : ∀ b o, s.heap.get? b = some o → b ≠ h'.objs.size ∧ (h'.push (seqObj "list" vs.toArray 0)).get? b = some o := fun b o q =>
    ⟨Nat.ne_of_lt (Heap.lt_size (hk b o q)), Heap.get?_push_of_some _ (hk b o q)⟩
  refine wpAny_bind (wpAny_holding (wpAny_call_entry slot_list_sort ⟨_, hoL, rfl⟩ entry_list_sort (list_sort_ord O hoL hz (fun h2 => hS h2 _ _ hoL keep) fun out hs hb => ⟨_, rfl, ?_⟩) (args_list_sort _)))
  exact wpAny_pure ⟨_, rfl, h h' out hk hs hb⟩
end
def rSortedX (K : PySem.W.Frag) : List V → Hp → VK → Prop := fun vs H Q => ∃ (a : Addr) (ns : List Int), vs = [V.ref a] ∧ (SqL K H a (ns.map V.int) ∨ SqT K H a (ns.map V.int)) ∧
  ∀ (ns' : List Int) (p : Addr), ns'.Perm ns → ns'.Pairwise (· ≤ ·) → H p = none → Q (.ref p) (upd H p (.lst (ns'.map V.int)))
theorem cr_sortedX {X : Cx} : CallR X (.builtin "sorted") (rSortedX X.K) := by
  intro pins s σ H vs us Q I r h
  obtain ⟨a, ns, rfl, hs, q⟩ := h
  have hx : ∃ (T : String) (o : Obj) (its : List Value) (n : Nat), (T = "list" ∨ T = "tuple") ∧ s.heap.get? a = some o ∧ o.cls = .type T ∧ o.data = .seq its.toArray n ∧ Vals (ns.map V.int) its ∧ (ns.map V.int).length ≤ sizeLine := by
    rcases hs with hs | hs
    · obtain ⟨its, rv, ⟨o, n, ho, hc, _, hd⟩, hz⟩ := I.list hs
      exact ⟨_, o, its, n, .inl rfl, ho, hc, hd, rv, hz⟩
    · obtain ⟨its, rv, ⟨o, ho, hc, n, hd⟩, hz⟩ := I.tuple hs
      exact ⟨_, o, its, n, .inr rfl, ho, hc, hd, rv, hz⟩
  obtain ⟨T, o, its, n, hT, ho, hc, hd, rv, hz⟩ := hx
  rw [Vals.ref1 r]
  have hi := rv.ints
  refine sorted_seqO SrtO.swo_int hT ho hc hd (by rw [← rv.length]; exact hz) (fun h2 h₁ a' _ _ => SrtO.ints_sortable hi h2) fun h' out hk h1 h2 => ?_
  obtain ⟨k1, k2, k3⟩ := SrtO.ints_out hi h1 h2
  have I' : Inv X pins σ H { s with heap := h' } := I.kept (t' := s.toks) hk
  have hlen : ((out.map SrtO.iv).map V.int).length ≤ sizeLine := by
    rw [List.length_map, k2.length_eq]
    rw [List.length_map] at hz
    exact hz
  obtain ⟨ep, he'⟩ := PyProof.Rows.sortedHeap_at (vs := its) (out := out.toArray) (n := 0) (h := h'.push (PyProof.Rows.seqObj "list" its.toArray 0)) (a := h'.objs.size) (Heap.get?_push_size _ rfl)
  refine ⟨.ref _, upd H h'.objs.size (.lst ((out.map SrtO.iv).map V.int)), I'.laid (t' := s.toks) (fun b u e => ?_) (Nat.le_refl _) ⟨hlen, out, ep, vals_of_ints k1, he'⟩, rfl, q _ _ k2 k3 (I'.hok.fresh (Nat.le_refl _))⟩
  have hlt : b < h'.objs.size := Heap.lt_size e
  rw [PyProof.Rows.sortedHeap_old (Nat.ne_of_lt hlt) (by rw [PyProof.Rows.size_push']; exact Nat.lt_succ_of_lt hlt)]
  exact Heap.get?_push_of_some _ e
/-- any, all of a list of bools -/
def blsOf : List D → Option (List Bool)
  | [] => some []
  | .bl b :: ds => (blsOf ds).map (b :: ·)
  | _ :: _ => none
theorem blsOf_map (bs : List Bool) : blsOf (bs.map D.bl) = some bs := by
  induction bs with
  | nil => rfl
  | cons n ns ih => rw [List.map_cons, blsOf, ih]; rfl
theorem reps_bls {K : PySem.W.Frag} {mg : Gm} {I : Hp} : ∀ {vs : List V} {ds : List D} {bs : List Bool}, Reps K mg I vs ds → blsOf ds = some bs → vs = bs.map V.bl
  | _, _, ns, .nil, h => by
    cases h
    rfl
  | _, _, ns, .cons (d := d) (ds := ds) a r, h => by
    cases a with
    | bl i =>
      cases e : blsOf ds with
      | none =>
        rw [blsOf, e] at h
        cases h
      | some ms =>
        rw [blsOf, e] at h
        cases h
        rw [reps_bls r e]
        rfl
    | _ => cases h
def anyD : List D → R D
  | [.lst ds] => match blsOf ds with
    | some bs => .ok (.bl (bs.any id))
    | none => .stuck
  | _ => .stuck
def allD : List D → R D
  | [.lst ds] => match blsOf ds with
    | some bs => .ok (.bl (bs.all id))
    | none => .stuck
  | _ => .stuck
theorem cs_any {K : PySem.W.Frag} {mg : Gm} : CSn K mg (rAny K) anyD := by
  intro xs I H ds d Q ex rs h q
  unfold anyD at h
  split at h
  · rename_i es
    obtain ⟨v, rfl, r⟩ := reps1 rs
    cases e : blsOf es with
    | none =>
      rw [e] at h
      cases h
    | some bs =>
      rw [e] at h
      cases h
      cases r with
      | lst hh ra =>
        cases reps_bls ra e
        exact ⟨_, bs, rfl, SqL.of (ex _ _ hh), q _ _ _ (.refl ex) (.bl _)⟩
  · cases h
theorem cs_all {K : PySem.W.Frag} {mg : Gm} : CSn K mg (rAll K) allD := by
  intro xs I H ds d Q ex rs h q
  unfold allD at h
  split at h
  · rename_i es
    obtain ⟨v, rfl, r⟩ := reps1 rs
    cases e : blsOf es with
    | none =>
      rw [e] at h
      cases h
    | some bs =>
      rw [e] at h
      cases h
      cases r with
      | lst hh ra =>
        cases reps_bls ra e
        exact ⟨_, bs, rfl, SqL.of (ex _ _ hh), q _ _ _ (.refl ex) (.bl _)⟩
  · cases h
/-- isinstance of a built-in class -/
def tyOf : D → Option String
  | .non => some "NoneType"
  | .bl _ => some "bool"
  | .int _ => some "int"
  | .str _ => some "str"
  | .lst _ => some "list"
  | .tup _ => some "tuple"
  | _ => none
def isiD : List D → R D
  | [x, .ty n] => match tyOf x with
    | some t => match kitB t n with
      | some b => .ok (.bl b)
      | none => .stuck
    | none => .stuck
  | _ => .stuck
theorem Rep.tyx {K : PySem.W.Frag} {mg : Gm} {I : Hp} {v : V} {d : D} {t : String} (r : Rep K mg I v d) (h : tyOf d = some t) : TyX K I v (.type t) := by
  cases r with
  | non => cases h; exact .base .non
  | bl b => cases h; exact .base (.bl b)
  | int i => cases h; exact .base (.int i)
  | str x => cases h; exact .base (.str x)
  | lst hh _ => cases h; exact .base (.lst hh)
  | tup hh _ =>
    cases h
    exact .base (.tup hh)
  | _ => cases h
theorem cs_isi {K : PySem.W.Frag} {mg : Gm} : CSn K mg (rIsi K) isiD := by
  intro xs I H ds d Q ex rs h q
  unfold isiD at h
  split at h
  · rename_i x n
    obtain ⟨v, w, rfl, r, r2⟩ := reps2 rs
    cases e : tyOf x with
    | none =>
      rw [e] at h
      cases h
    | some t =>
      rw [e] at h
      have h : (match kitB t n with | some b => R.ok (D.bl b) | none => .stuck) = R.ok d := h
      cases e2 : kitB t n with
      | none =>
        rw [e2] at h
        cases h
      | some b =>
        rw [e2] at h
        cases h
        cases r2
        exact ⟨v, _, _, _, b, rfl, .ty n, (r.mono ex).tyx e, kit_ty e2, q _ _ _ (.refl ex) (.bl _)⟩
  · cases h
end DL
namespace DL
open PySem PySem.Spec L2

/-! ### what is walked -/
def itemsD : D → R (List D)
  | .lst ds => .ok ds
  | .tup ds => .ok ds
  | .scr ns => .ok (ns.map D.int)
  | _ => .stuck
def its (a : R D) : R (List D) := a >>= itemsD
@[simp] theorem its_ok (d : D) : its (.ok d) = itemsD d := rfl
def rangeD (lo c : Int) (n : Nat) : List D := (List.range n).map fun i => .int (lo + (i : Nat) * c)
theorem rangeD_len (lo c : Int) (n : Nat) : (rangeD lo c n).length = n := by unfold rangeD; rw [List.length_map, List.length_range]
theorem rangeD_get {lo c : Int} {n i : Nat} {d : D} (h : (rangeD lo c n)[i]? = some d) : i < n ∧ d = .int (lo + (i : Nat) * c) := by
  unfold rangeD at h
  rw [List.getElem?_map] at h
  cases e : (List.range n)[i]? with
  | none =>
    rw [e] at h
    cases h
  | some j =>
    rw [e] at h
    obtain ⟨h1, h2⟩ := List.getElem?_eq_some_iff.mp e
    rw [List.length_range] at h1
    rw [List.getElem_range] at h2
    subst h2
    exact ⟨h1, (Option.some.inj h).symm⟩
section
variable {X : Cx} {E : Wh} {K : PySem.W.Frag} {mg : Gm} {I I' H H' : Hp} {σ : L2.St} {ρ : Env} {a b c e tg : Expr} {es : List Expr} {pos p : Pos} {m : Env → R D} {ms : Env → R (List D)} {t : TE} {tas : TA}
theorem PI.or {w1 w2 : TI} (h : PI X tg e w1) (h' : PI X tg e w2) : PI X tg e (fun σ H Rr => w1 σ H Rr ∨ w2 σ H Rr) := ⟨fun pins s σ H Rr I q => by
  rcases q with q | q
  · exact h.run pins s σ H Rr I q
  · exact h'.run pins s σ H Rr I q⟩
theorem it_list {a : Addr} {vs : List V} {ds : List D} (h : SqL K I a vs) (r : Reps K mg I vs ds) : ItOk K mg I (Itl K a) ds := fun I1 H e1 e2 => ⟨fun i d hd => by
    obtain ⟨v, hv, rv⟩ := r.get hd
    exact ⟨⟨vs, v, (e1.trans e2).seq h, hv⟩, fun x H' y => by
      obtain ⟨rfl, y⟩ := y
      have e := y vs ((e1.trans e2).seq h)
      rw [hv] at e
      cases e
      exact ⟨I1, .refl e2, rv.mono e1⟩⟩, ⟨vs, (e1.trans e2).seq h, Nat.le_of_eq r.len⟩⟩
theorem it_tup {a : Addr} {vs : List V} {ds : List D} (h : SqT K I a vs) (r : Reps K mg I vs ds) : ItOk K mg I (Itt K a) ds := fun I1 H e1 e2 => ⟨fun i d hd => by
    obtain ⟨v, hv, rv⟩ := r.get hd
    exact ⟨⟨vs, v, same_t (e1.trans e2) h, hv⟩, fun x H' y => by
      obtain ⟨rfl, y⟩ := y
      have e := y vs (same_t (e1.trans e2) h)
      rw [hv] at e
      cases e
      exact ⟨I1, .refl e2, rv.mono e1⟩⟩, ⟨vs, same_t (e1.trans e2) h, Nat.le_of_eq r.len⟩⟩
theorem it_rng {lo : Int} {n : Nat} : ItOk K mg I (Itr lo n) (rangeD lo 1 n) := fun I1 H e1 e2 => ⟨fun i d hd => by
    obtain ⟨h1, rfl⟩ := rangeD_get hd
    exact ⟨h1, fun x H' y => by
      obtain ⟨rfl, rfl⟩ := y
      refine ⟨I1, .refl e2, ?_⟩
      rw [Int.mul_one]
      exact .int _⟩, Nat.le_of_eq (rangeD_len _ _ _).symm⟩
theorem mi_seq (K : PySem.W.Frag) (h : ME X E e t m) (hK : X.K = K := by rfl) : MI X E tg e (fun σ H Rr => iList K t σ H Rr ∨ iTup K t σ H Rr) (fun ρ => its (m ρ)) := by
  subst hK
  obtain ⟨pt, st⟩ := h
  refine ⟨PI.or (pi_list pt) (pi_tup pt), fun σ I H ρ Q re ex h => ?_⟩
  have h : Out X.K (gm X E) (E.e σ) (ItOk X.K (gm X E)) I H (m ρ >>= itemsD) Q := h
  have fin : ∀ d, m ρ = .ok d → ((∃ ds, d = .lst ds) ∨ (∃ ns, d = .scr ns)) ∨ (∃ ds, d = .tup ds) := fun d e => by
    rw [e] at h
    cases d with
    | lst ds => exact .inl (.inl ⟨_, rfl⟩)
    | tup ds => exact .inr ⟨_, rfl⟩
    | scr ns => exact .inl (.inr ⟨_, rfl⟩)
    | _ => exact h.elim
  have go1 : (∀ d, m ρ = .ok d → (∃ ds, d = .lst ds) ∨ (∃ ns, d = .scr ns)) → iList X.K t σ H Q := fun hd => by
    refine st.run re ex h fun d v I1 H1 e s1 rx h => ?_
    rcases hd d e with ⟨ds, rfl⟩ | ⟨ns, rfl⟩
    · cases rx with
      | lst hh ra => exact ⟨_, rfl, ⟨_, SqL.of (s1.e _ _ hh)⟩, h.here s1.e (it_list (SqL.of hh) ra)⟩
    · cases rx with
      | scr hh => exact ⟨_, rfl, ⟨_, s1.e.seq hh⟩, h.here s1.e (it_list hh .ints)⟩
  have go2 : (∀ d, m ρ = .ok d → ∃ ds, d = .tup ds) → iTup X.K t σ H Q := fun hd => by
    refine st.run re ex h fun d v I1 H1 e s1 rx h => ?_
    obtain ⟨ds, rfl⟩ := hd d e
    cases rx with
    | tup hh ra => exact ⟨_, rfl, ⟨_, SqT.of (s1.e _ _ hh)⟩, h.here s1.e (it_tup (SqT.of hh) ra)⟩
  cases e : m ρ with
  | ok d =>
    rcases fin d e with hd | hd
    · exact .inl (go1 fun d' e' => by
        rw [e] at e'
        cases e'
        exact hd)
    · exact .inr (go2 fun d' e' => by
        rw [e] at e'
        cases e'
        exact hd)
  | err _ _ => exact .inl (go1 fun d' e' => by
      rw [e] at e'
      cases e')
  | stuck => exact .inl (go1 fun d' e' => by
      rw [e] at e'
      cases e')
def rg1 : List D → R (List D)
  | [.int j] => if -(2 ^ 62) ≤ j ∧ j < 2 ^ 62 then .ok (rangeD 0 1 j.toNat) else .stuck
  | _ => .stuck
theorem mi_rng1 (hg : Gl X "range") (hm : X.mg "range" = none) (ha : MA X E [a] tas ms) (hs : starEach [a] X.env = [(false, eval a X.env)] := by rfl) : MI X E tg (.Call (.Name "range" p) [a] [] pos) (iRng1 tas) (fun ρ => dsp rg1 (ms ρ)) := by
  obtain ⟨pt, st⟩ := ha
  refine ⟨pi_range1 hg hm pt hs, fun σ I H ρ Q re ex h => ?_⟩
  refine st.run re ex h fun ds vs I1 H1 _ s1 rs h => ?_
  unfold rg1 at h
  split at h
  · obtain ⟨⟨h1, h2⟩, h⟩ := out_if h
    obtain ⟨v, rfl, r⟩ := reps1 rs
    cases r
    exact ⟨_, rfl, h1, h2, h.here s1.e it_rng⟩
  · exact h.elim
/-! ### targets: which slots are stored -/
abbrev As := List (Nat × D)
def setE (ρ : Env) : As → Env
  | [] => ρ
  | (i, d) :: as => setE (ρ.set i (some d)) as
def setS (σ : L2.St) : List (Nat × V) → L2.St
  | [] => σ
  | (i, v) :: as => setS (σ.set i (some v)) as
inductive AR (K : PySem.W.Frag) (mg : Gm) (I : Hp) : List (Nat × V) → As → Prop
  | nil : AR K mg I [] []
  | cons {i : Nat} {v : V} {d : D} {us : List (Nat × V)} {as : As} : Rep K mg I v d → AR K mg I us as → AR K mg I ((i, v) :: us) ((i, d) :: as)
theorem AR.app {K : PySem.W.Frag} {mg : Gm} {I : Hp} : ∀ {us ws : List (Nat × V)} {as bs : As}, AR K mg I us as → AR K mg I ws bs → AR K mg I (us ++ ws) (as ++ bs)
  | _, _, _, _, .nil, s => s
  | _, _, _, _, .cons h r, s => .cons h (AR.app r s)
theorem setS_app (σ : L2.St) : ∀ us ws : List (Nat × V), setS σ (us ++ ws) = setS (setS σ us) ws
  | [], _ => rfl
  | (i, v) :: us, ws => setS_app (σ.set i (some v)) us ws
theorem AR.slots {K : PySem.W.Frag} {mg : Gm} {I : Hp} : ∀ {us : List (Nat × V)} {as : As}, AR K mg I us as → us.map (·.1) = as.map (·.1)
  | _, _, .nil => rfl
  | _, _, .cons (i := i) h r => congrArg (i :: ·) (AR.slots r)
def SnG (K : PySem.W.Frag) (mg : Gm) (g : TG) (ag : D → R As) : Prop :=
  ∀ (x : V) (σ : L2.St) (I H : Hp) (d : D) (as : As) (Q : L2.St → Hp → Prop), Same I H → Rep K mg I x d → ag d = .ok as → (∀ us, AR K mg I us as → Q (setS σ us) H) → g x σ H Q
def SnGs (K : PySem.W.Frag) (mg : Gm) (g : TGs) (ag : List D → R As) : Prop :=
  ∀ (xs : List V) (σ : L2.St) (I H : Hp) (ds : List D) (as : As) (Q : L2.St → Hp → Prop), Same I H → Reps K mg I xs ds → ag ds = .ok as → (∀ us, AR K mg I us as → Q (setS σ us) H) → g xs σ H Q
structure MG (X : Cx) (tg : Expr) (g : TG) (ag : D → R As) : Prop where
  pe : PG X tg g
  sn : ∀ xc, SnG X.K ⟨X.mg, xc⟩ g ag
structure MGs (X : Cx) (tgs : List Expr) (g : TGs) (ag : List D → R As) : Prop where
  pe : PGs X tgs g
  sn : ∀ xc, SnGs X.K ⟨X.mg, xc⟩ g ag
def agV (i : Nat) : D → R As := fun d => .ok [(i, d)]
def agN : List D → R As
  | [] => .ok []
  | _ => .stuck
def agC (ag : D → R As) (bg : List D → R As) : List D → R As
  | d :: ds => ag d >>= fun as => bg ds >>= fun bs => .ok (as ++ bs)
  | [] => .stuck
theorem mg_name (i : Nat) {x : Str} (hN : X.N.Nodup) (hi : X.N[i]? = some x := by rfl) (hx : Loc X.env.scope x := by first | exact .inl rfl | exact .inr rfl) (hf : X.fn x = true ∨ X.env.scope.names.lookup x = some .local := by first | exact .inl rfl | exact .inr rfl) : MG X (.Name x pos) (gName i) (agV i) :=
  ⟨pg_name hN hi hx hf, fun xc x σ I H d as Q ex r h q => by
    cases h
    exact q [(i, x)] (.cons r .nil)⟩
theorem mgs_nil : MGs X [] gNil agN := ⟨pgs_nil, fun xc xs σ I H ds as Q ex r h q => by
  cases r with
  | nil =>
    cases h
    exact ⟨rfl, q [] .nil⟩
  | cons _ _ => cases h⟩
theorem mgs_cons {ag : D → R As} {bg : List D → R As} {es : List Expr} {g : TG} {gs : TGs} (h1 : MG X e g ag) (h2 : MGs X es gs bg) (hs : (assignEach (e :: es) X.env).map (·.2) = assign e X.env :: (assignEach es X.env).map (·.2) := by rfl) : MGs X (e :: es) (gCons g gs) (agC ag bg) := by
  obtain ⟨pg, sg⟩ := h1
  obtain ⟨pgs, sgs⟩ := h2
  refine ⟨pgs_cons pg pgs hs, fun xc xs σ I H ds as Q ex r h q => ?_⟩
  cases r with
  | nil => cases h
  | @cons v vs d ds rv rs =>
    have h : (ag d >>= fun as => bg ds >>= fun bs => R.ok (as ++ bs)) = .ok as := h
    cases e1 : ag d with
    | ok a1 =>
      cases e2 : bg ds with
      | ok a2 =>
        rw [e1, ok_bind, e2, ok_bind] at h
        cases h
        refine ⟨v, vs, rfl, sg xc v σ I H d a1 _ ex rv e1 fun us ar => ?_⟩
        refine sgs xc vs _ I H ds a2 _ ex rs e2 fun ws ar2 => ?_
        rw [← setS_app]
        exact q _ (ar.app ar2)
      | err _ _ =>
        rw [e1, ok_bind, e2] at h
        cases h
      | stuck =>
        rw [e1, ok_bind, e2] at h
        cases h
    | err _ _ =>
      rw [e1] at h
      cases h
    | stuck =>
      rw [e1] at h
      cases h
def tupAs (n : Nat) (ag : List D → R As) : D → R As
  | .tup ds => if ds.length = n then ag ds else .stuck
  | _ => .stuck
theorem mg_tup (K : PySem.W.Frag) {ag : List D → R As} {k n : Nat} {g : TGs} (h : MGs X es g ag) (hK : X.K = K := by rfl) (hc : X.calm = true := by rfl) (hn : (assignEach es X.env).length = n := by rfl) (hst : (assignEach es X.env).findIdx? (·.1) = none := by rfl) : MG X (.Tuple es k pos) (gTup K n g) (tupAs n ag) := by
  obtain ⟨pg, sg⟩ := h
  subst hK
  refine ⟨pg_tup hc pg hn hst, fun xc x σ I H d as Q ex r h q => ?_⟩
  cases r with
  | @tup a vs ds hh ra =>
    have h : (if ds.length = n then ag ds else .stuck) = R.ok as := h
    by_cases hl : ds.length = n
    · rw [if_pos hl] at h
      exact ⟨a, vs, rfl, SqT.of (ex _ _ hh), ra.len.trans hl, sg xc vs σ I H ds as Q ex ra h q⟩
    · rw [if_neg hl] at h
      cases h
  | _ => cases h
end
theorem set_of_lt {α : Type} {l : List (Option α)} {i j : Nat} {a b : α} (h : (l.set i (some a))[j]? = some (some b)) : (i = j ∧ a = b) ∨ (i ≠ j ∧ l[j]? = some (some b)) := by
  by_cases e : i = j
  · subst e
    by_cases hl : i < l.length
    · rw [List.getElem?_set_self hl] at h
      exact .inl ⟨rfl, Option.some.inj (Option.some.inj h)⟩
    · rw [List.getElem?_eq_none (by rw [List.length_set]; omega)] at h
      cases h
  · rw [List.getElem?_set_ne e] at h
    exact .inr ⟨e, h⟩
theorem RE.set {K : PySem.W.Frag} {mg : Gm} {I : Hp} {σ : L2.St} {ρ : Env} {i : Nat} {v : V} {d : D} (h : RE K mg I σ ρ) (r : Rep K mg I v d) : RE K mg I (σ.set i (some v)) (ρ.set i (some d)) := ⟨by rw [List.length_set, List.length_set, h.len], fun j e q => by
  have hl := h.len
  rcases set_of_lt q with ⟨rfl, rfl⟩ | ⟨hne, q⟩
  · have hi : i < ρ.length := by
      have := (List.getElem?_eq_some_iff.mp q).1
      rw [List.length_set] at this
      exact this
    exact ⟨v, by rw [List.getElem?_set_self (by omega)], r⟩
  · rw [List.getElem?_set_ne hne]
    exact h.at_ j e q⟩
theorem RE.setAll {K : PySem.W.Frag} {mg : Gm} {I : Hp} {us : List (Nat × V)} {as : As} {σ : L2.St} {ρ : Env} (ar : AR K mg I us as) (h : RE K mg I σ ρ) : RE K mg I (setS σ us) (setE ρ as) := by
  induction ar generalizing σ ρ with
  | nil => exact h
  | cons r _ ih => exact ih (h.set r)
theorem wipe_setS {vs : List Nat} : ∀ {us : List (Nat × V)} {σ : L2.St}, (∀ p ∈ us, p.1 ∈ vs) → wipe (setS σ us) vs = wipe σ vs
  | [], σ, _ => rfl
  | (i, v) :: us, σ, h => by
    unfold setS
    rw [wipe_setS fun p hp => h p (List.mem_cons_of_mem _ hp)]
    exact wipe_set (h (i, v) List.mem_cons_self)
where
  wipe_set {vs : List Nat} {σ : L2.St} {i : Nat} {o : Option V} (hi : i ∈ vs) : wipe (σ.set i o) vs = wipe σ vs := by
    apply List.ext_getElem?
    intro j
    have key : ∀ (τ : L2.St) (vs : List Nat), (wipe τ vs)[j]? = if j ∈ vs then (if j < τ.length then some none else none) else τ[j]? := fun τ vs => by
      induction vs with
      | nil => simp [wipe]
      | cons v vs ih =>
        unfold wipe
        by_cases e : v = j
        · subst e
          simp only [List.mem_cons_self, if_true]
          by_cases hl : v < τ.length
          · rw [List.getElem?_set_self (by rw [wipe_length]; exact hl), if_pos hl]
          · rw [if_neg hl, List.getElem?_eq_none (by rw [List.length_set, wipe_length]; omega)]
        · rw [List.getElem?_set_ne e, ih]
          have : (j ∈ v :: vs) = (j ∈ vs) := by
            simp only [List.mem_cons, eq_iff_iff]
            exact ⟨fun h => h.elim (fun z => absurd z.symm e) id, .inr⟩
          simp only [this]
    rw [key, key]
    by_cases hj : j ∈ vs
    · rw [if_pos hj, if_pos hj, List.length_set]
    · rw [if_neg hj, if_neg hj, List.getElem?_set_ne (fun e : i = j => hj (by rw [← e]; exact hi))]
def wipeE (ρ : Env) : List Nat → Env
  | [] => ρ
  | v :: vs => (wipeE ρ vs).set v none
theorem wipeE_len (ρ : Env) : ∀ vs : List Nat, (wipeE ρ vs).length = ρ.length
  | [] => rfl
  | v :: vs => by unfold wipeE; rw [List.length_set, wipeE_len ρ vs]
theorem RE.wipe {K : PySem.W.Frag} {mg : Gm} {I : Hp} {σ : L2.St} {ρ : Env} (h : RE K mg I σ ρ) (vs : List Nat) : RE K mg I (L2.wipe σ vs) (wipeE ρ vs) := by
  induction vs with
  | nil => exact h
  | cons v vs ih =>
    refine ⟨by rw [wipe_length, wipeE_len, h.len], fun i d q => ?_⟩
    unfold wipeE at q
    unfold L2.wipe
    by_cases e : v = i
    · subst e
      by_cases hl : v < (wipeE ρ vs).length
      · rw [List.getElem?_set_self hl] at q
        cases q
      · rw [List.getElem?_eq_none (by rw [List.length_set]; omega)] at q
        cases q
    · rw [List.getElem?_set_ne e] at q
      rw [List.getElem?_set_ne e]
      exact ih.at_ i d q
end DL
namespace DL
open PySem PySem.Spec L2

/-- where the stored slots lie -/
def AgIn (ag : D → R As) (P : Nat → Prop) : Prop := ∀ d as, ag d = .ok as → ∀ p ∈ as, P p.1
/-! ### comprehensions -/
theorem wipe_at (τ : L2.St) (j : Nat) : ∀ vs : List Nat, (wipe τ vs)[j]? = if j ∈ vs then (if j < τ.length then some none else none) else τ[j]? := fun vs => by
  induction vs with
  | nil => simp [wipe]
  | cons v vs ih =>
    unfold wipe
    by_cases e : v = j
    · subst e
      simp only [List.mem_cons_self, if_true]
      by_cases hl : v < τ.length
      · rw [List.getElem?_set_self (by rw [wipe_length]; exact hl), if_pos hl]
      · rw [if_neg hl, List.getElem?_eq_none (by rw [List.length_set, wipe_length]; omega)]
    · rw [List.getElem?_set_ne e, ih]
      have : (j ∈ v :: vs) = (j ∈ vs) := by
        simp only [List.mem_cons, eq_iff_iff]
        exact ⟨fun h => h.elim (fun z => absurd z.symm e) id, .inr⟩
      simp only [this]
theorem wipe_wipe (σ : L2.St) (vs : List Nat) : wipe (wipe σ vs) vs = wipe σ vs := by
  apply List.ext_getElem?
  intro j
  rw [wipe_at (wipe σ vs) j vs, wipe_at σ j vs, wipe_length]
  by_cases hj : j ∈ vs
  · rw [if_pos hj, if_pos hj]
  · rw [if_neg hj, if_neg hj]
def lcGo (ag : D → R As) (mt : Env → R Bool) (me : Env → R D) (ρ : Env) : List D → R (List D)
  | [] => .ok []
  | d :: ds => calm (ag d) >>= fun as => calm (mt (setE ρ as)) >>= fun b => if b = true then calm (me (setE ρ as)) >>= fun y => lcGo ag mt me ρ ds >>= fun r => .ok (y :: r) else lcGo ag mt me ρ ds
def lcM (vs : List Nat) (mi : Env → R (List D)) (ag : D → R As) (mt : Env → R Bool) (me : Env → R D) : Env → R D :=
  fun ρ => mi ρ >>= fun ds => if ds.length ≤ LIM then (calm (lcGo ag mt me (wipeE ρ vs) ds) >>= fun r => .ok (.lst r)) else .stuck
theorem bind_ok {α β : Type} {r : R α} {f : α → R β} {b : β} (h : (r >>= f) = .ok b) : ∃ a, r = .ok a ∧ f a = .ok b := by
  cases r with
  | ok a => exact ⟨a, rfl, h⟩
  | err _ _ => cases h
  | stuck => cases h
/-- the accumulated list ahead of a turn -/
structure LcAt (K : PySem.W.Frag) (mg : Gm) (I1 H1 : Hp) (D0 : Addr) (n : Nat) (accD : List D) (I2 H : Hp) : Prop where
  i : Same I1 I2
  e : Same I2 H
  z : I2 D0 = none
  h : Same H1 H
  f : ∀ a o, I2 a = some o → I1 a = some o ∨ Fr H1 a o
  l : ∃ vs, H D0 = some (.lst vs) ∧ Reps K mg I2 vs accD ∧ vs.length ≤ n
section
variable {K : PySem.W.Frag} {mg : Gm} {I1 H1 I2 H I3 H3 : Hp} {D0 : Addr} {n : Nat} {accD : List D} {y : V} {d : D}
theorem LcAt.start (ex : Same I1 H1) (hD : H1 D0 = none) : LcAt K mg I1 H1 D0 0 [] I1 (upd H1 D0 (.lst [])) :=
  ⟨.refl _, (Stp.side ex hD).e, ex.free hD, (Stp.side ex hD).h, fun _ _ h => .inl h, [], upd_same, .nil, Nat.le_refl _⟩
theorem LcAt.step (p : LcAt K mg I1 H1 D0 n accD I2 H) (s : Stp I2 H I3 H3) : LcAt K mg I1 H1 D0 n accD I3 H3 := by
  obtain ⟨vs, h1, h2, h3⟩ := p.l
  refine ⟨p.i.trans s.i, s.e, ?_, p.h.trans s.h, fun a o h => ?_, vs, s.h _ _ h1, h2.mono s.i, h3⟩
  · cases q : I3 D0 with
    | none => rfl
    | some o =>
      rcases s.f _ _ q with z | z | z
      · rw [p.z] at z
        cases z
      · rw [h1] at z
        cases z
      · have y := s.e _ _ q
        rw [s.h _ _ h1] at y
        cases y
        exact z.elim
  · rcases s.f a o h with z | z | z
    · exact p.f a o z
    · exact .inr (.inl (p.h.free z))
    · exact .inr (.inr z)
theorem LcAt.push (p : LcAt K mg I1 H1 D0 n accD I2 H) (hD : H1 D0 = none) (r : Rep K mg I2 y d) (hn : n < LIM) : ∃ acc, H D0 = some (.lst acc) ∧ acc.length < sizeLine ∧ LcAt K mg I1 H1 D0 (n + 1) (accD ++ [d]) I2 (upd H D0 (.lst (acc ++ [y]))) := by
  obtain ⟨vs, h1, h2, h3⟩ := p.l
  refine ⟨vs, h1, lim_lt (by omega), p.i, fun a o q => ?_, p.z, fun a o q => ?_, p.f, vs ++ [y], upd_same, h2.app (.cons r .nil), by rw [List.length_append, List.length_singleton]; omega⟩
  · rw [upd_ne (ne_of_none q p.z)]
    exact p.e _ _ q
  · rw [upd_ne (ne_of_none q hD)]
    exact p.h _ _ q
theorem LcAt.skip (p : LcAt K mg I1 H1 D0 n accD I2 H) : LcAt K mg I1 H1 D0 (n + 1) accD I2 H := by
  obtain ⟨vs, h1, h2, h3⟩ := p.l
  exact ⟨p.i, p.e, p.z, p.h, p.f, vs, h1, h2, by omega⟩
theorem LcAt.done (p : LcAt K mg I1 H1 D0 n accD I2 H) (hD : H1 D0 = none) : ∃ I', Stp I1 H1 I' H ∧ Rep K mg I' (.ref D0) (.lst accD) := by
  obtain ⟨vs, h1, h2, h3⟩ := p.l
  have k : Same I2 (upd I2 D0 (.lst vs)) := fun a o q => by
    rw [upd_ne (ne_of_none q p.z)]
    exact q
  refine ⟨upd I2 D0 (.lst vs), ⟨p.i.trans k, p.h, fun a o q => ?_, fun a o q => ?_⟩, .lst upd_same (h2.mono k)⟩
  · by_cases e : a = D0
    · subst e
      rw [upd_same] at q
      rw [h1]
      exact q
    · rw [upd_ne e] at q
      exact p.e _ _ q
  · by_cases e : a = D0
    · subst e
      exact .inr (.inl hD)
    · rw [upd_ne e] at q
      exact p.f _ _ q
end
section
variable {X : Cx} {E : Wh} {elt tg iter : Expr} {ifs : List Expr} {scope : Scope} {own : List (Str × Nat)} {pos : Pos} {wi : TI} {g : TG} {tt : TT} {te : TE} {mi : Env → R (List D)} {ag : D → R As} {mt : Env → R Bool} {me : Env → R D}
theorem lc_core {K : PySem.W.Frag} {mg : Gm} {E1 : XK} {vs : List Nat} {σ : L2.St} {ρ : Env} {I1 H1 : Hp} {ds : List D} {J : It} {Q : VK} (sg : SnG K mg g ag) (st : Sn K mg (fun _ => E0) rB tt mt) (se : Sn K mg (fun _ => E0) (Rep K mg) te me) (hv : ∀ d as, ag d = .ok as → ∀ p ∈ as, p.1 ∈ vs) (re : RE K mg I1 σ ρ) (ex : Same I1 H1) (it : ItOk K mg I1 J ds)
    (h : Out K mg E1 (Rep K mg) I1 H1 (if ds.length ≤ LIM then (calm (lcGo ag mt me (wipeE ρ vs) ds) >>= fun r => .ok (.lst r)) else .stuck) Q) : tLc (fun _ H R => R J H) g tt te vs σ H1 Q := by
  intro D0 hD
  obtain ⟨hl, h⟩ := out_if h
  cases eo : lcGo ag mt me (wipeE ρ vs) ds with
  | err _ _ =>
    rw [eo] at h
    exact h.elim
  | stuck =>
    rw [eo] at h
    exact h.elim
  | ok out =>
    rw [eo] at h
    refine ⟨fun i m H => m = ds.length - i ∧ i ≤ ds.length ∧ ∃ I2 accD r, LcAt K mg I1 H1 D0 i accD I2 H ∧ lcGo ag mt me (wipeE ρ vs) (ds.drop i) = .ok r ∧ accD ++ r = out, ⟨ds.length, by simp, Nat.zero_le _, I1, [], out, .start ex hD, eo, rfl⟩, ?_⟩
    rintro i m H2 ⟨rfl, hi, I2, accD, r, p, hr, ho⟩
    have hit := it I2 H2 p.i p.e
    by_cases hlt : i < ds.length
    · have hd : ds[i]? = some ds[i] := List.getElem?_eq_getElem hlt
      obtain ⟨hgo, hy⟩ := hit.1 i _ hd
      refine .inr ⟨hgo, fun H' => ∃ I2 accD r, LcAt K mg I1 H1 D0 (i + 1) accD I2 H' ∧ lcGo ag mt me (wipeE ρ vs) (ds.drop (i + 1)) = .ok r ∧ accD ++ r = out, fun H' hN => ⟨ds.length - (i + 1), by omega, rfl, hlt, hN⟩, fun x H' y => ?_⟩
      obtain ⟨I3, s3, rx⟩ := hy x H' y
      rw [List.drop_eq_getElem_cons hlt] at hr
      unfold lcGo at hr
      obtain ⟨as, ha, hr⟩ := bind_ok hr
      have ha := calm_of ha
      obtain ⟨b, hb, hr⟩ := bind_ok hr
      have hb := calm_of hb
      refine sg x _ I3 H' _ as _ s3.e rx ha fun us ar => ?_
      have hus : ∀ p ∈ us, p.1 ∈ vs := fun p hp => by
        have hm : p.1 ∈ as.map (·.1) := by
          rw [← ar.slots]
          exact List.mem_map_of_mem hp
        obtain ⟨q, hq, e⟩ := List.mem_map.mp hm
        rw [← e]
        exact hv _ _ ha q hq
      refine ⟨by rw [wipe_setS hus, wipe_wipe], ?_⟩
      have re3 : RE K mg I3 (setS (wipe σ vs) us) (setE (wipeE ρ vs) as) := RE.setAll ar ((re.mono (p.i.trans s3.i)).wipe vs)
      have p3 := p.step s3
      refine st _ I3 H' _ _ re3 s3.e ?_
      rw [hb]
      intro b' I4 H4 s4 eb
      have eb : b' = b := eb
      subst eb
      have p4 := p3.step s4
      cases b' with
      | true =>
        show te _ H4 _
        rw [if_pos rfl] at hr
        obtain ⟨yd, hyd, hr⟩ := bind_ok hr
        have hyd := calm_of hyd
        obtain ⟨r', hr', hr⟩ := bind_ok hr
        cases hr
        refine se _ I4 H4 _ _ (re3.mono s4.i) s4.e ?_
        rw [hyd]
        intro yv I5 H5 s5 ry
        obtain ⟨acc, h1, h2, p5⟩ := (p4.step s5).push hD ry (by omega)
        exact ⟨acc, h1, h2, I5, _, r', p5, hr', by rw [List.append_assoc]; exact ho⟩
      | false =>
        rw [if_neg (by decide)] at hr
        exact ⟨I4, accD, r, p4.skip, hr, ho⟩
    · have e : i = ds.length := by omega
      subst e
      rw [List.drop_length] at hr
      cases hr
      obtain ⟨I', s', r'⟩ := p.done hD
      rw [List.append_nil] at ho
      subst ho
      exact .inl ⟨hit.2, h.there s' r'⟩
theorem lc_snd {K : PySem.W.Frag} {mg : Gm} {vs : List Nat} (si : Sn K mg E.e (ItOk K mg) wi mi) (sg : SnG K mg g ag) (st : Sn K mg (fun _ => E0) rB tt mt) (se : Sn K mg (fun _ => E0) (Rep K mg) te me) (hv : ∀ d as, ag d = .ok as → ∀ p ∈ as, p.1 ∈ vs) :
    Sn K mg E.e (Rep K mg) (tLc wi g tt te vs) (lcM vs mi ag mt me) := fun σ I H ρ Q re ex h => by
  refine si.run re ex h fun ds J I1 H1 _ s1 it h => ?_
  exact lc_core sg st se hv (re.mono s1.i) s1.e it h
theorem me_lc (hc : X.calm = true) (hN : X.N.Nodup) (hi : MI X E tg iter wi mi) (ok : BlkOk X.N X.env.scope scope own)
    (hg : ∀ (s : Shared) (H : Hp) (C : Addr) (cl : List (Str × Addr)) (fp : List Addr), MG (X.blk s H scope (compEnvC scope cl C X.env) fp) tg g ag) (ht : ∀ (s : Shared) (H : Hp) (C : Addr) (cl : List (Str × Addr)) (fp : List Addr), MTs (X.blk s H scope (compEnvC scope cl C X.env) fp) E.calm ifs tt mt)
    (he : ∀ (s : Shared) (H : Hp) (C : Addr) (cl : List (Str × Addr)) (fp : List Addr), ME (X.blk s H scope (compEnvC scope cl C X.env) fp) E.calm elt te me) (hv : AgIn ag (· ∈ own.map (·.2))) (hs : ∀ x, foldedSetIterable iter X.env x = pure x := by intro _; rfl) :
    ME X E (.ListComp elt [⟨tg, iter, ifs, 0⟩] scope pos) (tLc wi g tt te (own.map (·.2))) (lcM (own.map (·.2)) mi ag mt me) :=
  ⟨pe_lc hc hN hi.pe ok (fun s H C cl fp => (hg s H C cl fp).pe) (fun s H C cl fp => (ht s H C cl fp).pe) (fun s H C cl fp => (he s H C cl fp).pe) hs,
    lc_snd hi.sn ((hg X.s_0 X.H_0 0 [] []).sn _) (ht X.s_0 X.H_0 0 [] []).sn (he X.s_0 X.H_0 0 [] []).sn hv⟩
end
end DL
namespace DL
open PySem PySem.Spec L2

/-! ### statements -/
inductive Fl where
  | nx (ρ : Env) | rt (d : D) | bk (ρ : Env) | ct (ρ : Env) | rf (ds : List D) | rd (ds : List D)
/-- a thing of one's own and what it is as data -/
inductive OwnR (K : PySem.W.Frag) (mg : Gm) (I : Hp) : HO → D → Prop
  | lst {vs : List V} {ds : List D} : Reps K mg I vs ds → OwnR K mg I (.lst vs) (.lst ds)
  | dk {kvs : List (Key × V)} {ds : List D} : Reps K mg I (kvs.map (·.2)) ds → OwnR K mg I (.dK kvs) (.dk (kvs.map (·.1)) ds)
  | dt {kvs : List (List Key × V)} {ds : List D} : Reps K mg I (kvs.map (·.2)) ds → OwnR K mg I (.dT kvs) (.dt (kvs.map (·.1)) ds)
  | ins {C dx : Addr} {n : Str} {fs : List (Str × V)} {ds : List D} : mg n = some (.ref C) → Reps K mg I (fs.map (·.2)) ds → OwnR K mg I (.ins C dx fs) (.obj n (fs.map (·.1)) ds)
theorem OwnR.mono {K : PySem.W.Frag} {mg : Gm} {I I' : Hp} (e : Same I I') {o : HO} {d : D} (h : OwnR K mg I o d) : OwnR K mg I' o d := by
  cases h with
  | lst r => exact .lst (r.mono e)
  | dk r => exact .dk (r.mono e)
  | dt r => exact .dt (r.mono e)
  | ins c r => exact .ins c (r.mono e)
theorem OwnR.noTup {K : PySem.W.Frag} {mg : Gm} {I : Hp} {o : HO} {d : D} (h : OwnR K mg I o d) : ¬ TupO o := fun t => by
  cases h <;> exact t
theorem OwnR.rep {K : PySem.W.Frag} {mg : Gm} {I : Hp} {o : HO} {d : D} {p : Addr} (h : OwnR K mg I o d) (hp : I p = some o) : Rep K mg I (.ref p) d := by
  cases h with
  | lst r => exact .lst hp r
  | dk r => exact .dk (.inl hp) r
  | dt r => exact .dt (.inl hp) r
  | ins c r => exact .obj hp c r
/-! ### what may be kept although things of one's own were read: data in which nothing is of their kind -/
def D.kind : D → Nat
  | .lst _ => 0
  | .dk _ _ => 1
  | .dt _ _ => 2
  | .obj _ _ _ => 3
  | _ => 4
mutual
def D.has (k : Nat) : D → Bool
  | .lst ds => k == 0 || D.hasAny k ds
  | .tup ds => D.hasAny k ds
  | .scr _ => k == 0
  | .obj _ _ ds => k == 3 || D.hasAny k ds
  | .dk _ ds => k == 1 || D.hasAny k ds
  | .dt _ ds => k == 2 || D.hasAny k ds
  | .exc _ _ ds => D.hasAny k ds
  | _ => false
def D.hasAny (k : Nat) : List D → Bool
  | [] => false
  | d :: ds => D.has k d || D.hasAny k ds
end
/-- the slot's thing holds lists of one's own: it stands twice -/
def deep (M : List Nat) (i : Nat) : Bool := decide (2 ≤ M.count i)
def keepOk (M : List Nat) (ρ : Env) (d : D) : Bool := M.all fun i => match ρ[i]? with
  | some (some d0) => !(d.has d0.kind) && (!(deep M i) || !(d.has 0))
  | _ => true
/-- an object of the heap of that kind -/
def HO.kd : HO → Nat
  | .lst _ => 0
  | .dK _ => 1
  | .dT _ => 2
  | .ins _ _ _ => 3
  | _ => 4
theorem OwnR.kd4 {K : PySem.W.Frag} {mg : Gm} {I : Hp} {o : HO} {d : D} (h : OwnR K mg I o d) : HO.kd o < 4 := by
  cases h with
  | lst _ => exact (by decide : 0 < 4)
  | dk _ => exact (by decide : 1 < 4)
  | dt _ => exact (by decide : 2 < 4)
  | ins _ _ => exact (by decide : 3 < 4)
theorem OwnR.kd {K : PySem.W.Frag} {mg : Gm} {I : Hp} {o : HO} {d : D} (h : OwnR K mg I o d) : HO.kd o = d.kind := by
  cases h <;> rfl
/-- the things that a thing holds -/
def hvals : HO → List V
  | .lst vs => vs
  | .dK kvs => kvs.map (·.2)
  | .dT kvs => kvs.map (·.2)
  | _ => []
/-- a list of one's own within a thing of one's own -/
def Kid (K : PySem.W.Frag) (mg : Gm) (I He H : Hp) (v : V) (d : D) : Prop := ∃ q ws es, v = .ref q ∧ d = .lst es ∧ I q = none ∧ He q = none ∧ H q = some (.lst ws) ∧ Reps K mg I ws es
inductive Kids (K : PySem.W.Frag) (mg : Gm) (I He H : Hp) : List V → List D → Prop
  | nil : Kids K mg I He H [] []
  | cons {v : V} {d : D} {vs : List V} {ds : List D} : Kid K mg I He H v d → Kids K mg I He H vs ds → Kids K mg I He H (v :: vs) (d :: ds)
inductive OwnD (K : PySem.W.Frag) (mg : Gm) (I He H : Hp) : HO → D → Prop
  | lst {vs : List V} {ds : List D} : Kids K mg I He H vs ds → OwnD K mg I He H (.lst vs) (.lst ds)
  | dk {kvs : List (Key × V)} {ds : List D} : Kids K mg I He H (kvs.map (·.2)) ds → OwnD K mg I He H (.dK kvs) (.dk (kvs.map (·.1)) ds)
  | dt {kvs : List (List Key × V)} {ds : List D} : Kids K mg I He H (kvs.map (·.2)) ds → OwnD K mg I He H (.dT kvs) (.dt (kvs.map (·.1)) ds)
def OwnX (K : PySem.W.Frag) (mg : Gm) (M : List Nat) (i : Nat) (I He H : Hp) (p : Addr) (o : HO) (d : D) : Prop := if deep M i = true then OwnD K mg I He H o d ∧ (hvals o).Nodup ∧ V.ref p ∉ (hvals o) else OwnR K mg I o d
/-- the addresses that are the slot's own -/
abbrev ownA (M : List Nat) (H : Hp) (i : Nat) (p a : Addr) : Prop := a = p ∨ (deep M i = true ∧ ∃ o, H p = some o ∧ V.ref a ∈ (hvals o))
/-- the slots of M hold lists of the def's own that nothing else holds; all other data lie in I, which is never changed -/
structure SE (K : PySem.W.Frag) (mg : Gm) (M : List Nat) (Ie : Hp × Addr) (He : Hp) (σ : L2.St) (I H : Hp) (ρ : Env) : Prop where
  st : Stp Ie.1 He I H
  len : σ.length = ρ.length
  imm : ∀ (i : Nat) (d : D), i ∉ M → ρ[i]? = some (some d) → ∃ v, σ[i]? = some (some v) ∧ Rep K mg I v d
  own_ : ∀ (i : Nat) (d : D), i ∈ M → ρ[i]? = some (some d) → ∃ p o, σ[i]? = some (some (.ref p)) ∧ I p = none ∧ He p = none ∧ H p = some o ∧ OwnX K mg M i I He H p o d
  dis : ∀ (i j : Nat) (p p' : Addr) (d e : D), i ∈ M → j ∈ M → i ≠ j → ρ[i]? = some (some d) → ρ[j]? = some (some e) → σ[i]? = some (some (.ref p)) → σ[j]? = some (some (.ref p')) → ∀ a, ownA M H i p a → ownA M H j p' a → False
  /-- an own object is the one that is being made -/
  slf : ∀ (i : Nat) (d : D) (p : Addr), i ∈ M → ρ[i]? = some (some d) → σ[i]? = some (some (.ref p)) → d.kind = 3 → p = Ie.2
/-- I0: what the data lay in at the start -/
def OutS (K : PySem.W.Frag) (mg : Gm) (E : XK) (Mb M : List Nat) (Ie : Hp × Addr) (He I0 : Hp) (D : Ends) (r : R Fl) : Prop := match r with
  | .ok (.nx ρ) => ∀ σ I H, SE K mg M Ie He σ I H ρ → Same I0 I → D.nx σ H
  | .ok (.bk ρ) => ∀ σ I H, SE K mg Mb Ie He σ I H ρ → Same I0 I → D.bk σ H
  | .ok (.ct ρ) => ∀ σ I H, SE K mg Mb Ie He σ I H ρ → Same I0 I → D.ct σ H
  | .ok (.rt d) => ∀ v I H, Stp Ie.1 He I H → Rep K mg I v d → D.rt v H
  | .ok (.rf ds) => ∀ p vs I H, Stp Ie.1 He I H → I p = none → He p = none → H p = some (.lst vs) → Reps K mg I vs ds → D.rt (.ref p) H
  | .ok (.rd ds) => ∀ p vs I H, Stp Ie.1 He I H → I p = none → He p = none → H p = some (.lst vs) → Kids K mg I He H vs ds → vs.Nodup → V.ref p ∉ vs → D.rt (.ref p) H
  | .err nm ds => ∀ C od I H, Stp Ie.1 He I H → XRep K mg I H nm ds C od → E C od H
  | .stuck => False
def SnS (K : PySem.W.Frag) (mg : Gm) (E : XK) (Mb M M' : List Nat) (ts : TS) (ms : Env → R Fl) : Prop :=
  ∀ (Ie : Hp × Addr) (He : Hp) (σ : L2.St) (I H : Hp) (ρ : Env) (D : Ends), SE K mg M Ie He σ I H ρ → OutS K mg E Mb M' Ie He I D (ms ρ) → ts D σ H
structure MS (X : Cx) (E : XK) (Mb M M' : List Nat) (s : Stmt) (ts : TS) (ms : Env → R Fl) : Prop where
  pe : PS X s ts
  sn : SnS X.K (g0 X.mg) E Mb M M' ts ms
structure MSs (X : Cx) (E : XK) (Mb M M' : List Nat) (s : List Stmt) (ts : TS) (ms : Env → R Fl) : Prop where
  pe : PSs X s ts
  sn : SnS X.K (g0 X.mg) E Mb M M' ts ms

section
variable {K : PySem.W.Frag} {mg : Gm} {E : XK} {Mb M M' : List Nat} {Ie : Hp × Addr} {He I H I' H' : Hp} {σ : L2.St} {ρ : Env} {v : V} {d : D} {vs0 : List V}
theorem wipeE_at (τ : Env) (j : Nat) : ∀ vs : List Nat, (wipeE τ vs)[j]? = if j ∈ vs then (if j < τ.length then some none else none) else τ[j]? := fun vs => by
  induction vs with
  | nil => simp [wipeE]
  | cons v vs ih =>
    unfold wipeE
    by_cases e : v = j
    · subst e
      simp only [List.mem_cons_self, if_true]
      by_cases hl : v < τ.length
      · rw [List.getElem?_set_self (by rw [wipeE_len]; exact hl), if_pos hl]
      · rw [if_neg hl, List.getElem?_eq_none (by rw [List.length_set, wipeE_len]; omega)]
    · rw [List.getElem?_set_ne e, ih]
      have : (j ∈ v :: vs) = (j ∈ vs) := by
        simp only [List.mem_cons, eq_iff_iff]
        exact ⟨fun h => h.elim (fun z => absurd z.symm e) id, .inr⟩
      simp only [this]
theorem wipeE_some {τ : Env} {j : Nat} {vs : List Nat} {d : D} (h : (wipeE τ vs)[j]? = some (some d)) : j ∉ vs ∧ τ[j]? = some (some d) := by
  rw [wipeE_at] at h
  by_cases hj : j ∈ vs
  · rw [if_pos hj] at h
    split at h <;> cases h
  · rw [if_neg hj] at h
    exact ⟨hj, h⟩
/-- what the slots beside M hold -/
theorem SE.re (s : SE K mg M Ie He σ I H ρ) : RE K mg I σ (wipeE ρ M) := ⟨by rw [wipeE_len]; exact s.len, fun i d q => by
  obtain ⟨h1, h2⟩ := wipeE_some q
  exact s.imm i d h1 h2⟩
theorem Kid.step (h : Kid K mg I He H v d) (t : Stp I H I' H') : Kid K mg I' He H' v d := by
  obtain ⟨q, ws, es, h1, h2, h3, h4, h5, h6⟩ := h
  refine ⟨q, ws, es, h1, h2, ?_, h4, t.h _ _ h5, h6.mono t.i⟩
  cases z : I' q with
  | none => rfl
  | some o =>
    rcases t.f _ _ z with y | y | y
    · rw [h3] at y
      cases y
    · rw [h5] at y
      cases y
    · have w := t.e _ _ z
      rw [t.h _ _ h5] at w
      cases w
      exact y.elim
theorem Kids.step (t : Stp I H I' H') : ∀ {vs : List V} {ds : List D}, Kids K mg I He H vs ds → Kids K mg I' He H' vs ds
  | _, _, .nil => .nil
  | _, _, .cons h r => .cons (h.step t) (Kids.step t r)
theorem OwnD.step {o : HO} {d : D} (h : OwnD K mg I He H o d) (t : Stp I H I' H') : OwnD K mg I' He H' o d := by
  cases h with
  | lst r => exact .lst (r.step t)
  | dk r => exact .dk (r.step t)
  | dt r => exact .dt (r.step t)
theorem OwnX.of {i : Nat} {p : Addr} {o : HO} {d : D} (h : OwnX K mg M i I He H p o d) (hd : deep M i = false) : OwnR K mg I o d := by
  unfold OwnX at h
  rw [hd] at h
  exact h
theorem OwnX.mk {i : Nat} {p : Addr} {o : HO} {d : D} (h : OwnR K mg I o d) (hd : deep M i = false) : OwnX K mg M i I He H p o d := by
  unfold OwnX
  rw [hd]
  exact h
theorem OwnX.ofD {i : Nat} {p : Addr} {o : HO} {d : D} (h : OwnX K mg M i I He H p o d) (hd : deep M i = true) : OwnD K mg I He H o d ∧ (hvals o).Nodup ∧ V.ref p ∉ (hvals o) := by
  unfold OwnX at h
  rw [if_pos hd] at h
  exact h
theorem OwnX.mkD {i : Nat} {p : Addr} {o : HO} {d : D} (h : OwnD K mg I He H o d ∧ (hvals o).Nodup ∧ V.ref p ∉ (hvals o)) (hd : deep M i = true) : OwnX K mg M i I He H p o d := by
  unfold OwnX
  rw [if_pos hd]
  exact h
theorem OwnX.noTup {i : Nat} {p : Addr} {o : HO} {d : D} (h : OwnX K mg M i I He H p o d) : ¬ TupO o := by
  cases hd : deep M i with
  | false => exact (h.of hd).noTup
  | true =>
    have h := (h.ofD hd).1
    intro y
    cases h <;> exact y
theorem OwnX.step {i : Nat} {p : Addr} {o : HO} {d : D} (h : OwnX K mg M i I He H p o d) (t : Stp I H I' H') : OwnX K mg M i I' He H' p o d := by
  cases hd : deep M i with
  | false => exact .mk ((h.of hd).mono t.i) hd
  | true =>
    obtain ⟨h1, h2, h3⟩ := h.ofD hd
    exact .mkD ⟨h1.step t, h2, h3⟩ hd
/-- which addresses are one's own does not change by a step -/
theorem ownA.step {i : Nat} {p a : Addr} {o : HO} (hp : H p = some o) (t : Same H H') (h : ownA M H' i p a) : ownA M H i p a := by
  rcases h with h | ⟨hd, o', ho, hm⟩
  · exact .inl h
  · rw [t _ _ hp] at ho
    cases ho
    exact .inr ⟨hd, o, hp, hm⟩
/-- nothing that stood is changed: the slots stand -/
theorem SE.step (s : SE K mg M Ie He σ I H ρ) (t : Stp I H I' H') : SE K mg M Ie He σ I' H' ρ where
  st := s.st.trans t
  len := s.len
  imm := fun i d hi q => by
    obtain ⟨v, a, b⟩ := s.imm i d hi q
    exact ⟨v, a, b.mono t.i⟩
  own_ := fun i d hi q => by
    obtain ⟨p, o, h2, h3, h4, h5, h6⟩ := s.own_ i d hi q
    refine ⟨p, o, h2, ?_, h4, t.h _ _ h5, h6.step t⟩
    cases z : I' p with
    | none => rfl
    | some o =>
      rcases t.f _ _ z with y | y | y
      · rw [h3] at y
        cases y
      · rw [h5] at y
        cases y
      · have w := t.e _ _ z
        rw [t.h _ _ h5] at w
        cases w
        exact (h6.noTup y).elim
  dis := fun i j p p' d e hi hj hne q1 q2 g1 g2 a a1 a2 => by
    obtain ⟨p1, o1, h2, _, _, h5, _⟩ := s.own_ i d hi q1
    obtain ⟨p2, o2, k2, _, _, k5, _⟩ := s.own_ j e hj q2
    rw [g1] at h2
    cases h2
    rw [g2] at k2
    cases k2
    exact s.dis i j p p' d e hi hj hne q1 q2 g1 g2 a (a1.step h5 t.h) (a2.step k5 t.h)
  slf := s.slf
theorem count_cons_ne {i j : Nat} (h : i ≠ j) : (i :: M).count j = M.count j := List.count_cons_of_ne (by simpa using h)
theorem deep_cons_ne {i j : Nat} (h : i ≠ j) : deep (i :: M) j = deep M j := by
  unfold deep
  rw [count_cons_ne h]
theorem deep_cons {i : Nat} (h : i ∈ M) : deep (i :: M) i = true := by
  unfold deep
  rw [List.count_cons_self]
  have := List.count_pos_iff.mpr h
  exact decide_eq_true (by omega)
theorem deep_not {i : Nat} (h : i ∉ M) : deep (i :: M) i = false := by
  unfold deep
  rw [List.count_cons_self, List.count_eq_zero_of_not_mem h]
  rfl
theorem Kids.at_ : ∀ {vs : List V} {ds : List D} {v : V}, Kids K mg I He H vs ds → v ∈ vs → ∃ d, Kid K mg I He H v d
  | _, _, _, .nil, h => by simp at h
  | _, _, v, .cons k r, h => by
    rcases List.mem_cons.mp h with rfl | h
    · exact ⟨_, k⟩
    · exact Kids.at_ r h
theorem OwnD.kids {o : HO} {d : D} (h : OwnD K mg I He H o d) {v : V} (hv : v ∈ (hvals o)) : ∃ d, Kid K mg I He H v d := by
  cases h with
  | lst r => exact r.at_ hv
  | dk r => exact r.at_ hv
  | dt r => exact r.at_ hv
theorem OwnD.kd {o : HO} {d : D} (h : OwnD K mg I He H o d) : HO.kd o = d.kind ∧ HO.kd o < 4 := by
  cases h with
  | lst _ => exact ⟨rfl, by show 0 < 4; decide⟩
  | dk _ => exact ⟨rfl, by show 1 < 4; decide⟩
  | dt _ => exact ⟨rfl, by show 2 < 4; decide⟩
/-- the lists within lie in I -/
theorem Kids.reps (hs : Same I I') (hk : ∀ q, V.ref q ∈ (vs0 : List V) → I' q = H q) : ∀ {vs : List V} {ds : List D}, (∀ v ∈ vs, v ∈ vs0) → Kids K mg I He H vs ds → Reps K mg I' vs ds
  | _, _, _, .nil => .nil
  | _, _, hm, .cons k r => by
    obtain ⟨q, ws, es, rfl, rfl, h3, h4, h5, h6⟩ := k
    refine .cons (.lst ((hk q (hm _ List.mem_cons_self)).trans h5) (h6.mono hs)) (Kids.reps hs hk (fun v hv => hm v (List.mem_cons_of_mem _ hv)) r)
theorem OwnD.flat {o : HO} {d : D} (h : OwnD K mg I He H o d) (hs : Same I I') (hk : ∀ q, V.ref q ∈ (hvals o) → I' q = H q) : OwnR K mg I' o d := by
  cases h with
  | lst r => exact .lst (r.reps hs hk fun _ h => h)
  | dk r => exact .dk (r.reps hs hk fun _ h => h)
  | dt r => exact .dt (r.reps hs hk fun _ h => h)
theorem OwnX.other {i : Nat} {p : Addr} {o : HO} {d : D} (h : OwnX K mg M i I He H p o d) (hp : H p = some o) (hs : Same I I') (hn : ∀ a, ownA M H i p a → I' a = none) : OwnX K mg M i I' He H p o d := by
  cases hd : deep M i with
  | false => exact .mk ((h.of hd).mono hs) hd
  | true =>
    obtain ⟨h1, h2, h3⟩ := h.ofD hd
    have kk : ∀ {vs : List V} {ds : List D}, (∀ v ∈ vs, v ∈ (hvals o)) → Kids K mg I He H vs ds → Kids K mg I' He H vs ds := by
      intro vs ds hm k
      induction k with
      | nil => exact .nil
      | cons k r ih =>
        obtain ⟨q, ws, es, rfl, rfl, g3, g4, g5, g6⟩ := k
        exact .cons ⟨q, ws, es, rfl, rfl, hn q (.inr ⟨hd, o, hp, hm _ List.mem_cons_self⟩), g4, g5, g6.mono hs⟩ (ih fun v hv => hm v (List.mem_cons_of_mem _ hv))
    refine .mkD ⟨?_, h2, h3⟩ hd
    cases h1 with
    | lst r => exact .lst (kk (fun _ h => h) r)
    | dk r => exact .dk (kk (fun _ h => h) r)
    | dt r => exact .dt (kk (fun _ h => h) r)
theorem OwnX.cons {i j : Nat} {p : Addr} {o : HO} {d : D} (h : OwnX K mg (i :: M) j I He H p o d) (hne : i ≠ j) : OwnX K mg M j I He H p o d := by
  unfold OwnX at h ⊢
  rw [deep_cons_ne hne] at h
  exact h
theorem ownA.cons {i j : Nat} {p a : Addr} (h : ownA M H j p a) : ownA (i :: M) H j p a := by
  rcases h with h | ⟨hd, h⟩
  · exact .inl h
  · refine .inr ⟨?_, h⟩
    unfold deep at hd ⊢
    have := of_decide_eq_true hd
    refine decide_eq_true (Nat.le_trans this ?_)
    rw [List.count_cons]
    exact Nat.le_add_right _ _
/-- what is new in I when a slot is changed no more -/
def Nw (M : List Nat) (ρ : Env) (i : Nat) (o : HO) : Prop := ∃ d, ρ[i]? = some (some d) ∧ (HO.kd o = d.kind ∨ (deep M i = true ∧ HO.kd o = 0)) ∧ HO.kd o < 4
/-- a thing of one's own is changed no more (of one that holds lists of one's own: these are changed no more) -/
theorem SE.freeze2 (i : Nat) (s : SE K mg (i :: M) Ie He σ I H ρ) : ∃ I', Same I I' ∧ SE K mg M Ie He σ I' H ρ ∧ ∀ a o, I' a = some o → I a = some o ∨ Nw (i :: M) ρ i o := by
  cases q0 : (ρ : List (Option D))[i]? with
  | none =>
    have ne : ∀ j d, (ρ : List (Option D))[j]? = some (some d) → i ≠ j := fun j d q e => by
      subst e
      rw [q0] at q
      cases q
    exact ⟨I, .refl _, ⟨s.st, s.len, fun j d hj q => s.imm j d (fun z => (List.mem_cons.mp z).elim (fun e => ne j d q e.symm) hj) q, fun j d hj q => by
      obtain ⟨p, o, h2, h3, h4, h5, h6⟩ := s.own_ j d (List.mem_cons_of_mem _ hj) q
      exact ⟨p, o, h2, h3, h4, h5, h6.cons (ne j d q)⟩, fun j k p p' d e a b hne q1 q2 g1 g2 x x1 x2 => s.dis j k p p' d e (List.mem_cons_of_mem _ a) (List.mem_cons_of_mem _ b) hne q1 q2 g1 g2 x x1.cons x2.cons, fun j d p hj q => s.slf j d p (List.mem_cons_of_mem _ hj) q⟩, fun _ _ q => .inl q⟩
  | some ov =>
    cases ov with
    | none =>
      have ne : ∀ j d, (ρ : List (Option D))[j]? = some (some d) → i ≠ j := fun j d q e => by
        subst e
        rw [q0] at q
        cases q
      exact ⟨I, .refl _, ⟨s.st, s.len, fun j d hj q => s.imm j d (fun z => (List.mem_cons.mp z).elim (fun e => ne j d q e.symm) hj) q, fun j d hj q => by
        obtain ⟨p, o, h2, h3, h4, h5, h6⟩ := s.own_ j d (List.mem_cons_of_mem _ hj) q
        exact ⟨p, o, h2, h3, h4, h5, h6.cons (ne j d q)⟩, fun j k p p' d e a b hne q1 q2 g1 g2 x x1 x2 => s.dis j k p p' d e (List.mem_cons_of_mem _ a) (List.mem_cons_of_mem _ b) hne q1 q2 g1 g2 x x1.cons x2.cons, fun j d p hj q => s.slf j d p (List.mem_cons_of_mem _ hj) q⟩, fun _ _ q => .inl q⟩
    | some d0 =>
      obtain ⟨p, ob, h2, h3, h4, h5, h6⟩ := s.own_ i d0 List.mem_cons_self q0
      by_cases him : i ∈ M
      · have hdp := deep_cons him
        obtain ⟨hD, hnd, hnp⟩ := h6.ofD hdp
        by_cases hd2 : deep M i = true
        · refine ⟨I, .refl _, ⟨s.st, s.len, fun j d hj q => s.imm j d (fun z => (List.mem_cons.mp z).elim (fun e => hj (e ▸ him)) hj) q, fun j d hj q => ?_, fun j k p p' d e a b hne q1 q2 g1 g2 x x1 x2 => s.dis j k p p' d e (List.mem_cons_of_mem _ a) (List.mem_cons_of_mem _ b) hne q1 q2 g1 g2 x x1.cons x2.cons, fun j d p hj q => s.slf j d p (List.mem_cons_of_mem _ hj) q⟩, fun _ _ q => .inl q⟩
          obtain ⟨p1, o1, k2, k3, k4, k5, k6⟩ := s.own_ j d (List.mem_cons_of_mem _ hj) q
          refine ⟨p1, o1, k2, k3, k4, k5, ?_⟩
          by_cases e : i = j
          · subst e
            exact .mkD (k6.ofD hdp) hd2
          · exact k6.cons e
        · have hd2 : deep M i = false := by simpa using hd2
          let I' : Hp := fun a => if V.ref a ∈ (hvals ob) then H a else I a
          have kid : ∀ a, V.ref a ∈ (hvals ob) → I a = none ∧ He a = none ∧ ∃ ws, H a = some (.lst ws) := fun a ha => by
            obtain ⟨d, q, ws, es, e1, _, g3, g4, g5, _⟩ := hD.kids ha
            cases e1
            exact ⟨g3, g4, ws, g5⟩
          have k : Same I I' := fun a o z => by
            show (if V.ref a ∈ (hvals ob) then H a else I a) = some o
            by_cases ha : V.ref a ∈ (hvals ob)
            · rw [(kid a ha).1] at z
              cases z
            · rw [if_neg ha]
              exact z
          have kin : ∀ a, V.ref a ∈ (hvals ob) → I' a = H a := fun a ha => if_pos ha
          have kout : ∀ a, V.ref a ∉ (hvals ob) → I' a = I a := fun a ha => if_neg ha
          have own' : ∀ a, V.ref a ∈ (hvals ob) → ownA (i :: M) H i p a := fun a ha => .inr ⟨hdp, ob, h5, ha⟩
          refine ⟨I', k, ⟨⟨s.st.i.trans k, s.st.h, fun a o z => ?_, fun a o z => ?_⟩, s.len, fun j d hj q => ?_, fun j d hj q => ?_, fun j l p1 p2 d e a b hne q1 q2 g1 g2 x x1 x2 => s.dis j l p1 p2 d e (List.mem_cons_of_mem _ a) (List.mem_cons_of_mem _ b) hne q1 q2 g1 g2 x x1.cons x2.cons, fun j d p hj q => s.slf j d p (List.mem_cons_of_mem _ hj) q⟩, fun a o z => ?_⟩
          · by_cases ha : V.ref a ∈ (hvals ob)
            · rw [kin a ha] at z
              exact z
            · rw [kout a ha] at z
              exact s.st.e _ _ z
          · by_cases ha : V.ref a ∈ (hvals ob)
            · exact .inr (.inl (kid a ha).2.1)
            · rw [kout a ha] at z
              exact s.st.f _ _ z
          · obtain ⟨v, x, y⟩ := s.imm j d (fun z => (List.mem_cons.mp z).elim (fun e => hj (e ▸ him)) hj) q
            exact ⟨v, x, y.mono k⟩
          · by_cases e : i = j
            · subst e
              rw [q0] at q
              cases q
              exact ⟨p, ob, h2, by rw [kout p hnp]; exact h3, h4, h5, .mk (hD.flat k kin) hd2⟩
            · obtain ⟨p1, o1, g2, g3, g4, g5, g6⟩ := s.own_ j d (List.mem_cons_of_mem _ hj) q
              have dd : ∀ a, ownA (i :: M) H j p1 a → V.ref a ∉ (hvals ob) := fun a ha hv => s.dis i j p p1 d0 d List.mem_cons_self (List.mem_cons_of_mem _ hj) e q0 q h2 g2 a (own' a hv) ha
              have none_ : ∀ a, ownA (i :: M) H j p1 a → I' a = none := fun a ha => by
                rw [kout a (dd a ha)]
                rcases ha with rfl | ⟨hdj, o2, ho2, hv⟩
                · exact g3
                · rw [g5] at ho2
                  cases ho2
                  obtain ⟨_, q', ws, es, e1, _, g3', _⟩ := (g6.ofD hdj).1.kids hv
                  cases e1
                  exact g3'
              exact ⟨p1, o1, g2, none_ p1 (.inl rfl), g4, g5, (g6.other g5 k none_).cons e⟩
          · by_cases ha : V.ref a ∈ (hvals ob)
            · obtain ⟨_, _, ws, hw⟩ := kid a ha
              rw [kin a ha, hw] at z
              cases z
              exact .inr ⟨d0, q0, .inr ⟨hdp, rfl⟩, by show 0 < 4; decide⟩
            · rw [kout a ha] at z
              exact .inl z
      · have hdn := deep_not him
        have hR := h6.of hdn
        have k : Same I (upd I p ob) := fun a o q => by
          rw [upd_ne (ne_of_none q h3)]
          exact q
        have h9 : HO.kd ob = d0.kind ∧ HO.kd ob < 4 := ⟨hR.kd, hR.kd4⟩
        refine ⟨upd I p ob, k, ⟨⟨s.st.i.trans k, s.st.h, fun a o q => ?_, fun a o q => ?_⟩, s.len, fun j d hj q => ?_, fun j d hj q => ?_, fun j l p1 p2 d e a b hne q1 q2 g1 g2 x x1 x2 => s.dis j l p1 p2 d e (List.mem_cons_of_mem _ a) (List.mem_cons_of_mem _ b) hne q1 q2 g1 g2 x x1.cons x2.cons, fun j d p hj q => s.slf j d p (List.mem_cons_of_mem _ hj) q⟩, fun a o q => by
          by_cases e : a = p
          · subst e
            rw [upd_same] at q
            cases q
            exact .inr ⟨d0, q0, .inl h9.1, h9.2⟩
          · rw [upd_ne e] at q
            exact .inl q⟩
        · by_cases e : a = p
          · subst e
            rw [upd_same] at q
            rw [h5]
            exact q
          · rw [upd_ne e] at q
            exact s.st.e _ _ q
        · by_cases e : a = p
          · subst e
            exact .inr (.inl h4)
          · rw [upd_ne e] at q
            exact s.st.f _ _ q
        · by_cases e : j = i
          · subst e
            rw [q0] at q
            cases q
            exact ⟨_, h2, (hR.mono k).rep upd_same⟩
          · obtain ⟨v, a, b⟩ := s.imm j d (fun z => (List.mem_cons.mp z).elim e hj) q
            exact ⟨v, a, b.mono k⟩
        · have e : i ≠ j := fun e => him (e ▸ hj)
          obtain ⟨p', o', g2, g3, g4, g5, g6⟩ := s.own_ j d (List.mem_cons_of_mem _ hj) q
          have none_ : ∀ a, ownA (i :: M) H j p' a → (upd I p ob) a = none := fun a ha => by
            have hne : a ≠ p := fun z => by
              subst z
              exact s.dis i j a p' _ _ List.mem_cons_self (List.mem_cons_of_mem _ hj) e q0 q h2 g2 a (.inl rfl) ha
            rw [upd_ne hne]
            rcases ha with rfl | ⟨hdj, o2, ho2, hv⟩
            · exact g3
            · rw [g5] at ho2
              cases ho2
              obtain ⟨_, q', ws, es, e1, _, g3', _⟩ := (g6.ofD hdj).1.kids hv
              cases e1
              exact g3'
          exact ⟨p', o', g2, none_ p' (.inl rfl), g4, g5, (g6.other g5 k none_).cons e⟩
theorem SE.freeze (i : Nat) (s : SE K mg (i :: M) Ie He σ I H ρ) : ∃ I', Same I I' ∧ SE K mg M Ie He σ I' H ρ := by
  obtain ⟨I', a, b, _⟩ := s.freeze2 i
  exact ⟨I', a, b⟩
theorem deep_more {i j : Nat} (h : deep M j = true) : deep (i :: M) j = true := by
  unfold deep at h ⊢
  have := of_decide_eq_true h
  refine decide_eq_true (Nat.le_trans this ?_)
  rw [List.count_cons]
  exact Nat.le_add_right _ _
theorem SE.all2 : ∀ {M : List Nat} {I : Hp}, SE K mg M Ie He σ I H ρ → ∃ I', Same I I' ∧ SE K mg [] Ie He σ I' H ρ ∧ ∀ a o, I' a = some o → I a = some o ∨ ∃ i ∈ M, Nw M ρ i o
  | [], I, s => ⟨I, .refl _, s, fun _ _ q => .inl q⟩
  | i :: M, I, s => by
    obtain ⟨I1, k1, s1, f1⟩ := s.freeze2 i
    obtain ⟨I2, k2, s2, f2⟩ := SE.all2 s1
    refine ⟨I2, k1.trans k2, s2, fun a o q => ?_⟩
    rcases f2 a o q with q | ⟨j, hj, d, q1, q2, q3⟩
    · rcases f1 a o q with q | q
      · exact .inl q
      · exact .inr ⟨i, List.mem_cons_self, q⟩
    · exact .inr ⟨j, List.mem_cons_of_mem _ hj, d, q1, q2.imp id (fun z => ⟨deep_more z.1, z.2⟩), q3⟩
theorem SE.all : ∀ {M : List Nat} {I : Hp}, SE K mg M Ie He σ I H ρ → ∃ I', Same I I' ∧ SE K mg [] Ie He σ I' H ρ
  | [], I, s => ⟨I, .refl _, s⟩
  | i :: M, I, s => by
    obtain ⟨I1, k1, s1⟩ := s.freeze i
    obtain ⟨I2, k2, s2⟩ := SE.all s1
    exact ⟨I2, k1.trans k2, s2⟩
/-- a slot beside M is stored -/
theorem SE.set {i : Nat} {v : V} {d : D} (s : SE K mg M Ie He σ I H ρ) (hi : i ∉ M) (r : Rep K mg I v d) : SE K mg M Ie He (σ.set i (some v)) I H (ρ.set i (some d)) where
  st := s.st
  len := by rw [List.length_set, List.length_set, s.len]
  imm := fun j e hj q => by
    rcases set_of_lt q with ⟨rfl, rfl⟩ | ⟨hne, q⟩
    · have hl := (List.getElem?_eq_some_iff.mp q).1
      rw [List.length_set] at hl
      exact ⟨v, List.getElem?_set_self (by rw [s.len]; exact hl), r⟩
    · rw [List.getElem?_set_ne hne]
      exact s.imm j e hj q
  own_ := fun j e hj q => by
    have hne : i ≠ j := fun z => hi (z ▸ hj)
    rw [List.getElem?_set_ne hne] at q
    rw [List.getElem?_set_ne hne]
    exact s.own_ j e hj q
  dis := fun j k p p' d e hj hk hne q1 q2 h1 h2 => by
    have n1 : i ≠ j := fun z => hi (z ▸ hj)
    have n2 : i ≠ k := fun z => hi (z ▸ hk)
    rw [List.getElem?_set_ne n1] at q1 h1
    rw [List.getElem?_set_ne n2] at q2 h2
    exact s.dis j k p p' d e hj hk hne q1 q2 h1 h2
  slf := fun j e p hj q h => by
    have hne : i ≠ j := fun z => hi (z ▸ hj)
    rw [List.getElem?_set_ne hne] at q h
    exact s.slf j e p hj q h
theorem SE.setAll {us : List (Nat × V)} {as : As} (ar : AR K mg I us as) : ∀ {σ : L2.St} {ρ : Env}, SE K mg M Ie He σ I H ρ → (∀ p ∈ as, p.1 ∉ M) → SE K mg M Ie He (setS σ us) I H (setE ρ as) := by
  induction ar with
  | nil => exact fun s _ => s
  | cons r _ ih => exact fun s h => ih (s.set (h _ List.mem_cons_self) r) fun p hp => h p (List.mem_cons_of_mem _ hp)
theorem Kid.grow (h : Kid K mg I He H v d) (t : Same H H') : Kid K mg I He H' v d := by
  obtain ⟨q, ws, es, h1, h2, h3, h4, h5, h6⟩ := h
  exact ⟨q, ws, es, h1, h2, h3, h4, t _ _ h5, h6⟩
/-- the lists within stand as they were -/
theorem Kids.keep : ∀ {vs : List V} {ds : List D}, (∀ q, V.ref q ∈ vs → H' q = H q) → Kids K mg I He H vs ds → Kids K mg I He H' vs ds
  | _, _, _, .nil => .nil
  | _, _, hk, .cons k r => by
    obtain ⟨q, ws, es, rfl, rfl, h3, h4, h5, h6⟩ := k
    exact .cons ⟨q, ws, es, rfl, rfl, h3, h4, (hk q List.mem_cons_self).trans h5, h6⟩ (Kids.keep (fun q hq => hk q (List.mem_cons_of_mem _ hq)) r)
theorem OwnD.keep {o : HO} {d : D} (h : OwnD K mg I He H o d) (hk : ∀ q, V.ref q ∈ hvals o → H' q = H q) : OwnD K mg I He H' o d := by
  cases h with
  | lst r => exact .lst (r.keep hk)
  | dk r => exact .dk (r.keep hk)
  | dt r => exact .dt (r.keep hk)
theorem OwnX.keep {i : Nat} {p : Addr} {o : HO} {d : D} (h : OwnX K mg M i I He H p o d) (hp : H p = some o) (hk : ∀ a, ownA M H i p a → H' a = H a) : OwnX K mg M i I He H' p o d := by
  cases hd : deep M i with
  | false => exact .mk (h.of hd) hd
  | true =>
    obtain ⟨h1, h2, h3⟩ := h.ofD hd
    exact .mkD ⟨h1.keep fun q hq => hk q (.inr ⟨hd, o, hp, hq⟩), h2, h3⟩ hd
/-- H alone grew -/
theorem SE.grow (s : SE K mg M Ie He σ I H ρ) (t : Same H H') : SE K mg M Ie He σ I H' ρ :=
  ⟨⟨s.st.i, s.st.h.trans t, s.st.e.trans t, s.st.f⟩, s.len, s.imm, fun i d hi q => by
    obtain ⟨p, o, h2, h3, h4, h5, h6⟩ := s.own_ i d hi q
    refine ⟨p, o, h2, h3, h4, t _ _ h5, ?_⟩
    cases hd : deep M i with
    | false => exact .mk (h6.of hd) hd
    | true =>
      obtain ⟨k1, k2, k3⟩ := h6.ofD hd
      refine .mkD ⟨k1.keep fun q hq => ?_, k2, k3⟩ hd
      obtain ⟨_, q', ws, es, e1, _, _, _, g5, _⟩ := k1.kids hq
      cases e1
      rw [g5]
      exact t _ _ g5, fun i j p p' d e hi hj hne q1 q2 g1 g2 a a1 a2 => by
    obtain ⟨p1, o1, h2, _, _, h5, _⟩ := s.own_ i d hi q1
    obtain ⟨p2, o2, k2, _, _, k5, _⟩ := s.own_ j e hj q2
    rw [g1] at h2
    cases h2
    rw [g2] at k2
    cases k2
    exact s.dis i j p p' d e hi hj hne q1 q2 g1 g2 a (a1.step h5 t) (a2.step k5 t), s.slf⟩
/-- what is a slot's own stands -/
theorem SE.stands (s : SE K mg M Ie He σ I H ρ) {j : Nat} {p2 a : Addr} {d : D} (hj : j ∈ M) (z : ρ[j]? = some (some d)) (g : σ[j]? = some (some (.ref p2))) (ha : ownA M H j p2 a) : H a ≠ none := fun e => by
  obtain ⟨p3, o3, k2, k3, k4, k5, k6⟩ := s.own_ j d hj z
  rw [g] at k2
  cases k2
  rcases ha with rfl | ⟨hd, o, ho, hm⟩
  · rw [k5] at e
    cases e
  · rw [k5] at ho
    cases ho
    obtain ⟨_, q', ws, es, e1, _, _, _, w5, _⟩ := (k6.ofD hd).1.kids hm
    cases e1
    rw [w5] at e
    cases e
/-- a thing of one's own is changed -/
theorem SE.putX {i : Nat} {p : Addr} {ob : HO} {d0 d9 : D} (s : SE K mg M Ie He σ I H ρ) (hi : i ∈ M) (q : ρ[i]? = some (some d0)) (hp : σ[i]? = some (some (.ref p))) (r : OwnX K mg M i I He (upd H p ob) p ob d9) (hk : d9.kind = 3 → d0.kind = 3) (hv : deep M i = true → ∀ a, V.ref a ∈ hvals ob → ownA M H i p a ∨ ∀ j p2 d, j ∈ M → i ≠ j → ρ[j]? = some (some d) → σ[j]? = some (some (.ref p2)) → ¬ ownA M H j p2 a) : SE K mg M Ie He σ I (upd H p ob) (ρ.set i (some d9)) := by
  obtain ⟨p', o', h2, h3, h4, h5, h6⟩ := s.own_ i _ hi q
  rw [hp] at h2
  cases h2
  have hil : i < ρ.length := (List.getElem?_eq_some_iff.mp q).1
  have far : ∀ j p2 d, j ∈ M → i ≠ j → ρ[j]? = some (some d) → σ[j]? = some (some (.ref p2)) → ∀ a, ownA M H j p2 a → a ≠ p := fun j p2 d hj hne z g a ha e => by
    subst e
    exact s.dis i j a p2 _ _ hi hj hne q z hp g a (.inl rfl) ha
  have back : ∀ j p2 d a, j ∈ M → i ≠ j → ρ[j]? = some (some d) → σ[j]? = some (some (.ref p2)) → ownA M (upd H p ob) j p2 a → ownA M H j p2 a := fun j p2 d a hj hne z g ha => by
    rcases ha with ha | ⟨hd, o, ho, hm⟩
    · exact .inl ha
    · rw [upd_ne (far j p2 d hj hne z g p2 (.inl rfl))] at ho
      exact .inr ⟨hd, o, ho, hm⟩
  refine ⟨⟨s.st.i, fun a o z => ?_, fun a o z => ?_, s.st.f⟩, by rw [List.length_set]; exact s.len, fun j d hj z => ?_, fun j d hj z => ?_, fun j k p1 p2 d e hj hk2 hne q1 q2 g1 g2 a a1 a2 => ?_, fun j d p' hj z g h => ?_⟩
  · rw [upd_ne (ne_of_none z h4)]
    exact s.st.h _ _ z
  · rw [upd_ne (ne_of_none z h3)]
    exact s.st.e _ _ z
  · rcases set_of_lt z with ⟨rfl, _⟩ | ⟨_, z⟩
    · exact absurd hi hj
    · exact s.imm j d hj z
  · rcases set_of_lt z with ⟨rfl, rfl⟩ | ⟨hne, z⟩
    · exact ⟨p, ob, hp, h3, h4, upd_same, r⟩
    · obtain ⟨p2, o2, g2, g3, g4, g5, g6⟩ := s.own_ j d hj z
      exact ⟨p2, o2, g2, g3, g4, by rw [upd_ne (far j p2 d hj hne z g2 p2 (.inl rfl))]; exact g5, g6.keep g5 fun a ha => upd_ne (far j p2 d hj hne z g2 a ha)⟩
  · -- the slot's own addresses: what they were, or new ones
    have mine : ∀ a, ownA M (upd H p ob) i p a → ownA M H i p a ∨ ∀ j p2 d, j ∈ M → i ≠ j → ρ[j]? = some (some d) → σ[j]? = some (some (.ref p2)) → ¬ ownA M H j p2 a := fun a ha => by
      rcases ha with ha | ⟨hd, o, ho, hm⟩
      · exact .inl (.inl ha)
      · rw [upd_same] at ho
        cases ho
        exact hv hd a hm
    by_cases ej : i = j
    · subst ej
      rcases set_of_lt q1 with ⟨_, _⟩ | ⟨z, _⟩
      · rcases set_of_lt q2 with ⟨z, _⟩ | ⟨_, q2⟩
        · exact hne z
        · rw [hp] at g1
          cases g1
          have a2 := back k p2 e a hk2 hne q2 g2 a2
          rcases mine a a1 with a1 | a1
          · exact s.dis i k p p2 d0 e hi hk2 hne q q2 hp g2 a a1 a2
          · exact a1 k p2 e hk2 hne q2 g2 a2
      · exact z rfl
    · rcases set_of_lt q1 with ⟨z, _⟩ | ⟨_, q1⟩
      · exact ej z
      · have a1 := back j p1 d a hj ej q1 g1 a1
        by_cases ek : i = k
        · subst ek
          rw [hp] at g2
          cases g2
          rcases mine a a2 with a2 | a2
          · exact s.dis i j p p1 d0 d hi hj ej q q1 hp g1 a a2 a1
          · exact a2 j p1 d hj ej q1 g1 a1
        · rcases set_of_lt q2 with ⟨z, _⟩ | ⟨_, q2⟩
          · exact ek z
          · exact s.dis j k p1 p2 d e hj hk2 hne q1 q2 g1 g2 a a1 (back k p2 e a hk2 ek q2 g2 a2)
  · rcases set_of_lt z with ⟨rfl, rfl⟩ | ⟨_, z⟩
    · exact s.slf _ _ p' hi q g (hk h)
    · exact s.slf j d p' hj z g h
theorem SE.putO {i : Nat} {p : Addr} {ob : HO} {d0 d9 : D} (s : SE K mg M Ie He σ I H ρ) (hi : i ∈ M) (q : ρ[i]? = some (some d0)) (hp : σ[i]? = some (some (.ref p))) (r : OwnR K mg I ob d9) (hk : d9.kind = 3 → d0.kind = 3) (hd : deep M i = false) : SE K mg M Ie He σ I (upd H p ob) (ρ.set i (some d9)) :=
  s.putX hi q hp (.mk r hd) hk fun z => by
    rw [hd] at z
    cases z
/-- a list of one's own is changed -/
theorem SE.put {i : Nat} {p : Addr} {vs : List V} {ds ds0 : List D} (s : SE K mg M Ie He σ I H ρ) (hi : i ∈ M) (q : ρ[i]? = some (some (.lst ds0))) (hp : σ[i]? = some (some (.ref p))) (r : Reps K mg I vs ds) (hd : deep M i = false) : SE K mg M Ie He σ I (upd H p (.lst vs)) (ρ.set i (some (.lst ds))) :=
  s.putO hi q hp (.lst r) (fun h => by cases h) hd
/-- it is a list -/
theorem SE.ownL (s : SE K mg M Ie He σ I H ρ) (i : Nat) (ds : List D) (hi : i ∈ M) (hd : deep M i = false) (q : ρ[i]? = some (some (.lst ds))) : ∃ p vs ds', D.lst ds = .lst ds' ∧ σ[i]? = some (some (.ref p)) ∧ I p = none ∧ He p = none ∧ H p = some (.lst vs) ∧ Reps K mg I vs ds' := by
  obtain ⟨p, o, h2, h3, h4, h5, h6⟩ := s.own_ i _ hi q
  cases h6.of hd with
  | lst r => exact ⟨p, _, ds, rfl, h2, h3, h4, h5, r⟩
/-- a new thing goes to a slot of M -/
theorem SE.ownX {i : Nat} {p : Addr} {ob : HO} {d9 : D} (s : SE K mg M Ie He σ I H ρ) (hi : i ∈ M) (t : Stp I H I' H') (n1 : I' p = none) (n2 : H p = none) (hp : H' p = some ob) (r : OwnX K mg M i I' He H' p ob d9) (hk : d9.kind = 3 → p = Ie.2) (hv : deep M i = true → ∀ a, V.ref a ∈ hvals ob → H a = none) : SE K mg M Ie He (σ.set i (some (.ref p))) I' H' (ρ.set i (some d9)) := by
  have s' := s.step t
  have stands : ∀ j p2 d, j ∈ M → ρ[j]? = some (some d) → σ[j]? = some (some (.ref p2)) → ∀ a, ownA M H' j p2 a → H a ≠ none := fun j p2 d hj z g a ha e => by
    obtain ⟨p3, o3, k2, k3, k4, k5, k6⟩ := s.own_ j d hj z
    rw [g] at k2
    cases k2
    rcases ha.step k5 t.h with rfl | ⟨hd, o, ho, hm⟩
    · rw [k5] at e
      cases e
    · rw [k5] at ho
      cases ho
      obtain ⟨_, q', ws, es, e1, _, _, _, w5, _⟩ := (k6.ofD hd).1.kids hm
      cases e1
      rw [w5] at e
      cases e
  have mine : ∀ a, ownA M H' i p a → H a = none := fun a ha => by
    rcases ha with rfl | ⟨hd, o, ho, hm⟩
    · exact n2
    · rw [hp] at ho
      cases ho
      exact hv hd a hm
  refine ⟨s'.st, by rw [List.length_set, List.length_set, s.len], fun j d hj z => ?_, fun j d hj z => ?_, fun j k p1 p2 d e hj hk2 hne q1 q2 g1 g2 a a1 a2 => ?_, fun j d p' hj z g h => ?_⟩
  · rcases set_of_lt z with ⟨rfl, _⟩ | ⟨hne, z⟩
    · exact absurd hi hj
    · rw [List.getElem?_set_ne hne]
      exact s'.imm j d hj z
  · rcases set_of_lt z with ⟨rfl, rfl⟩ | ⟨hne, z⟩
    · have hl := (List.getElem?_eq_some_iff.mp z).1
      rw [List.length_set] at hl
      exact ⟨p, ob, List.getElem?_set_self (by rw [s.len]; exact hl), n1, s.st.h.free n2, hp, r⟩
    · rw [List.getElem?_set_ne hne]
      exact s'.own_ j d hj z
  · by_cases ej : i = j
    · subst ej
      rw [List.getElem?_set_ne hne] at g2
      rcases set_of_lt g1 with ⟨_, e1⟩ | ⟨z, _⟩
      · cases e1
        rcases set_of_lt q2 with ⟨z, _⟩ | ⟨_, q2⟩
        · exact hne z
        · exact stands k p2 e hk2 q2 g2 a a2 (mine a a1)
      · exact z rfl
    · rw [List.getElem?_set_ne ej] at g1
      rcases set_of_lt q1 with ⟨z, _⟩ | ⟨_, q1⟩
      · exact ej z
      · by_cases ek : i = k
        · subst ek
          rcases set_of_lt g2 with ⟨_, e1⟩ | ⟨z, _⟩
          · cases e1
            exact stands j p1 d hj q1 g1 a a1 (mine a a2)
          · exact z rfl
        · rw [List.getElem?_set_ne ek] at g2
          rcases set_of_lt q2 with ⟨z, _⟩ | ⟨_, q2⟩
          · exact ek z
          · exact s'.dis j k p1 p2 d e hj hk2 hne q1 q2 g1 g2 a a1 a2
  · rcases set_of_lt z with ⟨rfl, rfl⟩ | ⟨hne, z⟩
    · rcases set_of_lt g with ⟨_, e1⟩ | ⟨w, _⟩
      · cases e1
        exact hk h
      · exact absurd rfl w
    · rw [List.getElem?_set_ne hne] at g
      exact s'.slf j d p' hj z g h
theorem SE.ownO {i : Nat} {p : Addr} {ob : HO} {d9 : D} (s : SE K mg M Ie He σ I H ρ) (hi : i ∈ M) (t : Stp I H I' H') (n1 : I' p = none) (n2 : H p = none) (hp : H' p = some ob) (r : OwnR K mg I' ob d9) (hk : d9.kind = 3 → p = Ie.2) (hd : deep M i = false) : SE K mg M Ie He (σ.set i (some (.ref p))) I' H' (ρ.set i (some d9)) :=
  s.ownX hi t n1 n2 hp (.mk r hd) hk fun z => by
    rw [hd] at z
    cases z
/-- a new list goes to a slot of M -/
theorem SE.own {i : Nat} {p : Addr} {vs : List V} {ds : List D} (s : SE K mg M Ie He σ I H ρ) (hi : i ∈ M) (t : Stp I H I' H') (n1 : I' p = none) (n2 : H p = none) (hp : H' p = some (.lst vs)) (r : Reps K mg I' vs ds) (hd : deep M i = false) : SE K mg M Ie He (σ.set i (some (.ref p))) I' H' (ρ.set i (some (.lst ds))) :=
  s.ownO hi t n1 n2 hp (.lst r) (fun h => by cases h) hd
theorem OutS.mono {I0 I1 : Hp} {D0 : Ends} {r : R Fl} (k : Same I0 I1) (h : OutS K mg E Mb M Ie He I0 D0 r) : OutS K mg E Mb M Ie He I1 D0 r := by
  cases r with
  | ok f =>
    cases f with
    | nx ρ => exact fun σ I H s e => h σ I H s (k.trans e)
    | bk ρ => exact fun σ I H s e => h σ I H s (k.trans e)
    | ct ρ => exact fun σ I H s e => h σ I H s (k.trans e)
    | rt d => exact h
    | rf ds => exact h
    | rd ds => exact h
  | err _ _ => exact h
  | stuck => exact h
theorem RE.of (s : SE K mg [] Ie He σ I H ρ) : RE K mg I σ ρ := ⟨s.len, fun i d q => s.imm i d (by simp) q⟩
end
end DL
namespace DL
open PySem PySem.Spec L2

section
variable {K : PySem.W.Frag} {mg : Gm} {E : XK} {Mb M M' M1 : List Nat} {Ie : Hp × Addr} {He I H I' H' : Hp} {σ : L2.St} {ρ : Env} {D0 : Ends} {I0 : Hp}
/-- what is wanted behind a part: of its value at the grown state -/
theorem Out.of {α β : Type} {rp : Hp → β → α → Prop} {r : R α} {k : α → R Fl} {Q : β → Hp → Prop} (hs : Stp Ie.1 He I H) (h : OutS K mg E Mb M Ie He I0 D0 (r >>= k)) (hk : ∀ d, r = .ok d → OutS K mg E Mb M Ie He I0 D0 (k d) → ∀ v I' H', Stp I H I' H' → rp I' v d → Q v H') : Out K mg E rp I H r Q := by
  cases r with
  | ok d => exact fun v I' H' s q => hk d rfl h v I' H' s q
  | err nm ds => exact fun C od I' H' s x => h C od I' H' (hs.trans s) x
  | stuck => exact h
theorem Sn.strong {α β : Type} {rp : Hp → β → α → Prop} {te : L2.St → Hp → (β → Hp → Prop) → Prop} {m : Env → R α} {k : α → R Fl} {P : β → Hp → Prop} (h : Sn K mg (fun _ => E) rp te m) (s : SE K mg M Ie He σ I H ρ) (hq : OutS K mg E Mb M' Ie He I0 D0 (m (wipeE ρ M) >>= k))
    (hk : ∀ d v I' H', SE K mg M Ie He σ I' H' ρ → Stp I H I' H' → rp I' v d → OutS K mg E Mb M' Ie He I0 D0 (k d) → P v H') : te σ H P :=
  h σ I H _ P s.re s.st.e (Out.of s.st hq fun d _ q v I' H' t r => hk d v I' H' (s.step t) t r q)
/-- all slots may be read; what comes back is no data of the heap -/
theorem Sn.weak {α β : Type} {rp : Hp → β → α → Prop} {te : L2.St → Hp → (β → Hp → Prop) → Prop} {m : Env → R α} {k : α → R Fl} {P : β → Hp → Prop} (h : Sn K mg (fun _ => E) rp te m) (s : SE K mg M Ie He σ I H ρ) (hq : OutS K mg E Mb M' Ie He I0 D0 (m ρ >>= k))
    (hk : ∀ d v I' H', SE K mg M Ie He σ I H' ρ → Stp Ie.1 He I' H' → rp I' v d → OutS K mg E Mb M' Ie He I0 D0 (k d) → P v H') : te σ H P := by
  obtain ⟨I1, k1, s1⟩ := s.all
  exact h σ I1 H _ P (RE.of s1) s1.st.e (Out.of s1.st hq fun d _ q v I' H' t r => hk d v I' H' (s.grow t.h) (s1.st.trans t) r q)
end
def D.scal : D → Bool
  | .non => true
  | .bl _ => true
  | .int _ => true
  | .str _ => true
  | .ty _ => true
  | _ => false
theorem Rep.scal {K : PySem.W.Frag} {mg : Gm} {I I' : Hp} {v : V} {d : D} (r : Rep K mg I v d) (h : d.scal = true) : Rep K mg I' v d := by
  cases r with
  | non => exact .non
  | bl b => exact .bl b
  | int i => exact .int i
  | str x => exact .str x
  | ty n => exact .ty n
  | _ => cases h
def then_ (r : R Fl) (k : Env → R Fl) : R Fl := r >>= fun f => match f with
  | .nx ρ => k ρ
  | f => .ok f
def asg (i : Nat) (ρ : Env) (a : R D) : R Fl := a >>= fun d => .ok (.nx (ρ.set i (some d)))
def asgW (i : Nat) (ρ : Env) (a : R D) : R Fl := a >>= fun d => if d.scal = true then .ok (.nx (ρ.set i (some d))) else .stuck
def asgG (ag : D → R As) (ρ : Env) (a : R D) : R Fl := a >>= fun d => calm (ag d) >>= fun as => .ok (.nx (setE ρ as))
def ret (a : R D) : R Fl := a >>= fun d => .ok (.rt d)
def drp (ρ : Env) (a : R D) : R Fl := a >>= fun _ => .ok (.nx ρ)
@[simp] theorem asg_ok (i : Nat) (ρ : Env) (d : D) : asg i ρ (.ok d) = .ok (.nx (ρ.set i (some d))) := rfl
@[simp] theorem asgW_ok (i : Nat) (ρ : Env) (d : D) : asgW i ρ (.ok d) = if d.scal = true then .ok (.nx (ρ.set i (some d))) else .stuck := rfl
@[simp] theorem asgG_ok (ag : D → R As) (ρ : Env) (d : D) : asgG ag ρ (.ok d) = (calm (ag d) >>= fun as => .ok (.nx (setE ρ as))) := rfl
@[simp] theorem ret_ok (d : D) : ret (.ok d) = .ok (.rt d) := rfl
@[simp] theorem drp_ok (ρ : Env) (d : D) : drp ρ (.ok d) = .ok (.nx ρ) := rfl
@[simp] theorem then_nx (ρ : Env) (k : Env → R Fl) : then_ (.ok (.nx ρ)) k = k ρ := rfl
@[simp] theorem then_rt (d : D) (k : Env → R Fl) : then_ (.ok (.rt d)) k = .ok (.rt d) := rfl
@[simp] theorem then_rf (ds : List D) (k : Env → R Fl) : then_ (.ok (.rf ds)) k = .ok (.rf ds) := rfl
@[simp] theorem then_bk (ρ : Env) (k : Env → R Fl) : then_ (.ok (.bk ρ)) k = .ok (.bk ρ) := rfl
@[simp] theorem then_ct (ρ : Env) (k : Env → R Fl) : then_ (.ok (.ct ρ)) k = .ok (.ct ρ) := rfl
section
variable {X : Cx} {E : XK} {Mb M M' M1 : List Nat} {s : Stmt} {ss : List Stmt} {t u : TS} {ms mr : Env → R Fl} {e c : Expr} {te : TE} {m : Env → R D} {pos : Pos} {x : Str} {tt : TT} {mt : Env → R Bool}
theorem mss_nil : MSs X E Mb M M [] tNext (fun ρ => .ok (.nx ρ)) := ⟨pss_nil, fun Ie He σ I H ρ D0 s h => h σ I H s (.refl _)⟩
theorem mss_one (h : MS X E Mb M M' s t ms) : MSs X E Mb M M' [s] t ms := ⟨pss_one h.pe, h.sn⟩
theorem mss_cons (h1 : MS X E Mb M M1 s t ms) (h2 : MSs X E Mb M1 M' ss u mr) : MSs X E Mb M M' (s :: ss) (tSeq t u) (fun ρ => then_ (ms ρ) mr) := ⟨pss_cons h1.pe h2.pe, fun Ie He σ I H ρ D0 s h => by
  refine h1.sn Ie He σ I H ρ _ s ?_
  have h : OutS X.K (g0 X.mg) E Mb M' Ie He I D0 (then_ (ms ρ) mr) := h
  cases e : ms ρ with
  | ok f =>
    rw [e] at h
    cases f with
    | nx ρ1 => exact fun σ1 I1 H1 s1 k1 => h2.sn Ie He σ1 I1 H1 ρ1 D0 s1 (h.mono k1)
    | rt d => exact h
    | bk ρ1 => exact h
    | ct ρ1 => exact h
    | rf ds => exact h
    | rd ds => exact h
  | err nm ds =>
    rw [e] at h
    exact h
  | stuck =>
    rw [e] at h
    exact h⟩
theorem ms_set (i : Nat) {px : Pos} (hN : X.N.Nodup) (he : ME X (kE E) e te m) (hi : X.N[i]? = some x := by rfl) (hx : Loc X.env.scope x := by first | exact .inl rfl | exact .inr rfl) (hM : i ∉ M := by decide) (hs : swapsWith e (some (.Name x px)) pos.line X.env = pure false := by rfl) (hf : X.fn x = true ∨ X.env.scope.names.lookup x = some .local := by first | exact .inl rfl | exact .inr rfl) :
    MS X E Mb M M (.Assign [.Name x px] e pos) (tAsg te (gName i)) (fun ρ => asg i ρ (m (wipeE ρ M))) :=
  ⟨ps_set hN hi hx he.pe hs hf, fun Ie He σ I H ρ D0 s h => he.sn.strong s h fun d v I1 H1 s1 t r q => q _ I1 H1 (s1.set hM r) t.i⟩
theorem ms_asg {tg : Expr} {g : TG} {ag : D → R As} (he : ME X (kE E) e te m) (hg : MG X tg g ag) (hM : AgIn ag (· ∉ M)) (hs : swapsWithSole [tg] e pos.line X.env = pure false := by rfl) (hw : swappedStores [tg] e X.env = pure none := by rfl)
    (h1 : (assignEach [tg] X.env).map (·.2) = [assign tg X.env] := by rfl) : MS X E Mb M M (.Assign [tg] e pos) (tAsg te g) (fun ρ => asgG ag ρ (m (wipeE ρ M))) :=
  ⟨ps_asg he.pe hg.pe hs hw h1, fun Ie He σ I H ρ D0 s h => he.sn.strong s h fun d v I1 H1 s1 t r q => by
    cases ea : ag d with
    | ok as =>
      rw [ea] at q
      exact hg.sn _ v σ I1 H1 d as _ s1.st.e r ea fun us ar => q _ I1 H1 (s1.setAll ar (hM d as ea)) t.i
    | err _ _ =>
      rw [ea] at q
      exact q.elim
    | stuck =>
      rw [ea] at q
      exact q.elim⟩
theorem ms_ret (he : ME X (kE E) e te m) : MS X E Mb M M' (.Return (some e) pos) (tRet te) (fun ρ => ret (m ρ)) :=
  ⟨ps_ret he.pe, fun Ie He σ I H ρ D0 s h => he.sn.weak s h fun d v I1 H1 s1 st r q => q v I1 H1 st r⟩
theorem ms_if {a b : List Stmt} {ta tb : TS} {ma mb : Env → R Fl} (hc : MT X (kE E) c tt mt) (ha : MSs X E Mb M M' a ta ma) (hb : MSs X E Mb M M' b tb mb) : MS X E Mb M M' (.If c a b pos) (tIfS tt ta tb) (fun ρ => ifv (mt ρ) (ma ρ) (mb ρ)) :=
  ⟨ps_if hc.pe ha.pe hb.pe, fun Ie He σ I H ρ D0 s h => hc.sn.weak s h fun d v I1 H1 s1 st r q => by
    cases r
    cases d with
    | true => exact ha.sn Ie He σ I H1 ρ D0 s1 q
    | false => exact hb.sn Ie He σ I H1 ρ D0 s1 q⟩
/-! #### lists of one's own -/
def ownD (ρ : Env) (i : Nat) : R (List D) := match ρ[i]? with
  | some (some (.lst ds)) => .ok ds
  | _ => .stuck
theorem ownD_of {ρ : Env} {i : Nat} {ds : List D} (h : ownD ρ i = .ok ds) : ρ[i]? = some (some (.lst ds)) := by
  unfold ownD at h
  split at h
  · cases h
    assumption
  · cases h
theorem outS_calm {K : PySem.W.Frag} {mg : Gm} {Ie : Hp × Addr} {He I0 : Hp} {D0 : Ends} {α : Type} {r : R α} {k : α → R Fl} (h : OutS K mg E Mb M Ie He I0 D0 (calm r >>= k)) : ∃ a, r = .ok a ∧ OutS K mg E Mb M Ie He I0 D0 (k a) := by
  cases r with
  | ok a => exact ⟨a, rfl, h⟩
  | err _ _ => exact h.elim
  | stuck => exact h.elim
theorem outS_if {K : PySem.W.Frag} {mg : Gm} {Ie : Hp × Addr} {He I0 : Hp} {D0 : Ends} {c : Prop} [Decidable c] {r : R Fl} (h : OutS K mg E Mb M Ie He I0 D0 (if c then r else .stuck)) : c ∧ OutS K mg E Mb M Ie He I0 D0 r := by
  by_cases hc : c
  · rw [if_pos hc] at h
    exact ⟨hc, h⟩
  · rw [if_neg hc] at h
    exact h.elim
def appS (i : Nat) (ρ : Env) (a : R D) : R Fl := calm (ownD ρ i) >>= fun ds => a >>= fun d => if ds.length < LIM then .ok (.nx (ρ.set i (some (.lst (ds ++ [d]))))) else .stuck
/-- x.append(e) -/
theorem ms_app (i : Nat) {px pa pc : Pos} (he : ME X (kE E) e te m) (hi : X.N[i]? = some x := by rfl) (hv : Vis X.env.scope x := by first | exact Or.inl rfl | exact Or.inr (Or.inl rfl)) (hM : i ∈ M := by decide) (hD : deep M i = false := by decide)
    (hp : PE X e te → PE X (.Call (.Attribute (.Name x px) "append" pa) [e] [] pc) (tBM X.K "list" rAppend (tVar i) (tCons te tNil))) (hs : swapsWith (.Call (.Attribute (.Name x px) "append" pa) [e] [] pc) none pos.line X.env = pure false := by rfl) :
    MS X E Mb M M (.Expr (.Call (.Attribute (.Name x px) "append" pa) [e] [] pc) pos) (tDrop (tBM X.K "list" rAppend (tVar i) (tCons te tNil))) (fun ρ => appS i ρ (m (wipeE ρ M))) :=
  ⟨ps_expr (hp he.pe) hs, fun Ie He σ I H ρ D0 s h => by
    obtain ⟨ds, ho, h⟩ := outS_calm h
    have q := ownD_of ho
    obtain ⟨p, vs, ds', e1, h2, h3, h4, h5, h6⟩ := s.ownL i _ hM hD q
    cases e1
    refine ⟨_, h2, .inl ⟨rfl, vs, SqL.of h5⟩, he.sn.strong s h fun d v I1 H1 s1 t r k => ?_⟩
    obtain ⟨hl, k⟩ := outS_if k
    refine ⟨p, vs, v, rfl, rfl, t.h _ _ h5, lim_lt (by rw [h6.len]; omega), k _ I1 _ (s1.put hM q h2 ((h6.mono t.i).app (.cons r .nil)) hD) t.i⟩⟩
def appPopG (i j : Nat) (ρ : Env) (ds es : List D) : D → R Fl
  | .int z => match (if -(2 ^ 63) ≤ z ∧ z < 2 ^ 63 ∧ ds.length < LIM then seqIndex? z es.length else none) with
    | some n => match es[n]? with
      | some d => .ok (.nx ((ρ.set j (some (.lst (es.eraseIdx n)))).set i (some (.lst (ds ++ [d])))))
      | none => .stuck
    | none => .stuck
  | _ => .stuck
def appPopS (i j : Nat) (ρ : Env) (k : R D) : R Fl := calm (ownD ρ i) >>= fun ds => calm (ownD ρ j) >>= fun es => k >>= appPopG i j ρ ds es
/-- y.append(x.pop(k)) -/
theorem ms_appPop (i j : Nat) {y : Str} {px pa pc py pb pd : Pos} {k : Expr} {tk : TE} {mk : Env → R D} (hk : ME X (kE E) k tk mk) (hM : i ∈ M := by decide) (hD : deep M i = false := by decide) (hM2 : j ∈ M := by decide) (hD2 : deep M j = false := by decide) (hij : i ≠ j := by decide)
    (hp : PE X k tk → PE X (.Call (.Attribute (.Name x px) "append" pa) [.Call (.Attribute (.Name y py) "pop" pb) [k] [] pd] [] pc) (tBM X.K "list" rAppend (tVar i) (tCons (tBM X.K "list" rPopAt (tVar j) (tCons tk tNil)) tNil))) (hs : swapsWith (.Call (.Attribute (.Name x px) "append" pa) [.Call (.Attribute (.Name y py) "pop" pb) [k] [] pd] [] pc) none pos.line X.env = pure false := by rfl) :
    MS X E Mb M M (.Expr (.Call (.Attribute (.Name x px) "append" pa) [.Call (.Attribute (.Name y py) "pop" pb) [k] [] pd] [] pc) pos) (tDrop (tBM X.K "list" rAppend (tVar i) (tCons (tBM X.K "list" rPopAt (tVar j) (tCons tk tNil)) tNil)))
      (fun ρ => appPopS i j ρ (mk ρ)) :=
  ⟨ps_expr (hp hk.pe) hs, fun Ie He σ I H ρ D0 s h => by
    obtain ⟨ds, ho, h⟩ := outS_calm h
    obtain ⟨es, ho2, h⟩ := outS_calm h
    have q := ownD_of ho
    have q2 := ownD_of ho2
    obtain ⟨p, vs, ds', e1, h2, h3, h4, h5, h6⟩ := s.ownL i _ hM hD q
    cases e1
    obtain ⟨p2, vs2, ds2, e1, g2, g3, g4, g5, g6⟩ := s.ownL j _ hM2 hD2 q2
    cases e1
    refine ⟨_, h2, .inl ⟨rfl, vs, SqL.of h5⟩, ⟨_, g2, .inl ⟨rfl, vs2, SqL.of g5⟩, hk.sn.weak s h fun dk vk I2 H2 s2 t2 rk h => ?_⟩⟩
    cases rk with
    | int z =>
      have h : OutS X.K (g0 X.mg) E Mb M Ie He I D0 (match (if -(2 ^ 63) ≤ z ∧ z < 2 ^ 63 ∧ ds.length < LIM then seqIndex? z es.length else none) with
          | some n => match es[n]? with
            | some d => .ok (.nx ((ρ.set j (some (.lst (es.eraseIdx n)))).set i (some (.lst (ds ++ [d])))))
            | none => .stuck
          | none => .stuck) := h
      by_cases hb : -(2 ^ 63) ≤ z ∧ z < 2 ^ 63 ∧ ds.length < LIM
      · rw [if_pos hb] at h
        cases en : seqIndex? z es.length with
        | none =>
          rw [en] at h
          exact h.elim
        | some n =>
          rw [en] at h
          cases ed : es[n]? with
          | none =>
            have h : OutS X.K (g0 X.mg) E Mb M Ie He I D0 (match es[n]? with | some d => .ok (.nx ((ρ.set j (some (.lst (es.eraseIdx n)))).set i (some (.lst (ds ++ [d]))))) | none => .stuck) := h
            rw [ed] at h
            exact h.elim
          | some d =>
            have h : OutS X.K (g0 X.mg) E Mb M Ie He I D0 (match es[n]? with | some d => .ok (.nx ((ρ.set j (some (.lst (es.eraseIdx n)))).set i (some (.lst (ds ++ [d]))))) | none => .stuck) := h
            rw [ed] at h
            obtain ⟨b2, ws2, dz, e1, k2, k3, k4, k5, k6⟩ := s2.ownL j _ hM2 hD2 q2
            cases e1
            rw [g2] at k2
            cases k2
            obtain ⟨y0, hy, ry⟩ := k6.get ed
            refine ⟨p2, ws2, z, n, y0, rfl, rfl, k5, hb.1, hb.2.1, by rw [k6.len]; exact en, hy, ?_⟩
            have s3 := s2.put hM2 q2 g2 (k6.erase n) hD2
            have q3 : (ρ.set j (some (.lst (es.eraseIdx n))))[i]? = some (some (.lst ds)) := by
              rw [List.getElem?_set_ne (Ne.symm hij)]
              exact q
            obtain ⟨b3, ws3, dz, e1, l2, l3, l4, l5, l6⟩ := s3.ownL i _ hM hD q3
            cases e1
            rw [h2] at l2
            cases l2
            exact ⟨p, ws3, y0, rfl, rfl, l5, lim_lt (by rw [l6.len]; omega), h _ I _ (s3.put hM q3 h2 (l6.app (.cons ry .nil)) hD) (.refl _)⟩
      · rw [if_neg hb] at h
        exact h.elim
    | _ => exact h.elim⟩

/-! #### loops -/
def loopGo (ag : D → R As) (mb : Env → R Fl) : List D → Env → R Fl
  | [], ρ => .ok (.nx ρ)
  | d :: ds, ρ => calm (ag d) >>= fun as => mb (setE ρ as) >>= fun f => match f with
    | .nx ρ' => loopGo ag mb ds ρ'
    | .ct ρ' => loopGo ag mb ds ρ'
    | .bk ρ' => .ok (.nx ρ')
    | .rt d => .ok (.rt d)
    | .rf ds => .ok (.rf ds)
    | .rd ds => .ok (.rd ds)
def forS (ag : D → R As) (mb : Env → R Fl) (ρ : Env) (r : R (List D)) : R Fl := r >>= fun ds => loopGo ag mb ds ρ
def forR (rg : List D → R (List D)) (ag : D → R As) (mb : Env → R Fl) (ρ : Env) (r : R (List D)) : R Fl := r >>= fun ds => calm (rg ds) >>= fun es => loopGo ag mb es ρ
@[simp] theorem forS_ok (ag : D → R As) (mb : Env → R Fl) (ρ : Env) (ds : List D) : forS ag mb ρ (.ok ds) = loopGo ag mb ds ρ := rfl
@[simp] theorem forR_ok (rg : List D → R (List D)) (ag : D → R As) (mb : Env → R Fl) (ρ : Env) (ds : List D) : forR rg ag mb ρ (.ok ds) = (calm (rg ds) >>= fun es => loopGo ag mb es ρ) := rfl
theorem for_core {g : TG} {ag : D → R As} {tb : TS} {mb : Env → R Fl} {K : PySem.W.Frag} {mg : Gm} {Ie : Hp × Addr} {He I0 I1 H : Hp} {σ : L2.St} {ρ : Env} {D0 : Ends} {J : It} {ds : List D} (sg : SnG K mg g ag) (hM : AgIn ag (· ∉ M)) (sb : SnS K mg E M M M tb mb)
    (s : SE K mg M Ie He σ I1 H ρ) (it : ∀ I, Same I1 I → ItOk K mg I J ds) (h : OutS K mg E Mb M Ie He I0 D0 (loopGo ag mb ds ρ)) (k0 : Same I0 I1) :
    ∃ W : Nat → Nat → L2.St → Hp → Prop, (∃ m, W 0 m σ H) ∧ ∀ i m σ H, W i m σ H →
      (J.stop i H ∧ D0.nx σ H) ∨ (J.go i H ∧ ∃ N : L2.St → Hp → Prop, (∀ σ' H', N σ' H' → ∃ m', m' < m ∧ W (i + 1) m' σ' H') ∧ ∀ x H', J.yld i H x H' → g x σ H' fun σ2 H2 => tb { D0 with nx := N, ct := N, bk := D0.nx } σ2 H2) := by
  refine ⟨fun i m σ H => m = ds.length - i ∧ i ≤ ds.length ∧ ∃ I ρ, SE K mg M Ie He σ I H ρ ∧ Same I1 I ∧ OutS K mg E Mb M Ie He I0 D0 (loopGo ag mb (ds.drop i) ρ), ⟨_, rfl, Nat.zero_le _, I1, ρ, s, .refl _, h⟩, ?_⟩
  rintro i m σ2 H2 ⟨rfl, hi, I2, ρ2, s2, k2, h2⟩
  have hit := it I2 k2 I2 H2 (.refl _) s2.st.e
  by_cases hlt : i < ds.length
  · obtain ⟨hgo, hy⟩ := hit.1 i _ (List.getElem?_eq_getElem hlt)
    refine .inr ⟨hgo, fun σ' H' => ∃ I ρ, SE K mg M Ie He σ' I H' ρ ∧ Same I1 I ∧ OutS K mg E Mb M Ie He I0 D0 (loopGo ag mb (ds.drop (i + 1)) ρ), fun σ' H' hN => ⟨ds.length - (i + 1), by omega, rfl, hlt, hN⟩, fun x H' y => ?_⟩
    obtain ⟨I3, s3, rx⟩ := hy x H' y
    rw [List.drop_eq_getElem_cons hlt] at h2
    obtain ⟨as, ha, h2⟩ := outS_calm h2
    refine sg x σ2 I3 H' _ as _ s3.e rx ha fun us ar => ?_
    have s4 := (s2.step s3).setAll ar (hM _ _ ha)
    refine sb Ie He _ I3 H' _ _ s4 ?_
    have h2 : OutS K mg E Mb M Ie He I0 D0 (mb (setE ρ2 as) >>= fun f => match f with
      | .nx ρ' => loopGo ag mb (ds.drop (i + 1)) ρ'
      | .ct ρ' => loopGo ag mb (ds.drop (i + 1)) ρ'
      | .bk ρ' => .ok (.nx ρ')
      | .rt d => .ok (.rt d)
      | .rf ds => .ok (.rf ds)
      | .rd ds => .ok (.rd ds)) := h2
    cases e : mb (setE ρ2 as) with
    | err nm es =>
      rw [e] at h2
      exact h2
    | stuck =>
      rw [e] at h2
      exact h2
    | ok f =>
      rw [e] at h2
      cases f with
      | nx ρ' => exact fun σ5 I5 H5 s5 k5 => ⟨I5, ρ', s5, (k2.trans s3.i).trans k5, h2⟩
      | ct ρ' => exact fun σ5 I5 H5 s5 k5 => ⟨I5, ρ', s5, (k2.trans s3.i).trans k5, h2⟩
      | bk ρ' => exact fun σ5 I5 H5 s5 k5 => h2 σ5 I5 H5 s5 (((k0.trans k2).trans s3.i).trans k5)
      | rt d => exact h2
      | rf ds => exact h2
      | rd ds => exact h2
  · have e : i = ds.length := by omega
    subst e
    rw [List.drop_length] at h2
    exact .inl ⟨hit.2, h2 σ2 I2 H2 s2 (k0.trans k2)⟩
section
variable {X : Cx} {E : XK} {Mb M M' M1 : List Nat} {s : Stmt} {ss : List Stmt} {t u : TS} {ms mr : Env → R Fl} {e c : Expr} {te : TE} {m : Env → R D} {pos : Pos} {x : Str} {tt : TT} {mt : Env → R Bool} {tg : Expr} {g : TG} {ag : D → R As} {tb : TS} {mb : Env → R Fl} {body : List Stmt} {wi : TI} {mi : Env → R (List D)} {pos' : Pos}
theorem ms_for (hp : PassesOwn (model X.prog X.w) X.A X.env X.xe) (hc : X.calm = true) (hi : MI X (kE E) tg e wi mi) (hg : MG X tg g ag) (hM : AgIn ag (· ∉ M)) (hb : MSs X E M M M body tb mb) (hs : ∀ x, foldedSetIterable e X.env x = pure x := by intro _; rfl) :
    MS X E Mb M M (.For tg e body [] pos) (tFor wi g tb) (fun ρ => forS ag mb ρ (mi (wipeE ρ M))) :=
  ⟨ps_for hp hc hi.pe hg.pe hb.pe hs, fun Ie He σ I H ρ D0 s h => hi.sn.strong s h fun ds J I1 H1 s1 t it h => for_core (hg.sn _) hM hb.sn s1 (fun I k => it.mono k) h t.i⟩
/-- over a range whose ends may be read off lists of one's own -/
theorem ms_forR1 {a : Expr} {p : Pos} {tas : TA} {ma : Env → R (List D)} (hp : PassesOwn (model X.prog X.w) X.A X.env X.xe) (hc : X.calm = true) (hr : Gl X "range") (hm : X.mg "range" = none) (ha : MA X (kE E) [a] tas ma) (hg : MG X tg g ag) (hM : AgIn ag (· ∉ M)) (hb : MSs X E M M M body tb mb)
    (hs : starEach [a] X.env = [(false, eval a X.env)] := by rfl) :
    MS X E Mb M M (.For tg (.Call (.Name "range" p) [a] [] pos) body [] pos') (tFor (iRng1 tas) g tb) (fun ρ => forR rg1 ag mb ρ (ma ρ)) :=
  ⟨ps_for hp hc (pi_range1 hr hm ha.pe hs) hg.pe hb.pe, fun Ie He σ I H ρ D0 s h => ha.sn.weak s h fun ds J I1 H1 s1 t rs h => by
    obtain ⟨es, he, h⟩ := outS_calm h
    unfold rg1 at he
    split at he
    · split at he
      · rename_i hj
        cases he
        obtain ⟨v, rfl, r⟩ := reps1 rs
        cases r
        exact ⟨_, rfl, hj.1, hj.2, for_core (hg.sn _) hM hb.sn s1 (fun I k => it_rng) h (.refl _)⟩
      · cases he
    · cases he⟩
end

/-! #### what is known of targets -/
def AgsIn (ag : List D → R As) (P : Nat → Prop) : Prop := ∀ d as, ag d = .ok as → ∀ p ∈ as, P p.1
theorem agin_name {P : Nat → Prop} {i : Nat} (h : P i) : AgIn (agV i) P := fun d as e p hp => by
  cases e
  cases List.mem_singleton.mp hp
  exact h
theorem agsin_nil {P : Nat → Prop} : AgsIn agN P := fun d as e p hp => by
  cases d with
  | nil =>
    cases e
    cases hp
  | cons _ _ => cases e
theorem agsin_cons {P : Nat → Prop} {ag : D → R As} {bg : List D → R As} (h1 : AgIn ag P) (h2 : AgsIn bg P) : AgsIn (agC ag bg) P := fun d as e p hp => by
  cases d with
  | nil => cases e
  | cons d ds =>
    obtain ⟨a, ha, e⟩ := bind_ok (r := ag d) e
    obtain ⟨b, hb, e⟩ := bind_ok (r := bg ds) e
    cases e
    rcases List.mem_append.mp hp with hp | hp
    · exact h1 d a ha p hp
    · exact h2 ds b hb p hp
theorem agin_tup {P : Nat → Prop} {n : Nat} {ag : List D → R As} (h : AgsIn ag P) : AgIn (tupAs n ag) P := fun d as e p hp => by
  cases d with
  | tup ds =>
    have e : (if ds.length = n then ag ds else .stuck) = R.ok as := e
    by_cases hl : ds.length = n
    · rw [if_pos hl] at e
      exact h ds as e p hp
    · rw [if_neg hl] at e
      cases e
  | _ => cases e
/-! #### a def by its body -/
def startE (n : Nat) (ds : List D) : Env := ds.map some ++ List.replicate (n - ds.length) none
/-- what the body hands back -/
def endD : Fl → R D
  | .nx _ => .ok .non
  | .rt d => .ok d
  | .rf ds => .ok (.lst ds)
  | .rd ds => .ok (.lst ds)
  | _ => .stuck
theorem start_SE {K : PySem.W.Frag} {mg : Gm} {M : List Nat} {I H : Hp} {N : List Str} {vs : List V} {ds : List D} (ex : Same I H) (rs : Reps K mg I vs ds) (hM : ∀ i ∈ M, ds.length ≤ i) : SE K mg M (I, 0) H (start N vs) I H (startE N.length ds) := by
  have hget : ∀ (i : Nat) (d : D), (startE N.length ds)[i]? = some (some d) → i < ds.length ∧ ds[i]? = some d := fun i d q => by
    unfold startE at q
    by_cases hi : i < ds.length
    · rw [List.getElem?_append_left (by rw [List.length_map]; exact hi), List.getElem?_map] at q
      refine ⟨hi, ?_⟩
      cases z : ds[i]? with
      | none =>
        rw [z] at q
        cases q
      | some e =>
        rw [z] at q
        cases q
        rfl
    · rw [List.getElem?_append_right (by rw [List.length_map]; omega), List.getElem?_replicate] at q
      split at q <;> cases q
  refine ⟨.refl ex, ?_, fun i d _ q => ?_, fun i d hi q => ?_, fun i j p p9 d e hi hj hne q1 q2 => ?_, fun i d p hi q => ?_⟩
  · unfold L2.start startE
    rw [List.length_append, List.length_append, List.length_map, List.length_map, List.length_replicate, List.length_replicate, rs.len]
  · obtain ⟨hi, hd⟩ := hget i d q
    obtain ⟨v, hv, r⟩ := rs.get hd
    refine ⟨v, ?_, r⟩
    unfold L2.start
    rw [List.getElem?_append_left (by rw [List.length_map, rs.len]; exact hi), List.getElem?_map, hv]
    rfl
  · have a := (hget i d q).1
    have b := hM i hi
    omega
  · have a := (hget i d q1).1
    have b := hM i hi
    omega
  · have a := (hget i d q).1
    have b := hM i hi
    omega
end
end DL
namespace DL
open PySem PySem.Spec L2

section
variable {E : Wh} {wi wi1 : TI} {g g1 : TG} {tt tt1 : TT} {te : TE} {mi mi1 : Env → R (List D)} {ag ag1 : D → R As} {mt mt1 : Env → R Bool} {me : Env → R D}
/-- the accumulated list without a count -/
structure LkAt (K : PySem.W.Frag) (mg : Gm) (I1 H1 : Hp) (D0 : Addr) (accD : List D) (I2 H : Hp) : Prop where
  at_ : LcAt K mg I1 H1 D0 accD.length accD I2 H
theorem LkAt.step {K : PySem.W.Frag} {mg : Gm} {I1 H1 I2 H I3 H3 : Hp} {D0 : Addr} {accD : List D} (p : LkAt K mg I1 H1 D0 accD I2 H) (s : Stp I2 H I3 H3) : LkAt K mg I1 H1 D0 accD I3 H3 := ⟨p.at_.step s⟩
theorem LkAt.push {K : PySem.W.Frag} {mg : Gm} {I1 H1 I2 H : Hp} {D0 : Addr} {accD : List D} {y : V} {d : D} (p : LkAt K mg I1 H1 D0 accD I2 H) (hD : H1 D0 = none) (r : Rep K mg I2 y d) (hn : accD.length < LIM) : ∃ acc, H D0 = some (.lst acc) ∧ acc.length < sizeLine ∧ LkAt K mg I1 H1 D0 (accD ++ [d]) I2 (upd H D0 (.lst (acc ++ [y]))) := by
  obtain ⟨acc, h1, h2, h3⟩ := p.at_.push hD r hn
  exact ⟨acc, h1, h2, ⟨by rw [List.length_append, List.length_singleton]; exact h3⟩⟩
end
section
variable {X : Cx} {E : Wh} {elt tg iter tg1 iter1 : Expr} {ifs ifs1 : List Expr} {scope : Scope} {own : List (Str × Nat)} {vs1 : List Nat} {pos : Pos} {wi wi1 : TI} {g g1 : TG} {tt tt1 : TT} {te : TE} {mi mi1 : Env → R (List D)} {ag ag1 : D → R As} {mt mt1 : Env → R Bool} {me : Env → R D}
end

/-! ### a comprehension stored at once -/
section
variable {X : Cx} {E : XK} {Mb M : List Nat} {elt tg iter tg1 iter1 : Expr} {ifs ifs1 : List Expr} {scope : Scope} {own : List (Str × Nat)} {vs1 : List Nat} {pos spos py : Pos} {y : Str} {wi wi1 : TI} {g g1 : TG} {tt tt1 : TT} {te : TE} {mi mi1 : Env → R (List D)} {ag ag1 : D → R As} {mt mt1 : Env → R Bool} {me : Env → R D}
theorem ms_setLc (i : Nat) (hc : X.calm = true) (hN : X.N.Nodup) (hi : MI X (kE E) tg iter wi mi) (ok : BlkOk X.N X.env.scope scope own)
    (hg : ∀ (s : Shared) (H : Hp) (C : Addr) (cl : List (Str × Addr)) (fp : List Addr), MG (X.blk s H scope (compEnvC scope cl C X.env) fp) tg g ag) (ht : ∀ (s : Shared) (H : Hp) (C : Addr) (cl : List (Str × Addr)) (fp : List Addr), MTs (X.blk s H scope (compEnvC scope cl C X.env) fp) (kE E).calm ifs tt mt)
    (he : ∀ (s : Shared) (H : Hp) (C : Addr) (cl : List (Str × Addr)) (fp : List Addr), ME (X.blk s H scope (compEnvC scope cl C X.env) fp) (kE E).calm elt te me) (hv : AgIn ag (· ∈ own.map (·.2)))
    (hsw : swapsWith (.ListComp elt [⟨tg, iter, ifs, 0⟩] scope pos) (some (.Name y py)) spos.line X.env = pure true) (hy : X.N[i]? = some y := by rfl) (hyl : X.env.scope.names.lookup y = some .local := by rfl) (hM : i ∉ M := by decide) (hs : ∀ x, foldedSetIterable iter X.env x = pure x := by intro _; rfl) :
    MS X E Mb M M (.Assign [.Name y py] (.ListComp elt [⟨tg, iter, ifs, 0⟩] scope pos) spos) (tAsg (tLc wi g tt te (own.map (·.2))) (gName i)) (fun ρ => asg i ρ (lcM (own.map (·.2)) mi ag mt me (wipeE ρ M))) :=
  ⟨ps_setLc hc hN hy hyl hsw hi.pe ok (fun s H C cl fp => (hg s H C cl fp).pe) (fun s H C cl fp => (ht s H C cl fp).pe) (fun s H C cl fp => (he s H C cl fp).pe) hs, fun Ie He σ I H ρ D0 s h =>
    (lc_snd hi.sn ((hg X.s_0 X.H_0 0 [] []).sn _) (ht X.s_0 X.H_0 0 [] []).sn (he X.s_0 X.H_0 0 [] []).sn hv).strong s h fun d v I1 H1 s1 t r q => q _ I1 H1 (s1.set hM r) t.i⟩
end
end DL
namespace DL
open PySem PySem.Spec L2

/-! ### new lists for slots of one's own -/
def OutN (K : PySem.W.Frag) (mg : Gm) (E : XK) (I H : Hp) (r : R (List D)) (Q : VK) : Prop := match r with
  | .ok ds => ∀ p vs I' H', Stp I H I' H' → I' p = none → H p = none → H' p = some (.lst vs) → Reps K mg I' vs ds → Q (.ref p) H'
  | .err nm ds => ∀ C od I' H', Stp I H I' H' → XRep K mg I' H' nm ds C od → E C od H'
  | .stuck => False
def SnN (K : PySem.W.Frag) (mg : Gm) (E : XK) (te : TE) (m : Env → R (List D)) : Prop :=
  ∀ (σ : L2.St) (I H : Hp) (ρ : Env) (Q : VK), RE K mg I σ ρ → Same I H → OutN K mg E I H (m ρ) Q → te σ H Q
structure MN (X : Cx) (E : XK) (e : Expr) (t : TE) (m : Env → R (List D)) : Prop where
  pe : PE X e t
  sn : SnN X.K (g0 X.mg) E t m
theorem OutN.mono {K : PySem.W.Frag} {mg : Gm} {E : XK} {I H I' H' : Hp} {r : R (List D)} {Q : VK} (s : Stp I H I' H') (h : OutN K mg E I H r Q) : OutN K mg E I' H' r Q := by
  cases r with
  | ok d => exact fun p vs I2 H2 t n1 n2 => h p vs I2 H2 (s.trans t) n1 (s.h.free n2)
  | err nm ds => exact fun C od I2 H2 t q => h C od I2 H2 (s.trans t) q
  | stuck => exact h
theorem Sn.runN {K : PySem.W.Frag} {mg : Gm} {E : XK} {I H : Hp} {σ : L2.St} {ρ : Env} {α β : Type} {rp : Hp → β → α → Prop} {te : L2.St → Hp → (β → Hp → Prop) → Prop} {m : Env → R α} {k : α → R (List D)} {P : β → Hp → Prop} {Q : VK} (h : Sn K mg (fun _ => E) rp te m) (re : RE K mg I σ ρ) (ex : Same I H) (hq : OutN K mg E I H (m ρ >>= k) Q)
    (hk : ∀ d v I' H', m ρ = .ok d → Stp I H I' H' → rp I' v d → OutN K mg E I' H' (k d) Q → P v H') : te σ H P := by
  refine h σ I H ρ P re ex ?_
  cases e : m ρ with
  | ok d =>
    rw [e] at hq
    exact fun v I' H' s q => hk d v I' H' e s q (OutN.mono s hq)
  | err nm ds =>
    rw [e] at hq
    exact hq
  | stuck =>
    rw [e] at hq
    exact hq
theorem OutN.new {K : PySem.W.Frag} {mg : Gm} {E : XK} {I H : Hp} {ds : List D} {vs : List V} {Q : VK} {p : Addr} (h : OutN K mg E I H (.ok ds) Q) (ex : Same I H) (hp : H p = none) (r : Reps K mg I vs ds) : Q (.ref p) (upd H p (.lst vs)) :=
  h p vs I _ (.side ex hp) (ex.free hp) hp upd_same r
theorem outN_if {K : PySem.W.Frag} {mg : Gm} {E : XK} {I H : Hp} {c : Prop} [Decidable c] {r : R (List D)} {Q : VK} (h : OutN K mg E I H (if c then r else .stuck) Q) : c ∧ OutN K mg E I H r Q := by
  by_cases hc : c
  · rw [if_pos hc] at h
    exact ⟨hc, h⟩
  · rw [if_neg hc] at h
    exact h.elim
def lenOk (ds : List D) : R (List D) := if ds.length ≤ LIM then .ok ds else .stuck
section
variable {X : Cx} {E : XK} {Mb M : List Nat} {a b e : Expr} {es : List Expr} {pos p : Pos} {x : Str} {ta tb te : TE} {tas : TA} {ma mb : Env → R D} {ms m : Env → R (List D)}
theorem mn_lst (h : MA X (kE E) es tas ms) : MN X E (.List es pos) (tLst tas) (fun ρ => dsp lenOk (ms ρ)) := by
  obtain ⟨pt, st⟩ := h
  refine ⟨pe_lst pt, fun σ I H ρ Q re ex h => ?_⟩
  refine st.runN re ex h fun ds vs I1 H1 _ s1 rx h => ?_
  obtain ⟨hl, h⟩ := outN_if h
  exact ⟨lim_ok (by rw [rx.len]; exact hl), fun p hp => h.new s1.e hp rx⟩
/-- list(xs) -/
def listL : List D → R (List D)
  | [.lst ds] => .ok ds
  | [.tup ds] => .ok ds
  | [.scr ns] => .ok (ns.map D.int)
  | _ => .stuck
/-- list(range(a)), list(range(a, b)) -/
def rgL (i j : Int) : R (List D) := if -(2 ^ 62) ≤ i ∧ i < 2 ^ 62 ∧ -(2 ^ 62) ≤ j ∧ j < 2 ^ 62 ∧ (j - i).toNat ≤ LIM then .ok (rangeD i 1 (j - i).toNat) else .stuck
def rgL1 : List D → R (List D)
  | [.int j] => rgL 0 j
  | _ => .stuck
theorem rgV_reps {K : PySem.W.Frag} {mg : Gm} {I : Hp} (i j : Int) : Reps K mg I (rgV i j) (rangeD i 1 (j - i).toNat) := by
  unfold rgV rangeD
  generalize (j - i).toNat = n
  have key : ∀ l : List Nat, Reps K mg I (l.map fun k => V.int (i + (k : Nat))) (l.map fun k => D.int (i + (k : Nat) * 1)) := fun l => by
    induction l with
    | nil => exact .nil
    | cons k l ih =>
      refine .cons ?_ ih
      show Rep K mg I (V.int (i + (k : Nat))) (D.int (i + (k : Nat) * 1))
      rw [Int.mul_one]
      exact .int _
  exact key _
theorem mn_rg1 {p2 pos2 : Pos} (hc : X.calm = true) (hg : Gl X "list") (hm : X.mg "list" = none) (hg2 : Gl X "range") (hm2 : X.mg "range" = none) (ha : ME X (kE E) a ta ma) (na : starEach [a] X.env = (false, eval a X.env) :: starEach [] X.env := by rfl)
    (nb : starEach [.Call (.Name "range" p2) [a] [] pos2] X.env = (false, eval (.Call (.Name "range" p2) [a] [] pos2) X.env) :: starEach [] X.env := by rfl) :
    MN X E (.Call (.Name "list" p) [.Call (.Name "range" p2) [a] [] pos2] [] pos) (tLstRg (tRg1 ta)) (fun ρ => dsp rgL1 (acons (ma ρ) (.ok []))) := by
  obtain ⟨pt, st⟩ := ha
  refine ⟨pe_listRg hc hg hm (prg_1 hg2 hm2 pt na) nb, fun σ I H ρ Q re ex h => ?_⟩
  have h : OutN X.K (g0 X.mg) E I H (ma ρ >>= fun d => rgL1 [d]) Q := by
    have h : OutN X.K (g0 X.mg) E I H (dsp rgL1 (acons (ma ρ) (.ok []))) Q := h
    cases e : ma ρ with
    | ok d =>
      rw [e] at h
      exact h
    | err _ _ =>
      rw [e] at h
      exact h
    | stuck =>
      rw [e] at h
      exact h
  refine st.runN re ex h fun d v I1 H1 _ s1 rs h => ?_
  cases rs with
  | int j =>
    obtain ⟨⟨h1, h2, h3, h4, h5⟩, h⟩ := outN_if h
    exact ⟨j, rfl, ⟨h1, h2, h3, h4, Nat.le_trans h5 (by decide)⟩, fun q hq => h.new s1.e hq (rgV_reps 0 j)⟩
  | _ => exact h.elim
def scals (ds : List D) : Bool := ds.all D.scal
theorem Reps.scals {K : PySem.W.Frag} {mg : Gm} {I I' : Hp} : ∀ {vs : List V} {ds : List D}, Reps K mg I vs ds → DL.scals ds = true → Reps K mg I' vs ds
  | _, _, .nil, _ => .nil
  | _, _, .cons a r, h => by
    unfold DL.scals at h
    rw [List.all_cons, Bool.and_eq_true] at h
    exact .cons (a.scal h.1) (Reps.scals r h.2)
def ownS (i : Nat) (ρ : Env) (r : R (List D)) : R Fl := r >>= fun ds => .ok (.nx (ρ.set i (some (.lst ds))))
@[simp] theorem ownS_ok (i : Nat) (ρ : Env) (ds : List D) : ownS i ρ (.ok ds) = .ok (.nx (ρ.set i (some (.lst ds)))) := rfl
def ownSW (i : Nat) (ρ : Env) (r : R (List D)) : R Fl := r >>= fun ds => if scals ds = true then .ok (.nx (ρ.set i (some (.lst ds)))) else .stuck
@[simp] theorem ownSW_ok (i : Nat) (ρ : Env) (ds : List D) : ownSW i ρ (.ok ds) = if scals ds = true then .ok (.nx (ρ.set i (some (.lst ds)))) else .stuck := rfl
theorem ms_own (i : Nat) {px : Pos} (hN : X.N.Nodup) (he : MN X E e te m) (hi : X.N[i]? = some x := by rfl) (hx : Loc X.env.scope x := by first | exact .inl rfl | exact .inr rfl) (hM : i ∈ M := by decide) (hD : deep M i = false := by decide) (hs : swapsWith e (some (.Name x px)) pos.line X.env = pure false := by rfl) (hf : X.fn x = true ∨ X.env.scope.names.lookup x = some .local := by first | exact .inl rfl | exact .inr rfl) :
    MS X E Mb M M (.Assign [.Name x px] e pos) (tAsg te (gName i)) (fun ρ => ownS i ρ (m (wipeE ρ M))) :=
  ⟨ps_set hN hi hx he.pe hs hf, fun Ie He σ I H ρ D0 s h => he.sn σ I H _ _ s.re s.st.e (by
    have h : OutS X.K (g0 X.mg) E Mb M Ie He I D0 (ownS i ρ (m (wipeE ρ M))) := h
    cases q : m (wipeE ρ M) with
    | ok ds =>
      rw [q] at h
      exact fun p vs I1 H1 t n1 n2 hp r => h _ I1 H1 (s.own hM t n1 n2 hp r hD) t.i
    | err nm ds =>
      rw [q] at h
      exact fun C od I1 H1 t xr => h C od I1 H1 (s.st.trans t) xr
    | stuck =>
      rw [q] at h
      exact h)⟩
end

section
variable {X : Cx} {E : Wh} {Mb M : List Nat} {e k : Expr} {pos px pa pc pt : Pos} {x : Str} {te tk : TE} {m mk : Env → R D}
/-- a built-in class as a value -/
theorem me_bty {n : String} (hg : Gl X x) (hm : X.mg x = none) (hv : bootBuiltins x = some (.type n)) (hn : x ≠ "__name__" := by decide) (hd : (x == ("__debug__" : Str)) = false := by decide) : ME X E (.Name x pos) (tC (.ty n)) (fun _ => .ok (.ty n)) :=
  ⟨pe_bltn (v := .ty n) hg hm hv rfl hn hd, fun σ I H ρ Q re ex h => h.here ex (.ty n)⟩
/-- a constant of the module -/
theorem me_glb {v : V} {u : Value} {d : D} (hg : Gl X x) (hm : X.mg x = some u) (r : RelV v u) (rp : ∀ I, Rep X.K (gm X E) I v d) (hd : (x == ("__debug__" : Str)) = false := by decide) : ME X E (.Name x pos) (tC v) (fun _ => .ok d) :=
  ⟨pe_glob hg hm r hd, fun σ I H ρ Q re ex h => h.here ex (rp I)⟩
end

/-! ### what is known of the text's own defs -/
structure FnAt (K : PySem.W.Frag) (mg : Str → Option Value) (x : Str) (st : Stmt) (ps : List Str) : Prop where
  ex : ∃ f fd, Fun K x x st f fd ∧ mg x = some (.ref f) ∧ Binds K fd ps []
section
variable {X : Cx} {E : Wh} {a : Expr} {ta : TE} {ma : Env → R D} {p p2 pos pos2 : Pos}
end
/-- the law's own promise -/
def spLaw (K : PySem.W.Frag) : Sp := fun vs H Q _ => ∃ (a : Addr) (ns : List Int), vs = [.ref a] ∧ SqL K H a (ns.map V.int) ∧ ns.length ≤ 63 ∧ ∀ H', Q (.bl true) H'
theorem law_of {P : Program} {w : World} {K : PySem.W.Frag} {mg : Str → Option Value} {base : Heap} {CX : CXT} {k : Nat} {f : Addr} {fd : FuncData} {ps : List Str} {g : List D → R D} (F : FnOk P w K mg base CX k f fd ps (spOf K (g0 mg) 1 g)) (h : ∀ ns : List Int, ns.length ≤ 63 → g [.scr ns] = .ok (.bl true)) :
    FnOk P w K mg base CX k f fd ps (spLaw K) := F.imp fun vs H Q E ⟨a, ns, e, hs, hl, q⟩ => by
  subst e
  refine ⟨H, [.scr ns], rfl, .refl _, .cons (.scr hs) .nil, ?_⟩
  rw [h ns hl]
  intro v I' H' _ r
  cases r
  exact q H'
end DL
namespace DL
open PySem PySem.Spec L2

theorem lexAt_shift (e r : Nat → Bool) (z : Bool) : ∀ (k i : Nat), Ob.lexAt e r z (i + 1) k = Ob.lexAt (fun j => e (j + 1)) (fun j => r (j + 1)) z i k
  | 0, _ => rfl
  | k + 1, i => by
    rw [Ob.lexAt_succ, Ob.lexAt_succ, lexAt_shift e r z k (i + 1)]
theorem lexAt_ge : ∀ ns ms : List Int, Ob.lexAt (fun j => decide (ns.getD j 0 = ms.getD j 0)) (fun j => decide (ms.getD j 0 ≤ ns.getD j 0)) (decide (ms.length ≤ ns.length)) 0 (min ns.length ms.length) = !HT.lexLt ns ms
  | [], [] => rfl
  | [], y :: ys => by
    show Ob.lexAt _ _ (decide (ys.length + 1 ≤ 0)) 0 (min 0 _) = !true
    rw [Nat.zero_min, Ob.lexAt_zero]
    rfl
  | x :: xs, [] => by
    show Ob.lexAt _ _ (decide (0 ≤ xs.length + 1)) 0 (min _ 0) = !false
    rw [Nat.min_zero, Ob.lexAt_zero]
    rfl
  | x :: xs, y :: ys => by
    have hm : min (x :: xs).length (y :: ys).length = min xs.length ys.length + 1 := by
      rw [List.length_cons, List.length_cons]
      omega
    rw [hm, Ob.lexAt_succ, lexAt_shift, HT.lexLt_cons]
    show (if decide (x = y) = true then Ob.lexAt (fun j => decide (xs.getD j 0 = ys.getD j 0)) (fun j => decide (ys.getD j 0 ≤ xs.getD j 0)) (decide (ys.length + 1 ≤ xs.length + 1)) 0 (min xs.length ys.length) else decide (y ≤ x)) = !if x = y then HT.lexLt xs ys else decide (x < y)
    by_cases e : x = y
    · rw [if_pos (decide_eq_true e), if_pos e, show decide (ys.length + 1 ≤ xs.length + 1) = decide (ys.length ≤ xs.length) by simp, lexAt_ge xs ys]
    · rw [if_neg (by simpa using e), if_neg e]
      by_cases h : y ≤ x
      · rw [decide_eq_true h, decide_eq_false (by omega)]
        rfl
      · rw [decide_eq_false h, decide_eq_true (by omega)]
        rfl
def rGeT (K : PySem.W.Frag) : R2 := fun x y H Q => ∃ (a b : Addr) (ns ms : List Int), x = .ref a ∧ y = .ref b ∧ SqT K H a (ns.map V.int) ∧ SqT K H b (ms.map V.int) ∧ Q (.bl (!HT.lexLt ns ms)) H
theorem op_geT {X : Cx} (hu : X.A.units < cLine) : OpR X (compareOp .GtE) (rGeT X.K) := by
  intro pins s σ H x y v u Q I rx ry h
  obtain ⟨a, b, ns, ms, rfl, rfl, ha, hb, q⟩ := h
  cases rx
  cases ry
  obtain ⟨its, r1, p1, _⟩ := I.tuple ha
  obtain ⟨its2, r2, p2, _⟩ := I.tuple hb
  have i1 : PyProof.Rows.IntsAre its ns := Vals.ints r1
  have i2 : PyProof.Rows.IntsAre its2 ms := Vals.ints r2
  have e1 : its.toArray.size = ns.length := by rw [List.size_toArray]; exact i1.length
  have e2 : its2.toArray.size = ms.length := by rw [List.size_toArray]; exact i2.length
  have at1 : ∀ j (h1 : j < its.toArray.size), ∃ t, its.toArray[j] = .int (ns.getD j 0) t := fun j h1 => PyProof.Rows.IntsAre.int_at i1 _ _ (by simp at h1; simp [h1])
  have at2 : ∀ j (h1 : j < its2.toArray.size), ∃ t, its2.toArray[j] = .int (ms.getD j 0) t := fun j h1 => PyProof.Rows.IntsAre.int_at i2 _ _ (by simp at h1; simp [h1])
  have R := Ob.RcOp.tuples_ge (A := X.A) (s := s) (e := fun j => decide (ns.getD j 0 = ms.getD j 0)) (r := fun j => decide (ms.getD j 0 ≤ ns.getD j 0)) p1 p2 hu (fun j h1 h2 => by
    obtain ⟨t, et⟩ := at1 j h1
    obtain ⟨t', et'⟩ := at2 j h2
    rw [et, et']
    have z : (ns.getD j 0 == ms.getD j 0) = decide (ns.getD j 0 = ms.getD j 0) := by
      by_cases q : ns.getD j 0 = ms.getD j 0
      · rw [decide_eq_true q]; exact beq_iff_eq.mpr q
      · rw [decide_eq_false q]; exact beq_eq_false_iff_ne.mpr q
    rw [← z]
    exact SeqAt.EqAt.int_int _ _ _ _) (fun j h1 h2 _ => by
    obtain ⟨t, et⟩ := at1 j h1
    obtain ⟨t', et'⟩ := at2 j h2
    rw [et, et']
    exact Ob.RcOp.ge_int _ _ _ _)
  rw [e1, e2] at R
  refine R _ _ _ _ ⟨.bl _, H, I, rfl, ?_⟩
  rw [← lexAt_ge] at q
  exact q
def geX : D → D → R D
  | .int i, .int j => .ok (.bl (decide (j ≤ i)))
  | .tup xs, .tup ys => match intsOf xs, intsOf ys with
    | some ns, some ms => .ok (.bl (!HT.lexLt ns ms))
    | _, _ => .stuck
  | _, _ => .stuck
def rGeX (K : PySem.W.Frag) : R2 := fun x y H Q => rI0 (fun i j => .bl (decide (j ≤ i))) x y H Q ∨ rGeT K x y H Q
theorem op_geX {X : Cx} {k : Nat} (hr : Room k X.A) : OpR X (compareOp .GtE) (rGeX X.K) := OpR.or op_ge (op_geT hr.units0)
theorem rs_geX {K : PySem.W.Frag} {mg : Gm} : RSn K mg (rGeX K) geX := by
  intro x y I H dx dy d Q ex rx ry h q
  cases rx with
  | int i =>
    cases ry with
    | int j =>
      cases h
      exact .inl ⟨i, j, rfl, rfl, q _ _ _ (.refl ex) (.bl _)⟩
    | _ => cases h
  | @tup a vs ds ha ra =>
    cases ry with
    | @tup b ws es hb rb =>
      have h : (match intsOf ds, intsOf es with | some ns, some ms => R.ok (.bl (!HT.lexLt ns ms)) | _, _ => .stuck) = R.ok d := h
      cases e1 : intsOf ds with
      | none =>
        rw [e1] at h
        cases h
      | some ns =>
        cases e2 : intsOf es with
        | none =>
          rw [e1, e2] at h
          cases h
        | some ms =>
          rw [e1, e2] at h
          cases h
          obtain ⟨rfl, _⟩ := reps_ints ra e1
          obtain ⟨rfl, _⟩ := reps_ints rb e2
          exact .inr ⟨a, b, ns, ms, rfl, rfl, SqT.of (ex _ _ ha), SqT.of (ex _ _ hb), q _ _ _ (.refl ex) (.bl _)⟩
    | _ => cases h
  | _ => cases h
end DL
namespace DL
open PySem PySem.Spec L2

/-! ### chained comparisons, bits, is, bit_length -/
def ch2 (f g : D → D → R D) (a b c : R D) : R D := a >>= fun x => b >>= fun y => calm (f x y) >>= asB >>= fun k => if k = true then (c >>= fun z => calm (g y z)) else .ok (.bl false)
section
variable {X : Cx} {E : Wh} {K : PySem.W.Frag} {mg : Gm} {I I' H H' : Hp} {σ : L2.St} {ρ : Env} {a b c e : Expr} {es : List Expr} {pos p : Pos} {ma mb mc m : Env → R D} {mt mu : Env → R Bool} {ms : Env → R (List D)} {x : Str} {ta tb tc t : TE} {tt tu : TT} {tas tr : TA} {tl th : TO}
theorem chain_sn {r r' : R2} {f g : D → D → R D} (hs : RSn X.K (gm X E) r f) (hs' : RSn X.K (gm X E) r' g) (sa : Sn X.K (gm X E) E.e (Rep X.K (gm X E)) ta ma) (sb : Sn X.K (gm X E) E.e (Rep X.K (gm X E)) tb mb) (sc : Sn X.K (gm X E) E.e (Rep X.K (gm X E)) tc mc) :
    Sn X.K (gm X E) E.e (Rep X.K (gm X E)) (tChain r r' ta tb tc) (fun ρ => ch2 f g (ma ρ) (mb ρ) (mc ρ)) := by
  intro σ I H ρ Q re ex h
  refine sa.run re ex h fun d v I1 H1 _ st rx h => ?_
  refine sb.run (re.mono st.i) st.e h fun d2 v2 I2 H2 _ st2 ry h => ?_
  cases hz : f d d2 with
  | err _ _ =>
    rw [hz] at h
    exact h.elim
  | stuck =>
    rw [hz] at h
    exact h.elim
  | ok z =>
    rw [hz] at h
    refine hs v v2 I2 H2 d d2 z _ st2.e (rx.mono st2.i) ry hz fun v3 I3 H3 st3 r3 => ?_
    cases r3 with
    | bl k =>
      refine ⟨k, rfl, ?_⟩
      cases k with
      | false => exact h.there st3 (.bl false)
      | true =>
        have h : Out X.K (gm X E) (E.e σ) (Rep X.K (gm X E)) I2 H2 (mc ρ >>= fun z => calm (g d2 z)) Q := h
        have re3 := ((re.mono st.i).mono st2.i).mono st3.i
        refine sc.run re3 st3.e (h.mono st3) fun d4 v4 I4 H4 _ st4 r4 h => ?_
        obtain ⟨z4, hz4, h⟩ := out_calm h
        exact hs' v2 v4 I4 H4 d2 d4 z4 Q st4.e ((ry.mono st3.i).mono st4.i) r4 hz4 h
    | _ => exact h.elim
/-- a < b < c -/
theorem me_chain {op op' : CmpOp} {r r' : R2} {f g : D → D → R D} (ho : OpR X (compareOp op) r) (hs : RSn X.K (gm X E) r f) (ho' : OpR X (compareOp op') r') (hs' : RSn X.K (gm X E) r' g) (ha : ME X E a ta ma) (hb : ME X E b tb mb) (hc : ME X E c tc mc) (hm : lastMarks [op, op'] [b, c] = false := by with_unfolding_all rfl) :
    ME X E (.Compare a [op, op'] [b, c] pos) (tChain r r' ta tb tc) (fun ρ => ch2 f g (ma ρ) (mb ρ) (mc ρ)) :=
  ⟨pe_chain ho ho' ha.pe hb.pe hc.pe hm, chain_sn hs hs' ha.sn hb.sn hc.sn⟩
theorem sn_test {te : TE} (h : Sn X.K (gm X E) E.e (Rep X.K (gm X E)) te m) : Sn X.K (gm X E) E.e rB (tTest te) (fun ρ => tst (m ρ)) := by
  intro σ I H ρ Q re ex q
  refine h.run re ex q fun d v I1 H1 _ st rx h => ?_
  cases rx with
  | bl k => exact ⟨k, rfl, h.here st.e rfl⟩
  | _ => exact h.elim
theorem mt_chain {op op' : CmpOp} {r r' : R2} {f g : D → D → R D} (ho : OpR X (compareOp op) r) (hs : RSn X.K (gm X E) r f) (ho' : OpR X (compareOp op') r') (hs' : RSn X.K (gm X E) r' g) (ha : ME X E a ta ma) (hb : ME X E b tb mb) (hc : ME X E c tc mc) (hm : lastMarks [op, op'] [b, c] = false := by with_unfolding_all rfl) :
    MT X E (.Compare a [op, op'] [b, c] pos) (tTest (tChain r r' ta tb tc)) (fun ρ => tst (ch2 f g (ma ρ) (mb ρ) (mc ρ))) :=
  ⟨pt_chain ho ho' ha.pe hb.pe hc.pe hm, sn_test (chain_sn hs hs' ha.sn hb.sn hc.sn)⟩
/-! bits -/
def andD : D → D → R D
  | .int i, .int j => .ok (.int (Builtin.bitAnd i j))
  | _, _ => .stuck
def orD : D → D → R D
  | .int i, .int j => .ok (.int (Builtin.bitOr i j))
  | _, _ => .stuck
def shlD : D → D → R D
  | .int i, .int j => gd (0 ≤ j ∧ j ≤ 1000000 ∧ i.natAbs < 2 ^ 64) (.int (i * 2 ^ j.toNat))
  | _, _ => .stuck
def shrD : D → D → R D
  | .int i, .int j => gd (0 ≤ j) (.int (i / 2 ^ j.toNat))
  | _, _ => .stuck
theorem rs_and : RSn K mg (rI0 fun i j => .int (Builtin.bitAnd i j)) andD := rs_I0 (gd' := fun i j => .int (Builtin.bitAnd i j)) (fun _ _ _ => .int _) (fun _ _ => rfl) fun dx dy d h => by
  cases dx <;> cases dy <;> first | exact ⟨_, _, rfl, rfl⟩ | cases h
theorem rs_or : RSn K mg (rI0 fun i j => .int (Builtin.bitOr i j)) orD := rs_I0 (gd' := fun i j => .int (Builtin.bitOr i j)) (fun _ _ _ => .int _) (fun _ _ => rfl) fun dx dy d h => by
  cases dx <;> cases dy <;> first | exact ⟨_, _, rfl, rfl⟩ | cases h
theorem rs_shl : RSn K mg (rI CPow fun i j => .int (i * 2 ^ j.toNat)) shlD := rs_I (gd' := fun i j => .int (i * 2 ^ j.toNat)) (fun _ _ _ => .int _) (fun i j d h => (gd_of h).imp id Eq.symm) fun dx dy d h => by
  cases dx <;> cases dy <;> first | exact ⟨_, _, rfl, rfl⟩ | cases h
theorem rs_shr : RSn K mg (rI (fun _ j => 0 ≤ j) fun i j => .int (i / 2 ^ j.toNat)) shrD := rs_I (gd' := fun i j => .int (i / 2 ^ j.toNat)) (fun _ _ _ => .int _) (fun i j d h => (gd_of h).imp id Eq.symm) fun dx dy d h => by
  cases dx <;> cases dy <;> first | exact ⟨_, _, rfl, rfl⟩ | cases h
def bitsD : D → R D
  | .int i => .ok (.int (Builtin.Int.intBits i : Nat))
  | _ => .stuck
theorem me_bits {apos : Pos} (ha : ME X E a ta ma) (hbase : attributeBase a "bit_length" X.env (eval a X.env) = eval a X.env := by rfl) (hline : (apos.endLine == pos.line) = true := by rfl) : ME X E (.Call (.Attribute a "bit_length" apos) [] [] pos) (tBits ta) (fun ρ => o1 bitsD (ma ρ)) := by
  obtain ⟨pa, sa⟩ := ha
  refine ⟨pe_bits pa hbase hline, fun σ I H ρ Q re ex h => ?_⟩
  refine sa.run re ex h fun d v I1 H1 _ st rx h => ?_
  cases rx with
  | int i => exact ⟨i, rfl, h.here st.e (.int _)⟩
  | _ => exact h.elim
end
end DL
namespace DL
open PySem PySem.Spec L2

/-! ### enumerate of a list -/
def enumD : Nat → List D → List D
  | _, [] => []
  | k, d :: ds => .tup [.int (k : Int), d] :: enumD (k + 1) ds
theorem enumD_len : ∀ (k : Nat) (ds : List D), (enumD k ds).length = ds.length
  | _, [] => rfl
  | k, d :: ds => congrArg (· + 1) (enumD_len (k + 1) ds)
theorem enumD_get : ∀ (k : Nat) (ds : List D) (i : Nat) {x : D}, (enumD k ds)[i]? = some x → ∃ d, ds[i]? = some d ∧ x = .tup [.int ((k + i : Nat) : Int), d]
  | _, [], i, x, h => by simp [enumD] at h
  | k, d :: ds, 0, x, h => by
    have h : _ = _ := Option.some.inj h
    subst h
    exact ⟨d, rfl, rfl⟩
  | k, d :: ds, i + 1, x, h => by
    obtain ⟨d', h1, rfl⟩ := enumD_get (k + 1) ds i h
    exact ⟨d', h1, by rw [show k + 1 + i = k + (i + 1) from by omega]⟩
section
variable {X : Cx} {E : Wh} {K : PySem.W.Frag} {mg : Gm} {I I' H H' : Hp} {σ : L2.St} {ρ : Env} {a b c e tg : Expr} {es : List Expr} {pos p tpos : Pos} {m : Env → R D} {ms : Env → R (List D)} {t : TE} {tas : TA}
theorem it_enum {a : Addr} {vs : List V} {ds : List D} (h : SqL K I a vs) (r : Reps K mg I vs ds) : ItOk K mg I (Ite K a) (enumD 0 ds) := fun I1 H e1 e2 => ⟨fun i d hd => by
    obtain ⟨d', hd', rfl⟩ := enumD_get 0 ds i hd
    obtain ⟨v, hv, rv⟩ := r.get hd'
    refine ⟨⟨vs, v, (e1.trans e2).seq h, hv⟩, fun x H' y => ?_⟩
    obtain ⟨T, x', rfl, hn, rfl, hx⟩ := y
    have e := hx vs ((e1.trans e2).seq h)
    rw [hv] at e
    cases e
    refine ⟨_, .new e2 hn, ?_⟩
    rw [Nat.zero_add]
    exact new_tup e2 hn (.cons (.int _) (.cons (rv.mono e1) .nil)), ⟨vs, (e1.trans e2).seq h, by rw [enumD_len]; exact Nat.le_of_eq r.len⟩⟩
end
end DL
namespace DL
open PySem PySem.Spec L2

section
variable {K : PySem.W.Frag} {mg : Gm} {I J : Hp}
/-- J is I without things whose kinds are not in the data -/
structure Less (J I : Hp) (bad : Nat → Prop) : Prop where
  same : ∀ a o, I a = some o → J a = some o ∨ (bad (HO.kd o) ∧ HO.kd o < 4)
mutual
theorem Rep.less {bad : Nat → Prop} (l : Less J I bad) : ∀ {v : V} {d : D}, Rep K mg I v d → (∀ k, bad k → d.has k = false) → Rep K mg J v d
  | _, _, .non, _ => .non
  | _, _, .bl b, _ => .bl b
  | _, _, .int i, _ => .int i
  | _, _, .str x, _ => .str x
  | _, _, .ty n, _ => .ty n
  | _, _, .cls h, _ => .cls h
  | _, _, .rng h, _ => (l.same _ _ h).elim .rng fun z => absurd z.2 (by show ¬ 4 < 4; decide)
  | _, _, .lst h r, q => (l.same _ _ h).elim (fun h => .lst h (Reps.less l r fun k hk => by
      have := q k hk
      rw [D.has, Bool.or_eq_false_iff] at this
      exact this.2)) fun z => by
      have := q 0 z.1
      rw [D.has] at this
      cases this
  | _, _, .tup h r, q => (l.same _ _ h).elim (fun h => .tup h (Reps.less l r fun k hk => by
      have := q k hk
      rw [D.has] at this
      exact this)) fun z => absurd z.2 (by show ¬ 4 < 4; decide)
  | _, _, .obj h c r, q => (l.same _ _ h).elim (fun h => .obj h c (Reps.less l r fun k hk => by
      have := q k hk
      rw [D.has, Bool.or_eq_false_iff] at this
      exact this.2)) fun z => by
      have := q 3 z.1
      rw [D.has] at this
      cases this
  | _, _, .dk (.inr ⟨u, h⟩) r, q => (l.same _ _ h).elim (fun h => .dk (.inr ⟨u, h⟩) (Reps.less l r fun k hk => by
      have := q k hk
      rw [D.has, Bool.or_eq_false_iff] at this
      exact this.2)) fun z => absurd z.2 (by show ¬ 4 < 4; decide)
  | _, _, .dk (.inl h) r, q => (l.same _ _ h).elim (fun h => .dk (.inl h) (Reps.less l r fun k hk => by
      have := q k hk
      rw [D.has, Bool.or_eq_false_iff] at this
      exact this.2)) fun z => by
      have := q 1 z.1
      rw [D.has] at this
      cases this
  | _, _, .dt (.inr ⟨u, h⟩) r, q => (l.same _ _ h).elim (fun h => .dt (.inr ⟨u, h⟩) (Reps.less l r fun k hk => by
      have := q k hk
      rw [D.has, Bool.or_eq_false_iff] at this
      exact this.2)) fun z => absurd z.2 (by show ¬ 4 < 4; decide)
  | _, _, .dt (.inl h) r, q => (l.same _ _ h).elim (fun h => .dt (.inl h) (Reps.less l r fun k hk => by
      have := q k hk
      rw [D.has, Bool.or_eq_false_iff] at this
      exact this.2)) fun z => by
      have := q 2 z.1
      rw [D.has] at this
      cases this
  | _, _, .exc x n h r, q => (l.same _ _ h).elim (fun h => .exc x n h (Reps.less l r fun k hk => by
      have := q k hk
      rw [D.has] at this
      exact this)) fun z => absurd z.2 (by show ¬ 4 < 4; decide)
  | _, _, .scr h, q => by
      refine .scr ?_
      rcases h with (h | ⟨o, h⟩) | h
      · rcases l.same _ _ h with h | z
        · exact .inl (.inl h)
        · have := q 0 z.1
          cases this
      · rcases l.same _ _ h with h | z
        · exact .inl (.inr ⟨o, h⟩)
        · exact absurd z.2 (by show ¬ 4 < 4; decide)
      · exact .inr h
theorem Reps.less {bad : Nat → Prop} (l : Less J I bad) : ∀ {vs : List V} {ds : List D}, Reps K mg I vs ds → (∀ k, bad k → D.hasAny k ds = false) → Reps K mg J vs ds
  | _, _, .nil, _ => .nil
  | _, _, .cons h r, q => .cons (Rep.less l h fun k hk => by
      have := q k hk
      rw [D.hasAny, Bool.or_eq_false_iff] at this
      exact this.1) (Reps.less l r fun k hk => by
      have := q k hk
      rw [D.hasAny, Bool.or_eq_false_iff] at this
      exact this.2)
end
/-- what is known of a value that may be kept -/
theorem keepOk_of {M : List Nat} {ρ : Env} {d d0 : D} {i : Nat} (h : keepOk M ρ d = true) (hi : i ∈ M) (q : ρ[i]? = some (some d0)) : d.has d0.kind = false ∧ (deep M i = true → d.has 0 = false) := by
  have := List.all_eq_true.mp h i hi
  rw [q] at this
  simp at this
  refine ⟨this.1, fun z => ?_⟩
  rcases this.2 with y | y
  · rw [z] at y
    cases y
  · exact y
end
section
variable {K : PySem.W.Frag} {mg : Gm} {E : XK} {Mb M M' M1 : List Nat} {Ie : Hp × Addr} {He I H I' H' : Hp} {σ : L2.St} {ρ : Env} {D0 : Ends} {I0 : Hp}
/-- all slots may be read; what comes back may be kept if nothing in it is of the kind of a thing of one's own -/
theorem Sn.mild {te : L2.St → Hp → (V → Hp → Prop) → Prop} {m : Env → R D} {k : D → R Fl} {P : V → Hp → Prop} (h : Sn K mg (fun _ => E) (Rep K mg) te m) (s : SE K mg M Ie He σ I H ρ) (hq : OutS K mg E Mb M' Ie He I0 D0 (m ρ >>= fun d => if keepOk M ρ d = true then k d else .stuck))
    (hk : ∀ d v I' H', SE K mg M Ie He σ I' H' ρ → Stp I H I' H' → Rep K mg I' v d → OutS K mg E Mb M' Ie He I0 D0 (k d) → P v H') : te σ H P := by
  obtain ⟨I1, k1, s1, f1⟩ := s.all2
  refine h σ I1 H _ P (RE.of s1) s1.st.e (Out.of s1.st hq fun d _ q v I2 H2 t r => ?_)
  by_cases hd : keepOk M ρ d = true
  · rw [if_pos hd] at q
    classical
    let J : Hp := fun a => if I a = none ∧ I1 a ≠ none then none else I2 a
    have ji : Same I J := fun a o z => by
      show (if I a = none ∧ I1 a ≠ none then none else I2 a) = some o
      rw [if_neg (fun w => by rw [z] at w; cases w.1)]
      exact t.i _ _ (k1 _ _ z)
    have jh : Same J H2 := fun a o z => by
      have z : (if I a = none ∧ I1 a ≠ none then none else I2 a) = some o := z
      split at z
      · cases z
      · exact t.e _ _ z
    have jf : ∀ a o, J a = some o → I a = some o ∨ Fr H a o := fun a o z => by
      have z : (if I a = none ∧ I1 a ≠ none then none else I2 a) = some o := z
      split at z
      · cases z
      · rename_i w
        rcases t.f _ _ z with y | y
        · cases e : I a with
          | none => exact absurd ⟨e, by rw [y]; exact fun w => by cases w⟩ w
          | some o' =>
            have := k1 _ _ e
            rw [y] at this
            cases this
            exact .inl rfl
        · exact .inr y
    have st : Stp I H J H2 := ⟨ji, t.h, jh, jf⟩
    have less : Less J I2 (fun kd => ∃ i ∈ M, ∃ d0, ρ[i]? = some (some d0) ∧ (kd = d0.kind ∨ (deep M i = true ∧ kd = 0))) := ⟨fun a o z => by
      by_cases w : I a = none ∧ I1 a ≠ none
      · cases e : I1 a with
        | none => exact absurd e w.2
        | some o' =>
          have z2 := t.i _ _ e
          rw [z] at z2
          cases z2
          rcases f1 a o e with y | ⟨i, hi, d0, q1, q2, q3⟩
          · rw [w.1] at y
            cases y
          · exact .inr ⟨⟨i, hi, d0, q1, q2⟩, q3⟩
      · refine .inl ?_
        show (if I a = none ∧ I1 a ≠ none then none else I2 a) = some o
        rw [if_neg w]
        exact z⟩
    exact hk d v J H2 (s.step st) st (r.less less fun kd ⟨i, hi, d0, q1, q2⟩ => by
      obtain ⟨k1, k2⟩ := keepOk_of hd hi q1
      rcases q2 with rfl | ⟨y, rfl⟩
      · exact k1
      · exact k2 y) q
  · rw [if_neg hd] at q
    exact q.elim
end
section
variable {X : Cx} {E : XK} {Mb M M' M1 : List Nat} {s : Stmt} {ss : List Stmt} {t u : TS} {ms mr : Env → R Fl} {e c : Expr} {te : TE} {m : Env → R D} {pos : Pos} {x : Str} {tt : TT} {mt : Env → R Bool}
end
end DL
namespace DL
open PySem PySem.Spec L2

/-! ### attributes -/
def getF (f : Str) : List Str → List D → Option D
  | k :: ks, d :: ds => if f = k then some d else getF f ks ds
  | _, _ => none
section
variable {K : PySem.W.Frag} {mg : Gm} {I : Hp}
theorem getF_rep {f : Str} : ∀ {fs : List (Str × V)} {ds : List D} {d : D}, Reps K mg I (fs.map (·.2)) ds → getF f (fs.map (·.1)) ds = some d → ∃ v, fs.lookup f = some v ∧ Rep K mg I v d
  | [], _, _, _, h => by
    simp [getF] at h
  | (g, v) :: fs, e :: ds, d, .cons h r, q => by
    have q : (if f = g then some e else getF f (fs.map (·.1)) ds) = some d := q
    by_cases hf : f = g
    · subst hf
      rw [if_pos rfl] at q
      cases q
      exact ⟨v, by rw [List.lookup_cons]; simp, h⟩
    · rw [if_neg hf] at q
      obtain ⟨v', a, b⟩ := getF_rep r q
      refine ⟨v', ?_, b⟩
      rw [List.lookup_cons, show (f == g) = false from by rw [beq_eq_false_iff_ne]; exact hf]
      exact a
end
def fldD (ns : List Str) (f : Str) : D → R D
  | .obj n ks ds => if n ∈ ns then (match getF f ks ds with | some d => .ok d | none => .stuck) else .stuck
  | _ => .stuck
/-- what is known of the classes whose objects have the attribute -/
def ClF (K : PySem.W.Frag) (mg : Gm) (ns : List Str) (f : Str) : Prop := ∀ n ∈ ns, ∀ C, mg n = some (.ref C) → Cls K C ∧ NoAttr K C f
/-! ### keys -/
def keyD : D → Option Key
  | .int i => some (.inl i)
  | .str x => some (.inr x)
  | _ => none
def keysD : List D → Option (List Key)
  | [] => some []
  | d :: ds => match keyD d, keysD ds with
    | some k, some ks => some (k :: ks)
    | _, _ => none
def getK {κ : Type} [DecidableEq κ] (k : κ) : List κ → List D → Option D
  | k' :: ks, d :: ds => if k' = k then some d else getK k ks ds
  | _, _ => none
/-- what stands in the dict at the key: none: no such question -/
def lookD : D → D → Option (Option D)
  | .dk ks ds, d => (keyD d).map fun k => getK k ks ds
  | .dt ks ds, .tup es => (keysD es).map fun k => getK k ks ds
  | _, _ => none
section
variable {K : PySem.W.Frag} {mg : Gm} {I H : Hp}
theorem keyD_v {v : V} {d : D} {k : Key} (r : Rep K mg I v d) (h : keyD d = some k) : v = kV k := by
  cases r <;> first | (cases h; done) | (cases h; rfl)
theorem keysD_v : ∀ {vs : List V} {ds : List D} {ks : List Key}, Reps K mg I vs ds → keysD ds = some ks → vs = ks.map kV
  | _, _, _, .nil, h => by
    cases h
    rfl
  | _, _, ks, .cons (d := d) (ds := ds) a r, h => by
    unfold keysD at h
    cases e1 : keyD d with
    | none =>
      rw [e1] at h
      cases h
    | some k =>
      cases e2 : keysD ds with
      | none =>
        rw [e1, e2] at h
        cases h
      | some ks' =>
        rw [e1, e2] at h
        cases h
        rw [keyD_v a e1, keysD_v r e2]
        rfl
theorem getK_rep {κ : Type} [DecidableEq κ] {k : κ} : ∀ {kvs : List (κ × V)} {ds : List D}, Reps K mg I (kvs.map (·.2)) ds →
    (∃ v d, valV kvs k = some v ∧ getK k (kvs.map (·.1)) ds = some d ∧ Rep K mg I v d) ∨ (valV kvs k = none ∧ getK k (kvs.map (·.1)) ds = none)
  | [], _, _ => .inr ⟨rfl, by simp [getK]⟩
  | (g, v) :: kvs, e :: ds, .cons h r => by
    show (∃ v' d, valV ((g, v) :: kvs) k = some v' ∧ (if g = k then some e else getK k (kvs.map (·.1)) ds) = some d ∧ Rep K mg I v' d) ∨ (valV ((g, v) :: kvs) k = none ∧ (if g = k then some e else getK k (kvs.map (·.1)) ds) = none)
    by_cases hg : g = k
    · rw [if_pos hg, valV_pos (p := (g, v)) hg]
      exact .inl ⟨v, e, rfl, rfl, h⟩
    · have e1 : valV ((g, v) :: kvs) k = valV kvs k := by simp [valV, List.find?_cons, hg]
      rw [if_neg hg, e1]
      exact getK_rep r
theorem look_rep {x y : V} {dd d : D} {o : Option D} (ex : Same I H) (rx : Rep K mg I x dd) (ry : Rep K mg I y d) (h : lookD dd d = some o) : ∃ a r, x = .ref a ∧ IsD H a ∧ DGet H a y r ∧ ((∃ v d', r = some v ∧ o = some d' ∧ Rep K mg I v d') ∨ (r = none ∧ o = none)) := by
  cases rx with
  | @dk a kvs ds ha ra =>
    cases e : keyD d with
    | none =>
      have h : (keyD d).map (fun k => getK k (kvs.map (·.1)) ds) = some o := h
      rw [e] at h
      cases h
    | some k =>
      have h : (keyD d).map (fun k => getK k (kvs.map (·.1)) ds) = some o := h
      rw [e] at h
      cases h
      have := keyD_v ry e
      subst this
      refine ⟨a, _, rfl, .inl ⟨kvs, same_rd ex ha⟩, .inl ⟨kvs, k, same_rd ex ha, rfl, rfl⟩, ?_⟩
      rcases getK_rep (k := k) ra with ⟨v, d', h1, h2, h3⟩ | ⟨h1, h2⟩
      · exact .inl ⟨v, d', h1, h2, h3⟩
      · exact .inr ⟨h1, h2⟩
  | @dt a kvs ds ha ra =>
    cases ry with
    | @tup b vs es hb rb =>
      have h : (keysD es).map (fun k => getK k (kvs.map (·.1)) ds) = some o := h
      cases e : keysD es with
      | none =>
        rw [e] at h
        cases h
      | some k =>
        rw [e] at h
        cases h
        have := keysD_v rb e
        subst this
        refine ⟨a, _, rfl, .inr ⟨kvs, same_rd ex ha⟩, .inr ⟨kvs, k, b, same_rd ex ha, rfl, ex _ _ hb, rfl⟩, ?_⟩
        rcases getK_rep (k := k) ra with ⟨v, d', h1, h2, h3⟩ | ⟨h1, h2⟩
        · exact .inl ⟨v, d', h1, h2, h3⟩
        · exact .inr ⟨h1, h2⟩
    | _ => cases h
  | _ => cases h
end
def dgetD (dd d : D) : R D := match lookD dd d with
  | some (some e) => .ok e
  | _ => .stuck
def dinD (d dd : D) : R D := match lookD dd d with
  | some o => .ok (.bl o.isSome)
  | none => .stuck
def dninD (d dd : D) : R D := match lookD dd d with
  | some o => .ok (.bl (!o.isSome))
  | none => .stuck
section
variable {X : Cx} {E : Wh} {K : PySem.W.Frag} {mg : Gm} {I I' H H' : Hp} {σ : L2.St} {ρ : Env} {a b c e f : Expr} {es : List Expr} {pos p : Pos} {ma mb mc m : Env → R D} {x : Str} {ta tb tc t : TE}
/-- e.f -/
theorem me_fld (ns : List Str) {g : Str} (hT : ClF X.K (gm X E) ns g) (ha : ME X E a ta ma) (hb : attributeBase a g X.env (eval a X.env) = eval a X.env := by rfl) : ME X E (.Attribute a g pos) (tFld X.K ta g) (fun ρ => o1 (fldD ns g) (ma ρ)) := by
  obtain ⟨pa, sa⟩ := ha
  refine ⟨pe_fld pa hb, fun σ I H ρ Q re ex h => ?_⟩
  refine sa.run re ex h fun d v I1 H1 _ st rx h => ?_
  obtain ⟨z, hz, h9⟩ := out_calm h
  cases rx with
  | @obj a0 C dx n fs ds ha hc ra =>
    have hz : (if n ∈ ns then (match getF g (fs.map (·.1)) ds with | some d => R.ok d | none => .stuck) else .stuck) = R.ok z := hz
    by_cases hn : n ∈ ns
    · rw [if_pos hn] at hz
      cases e : getF g (fs.map (·.1)) ds with
      | none =>
        rw [e] at hz
        cases hz
      | some d' =>
        rw [e] at hz
        cases hz
        obtain ⟨v', h1, h2⟩ := getF_rep ra e
        obtain ⟨k1, k2⟩ := hT n hn C hc
        exact ⟨a0, C, dx, fs, v', rfl, st.e _ _ ha, k1, k2, h1, h9 _ _ _ (.refl st.e) h2⟩
    · rw [if_neg hn] at hz
      cases hz
  | _ => cases hz
/-- d[k] of a dict -/
theorem me_dget (hu : X.A.units + 1 < cLine) (ha : ME X E a ta ma) (hb : ME X E b tb mb) (hs : NoSl b := by exact fun _ _ => rfl) : ME X E (.Subscript a b pos) (tDGet ta tb) (fun ρ => o2 dgetD (ma ρ) (mb ρ)) := by
  obtain ⟨pa, sa⟩ := ha
  obtain ⟨pb, sb⟩ := hb
  refine ⟨pe_dget hu pa pb hs, fun σ I H ρ Q re ex h => ?_⟩
  refine sa.run re ex h fun d v I1 H1 _ st rx h => ?_
  refine sb.run (re.mono st.i) st.e h fun d2 v2 I2 H2 _ st2 ry h => ?_
  obtain ⟨z, hz, h⟩ := out_calm h
  unfold dgetD at hz
  cases e : lookD d d2 with
  | none =>
    rw [e] at hz
    cases hz
  | some o =>
    cases o with
    | none =>
      rw [e] at hz
      cases hz
    | some z' =>
      rw [e] at hz
      cases hz
      obtain ⟨a0, r, rfl, _, hg, hr⟩ := look_rep st2.e (rx.mono st2.i) ry e
      rcases hr with ⟨v', d', rfl, h1, h2⟩ | ⟨_, h1⟩
      · cases h1
        exact ⟨a0, v', rfl, hg, h _ _ _ (.refl st2.e) h2⟩
      · cases h1
/-- k in d, k not in d -/
theorem me_din (hu : X.A.units + 1 < cLine) (ha : ME X E a ta ma) (hb : ME X E b tb mb) (h1 : behindInMarks .In b = false := by rfl) : ME X E (.Compare a [.In] [b] pos) (tDIn ta tb) (fun ρ => o2 dinD (ma ρ) (mb ρ)) := by
  obtain ⟨pa, sa⟩ := ha
  obtain ⟨pb, sb⟩ := hb
  refine ⟨pe_cmp (pc_din hu pa pb) h1, fun σ I H ρ Q re ex h => ?_⟩
  refine sa.run re ex h fun d v I1 H1 _ st rx h => ?_
  refine sb.run (re.mono st.i) st.e h fun d2 v2 I2 H2 _ st2 ry h => ?_
  obtain ⟨z, hz, h⟩ := out_calm h
  unfold dinD at hz
  cases e : lookD d2 d with
  | none =>
    rw [e] at hz
    cases hz
  | some o =>
    rw [e] at hz
    cases hz
    obtain ⟨a0, r, rfl, _, hg, hr⟩ := look_rep st2.e ry (rx.mono st2.i) e
    refine ⟨a0, r, rfl, hg, ?_⟩
    rcases hr with ⟨v', d', rfl, rfl, _⟩ | ⟨rfl, rfl⟩
    · exact h _ _ _ (.refl st2.e) (.bl _)
    · exact h _ _ _ (.refl st2.e) (.bl _)
theorem me_dnin (hu : X.A.units + 1 < cLine) (ha : ME X E a ta ma) (hb : ME X E b tb mb) (h1 : behindInMarks .NotIn b = false := by rfl) : ME X E (.Compare a [.NotIn] [b] pos) (tDNotIn ta tb) (fun ρ => o2 dninD (ma ρ) (mb ρ)) := by
  obtain ⟨pa, sa⟩ := ha
  obtain ⟨pb, sb⟩ := hb
  refine ⟨pe_cmp (pc_dnotin hu pa pb) h1, fun σ I H ρ Q re ex h => ?_⟩
  refine sa.run re ex h fun d v I1 H1 _ st rx h => ?_
  refine sb.run (re.mono st.i) st.e h fun d2 v2 I2 H2 _ st2 ry h => ?_
  obtain ⟨z, hz, h⟩ := out_calm h
  unfold dninD at hz
  cases e : lookD d2 d with
  | none =>
    rw [e] at hz
    cases hz
  | some o =>
    rw [e] at hz
    cases hz
    obtain ⟨a0, r, rfl, _, hg, hr⟩ := look_rep st2.e ry (rx.mono st2.i) e
    refine ⟨a0, r, rfl, hg, ?_⟩
    rcases hr with ⟨v', d', rfl, rfl, _⟩ | ⟨rfl, rfl⟩
    · exact h _ _ _ (.refl st2.e) (.bl _)
    · exact h _ _ _ (.refl st2.e) (.bl _)
end
end DL
namespace DL
open PySem PySem.Spec L2

/-! ### an own object's attribute, an own dict's pair -/
def putNs (f : Str) : List Str → List Str
  | [] => [f]
  | g :: ks => if g = f then g :: ks else g :: putNs f ks
def putDs (f : Str) (d : D) : List Str → List D → List D
  | g :: ks, e :: ds => if g = f then d :: ds else e :: putDs f d ks ds
  | _, _ => [d]
def putKs {κ : Type} [DecidableEq κ] (k : κ) (ks : List κ) : List κ := if k ∈ ks then ks else ks ++ [k]
def repK {κ : Type} [DecidableEq κ] (k : κ) (d : D) : List κ → List D → List D
  | k' :: ks, e :: ds => (if k' = k then d else e) :: repK k d ks ds
  | _, _ => []
def putKd {κ : Type} [DecidableEq κ] (k : κ) (d : D) (ks : List κ) (ds : List D) : List D := if k ∈ ks then repK k d ks ds else ds ++ [d]
section
variable {K : PySem.W.Frag} {mg : Gm} {I : Hp}
theorem putF_ns {f : Str} {v : V} : ∀ fs : List (Str × V), (putF f v fs).map (·.1) = putNs f (fs.map (·.1))
  | [] => rfl
  | (g, x) :: fs => by
    show (if g = f then (g, v) :: fs else (g, x) :: putF f v fs).map (·.1) = if g = f then g :: fs.map (·.1) else g :: putNs f (fs.map (·.1))
    by_cases h : g = f
    · rw [if_pos h, if_pos h]
      rfl
    · rw [if_neg h, if_neg h, ← putF_ns fs]
      rfl
theorem putF_ds {f : Str} {v : V} {d : D} (r : Rep K mg I v d) : ∀ {fs : List (Str × V)} {ds : List D}, Reps K mg I (fs.map (·.2)) ds → Reps K mg I ((putF f v fs).map (·.2)) (putDs f d (fs.map (·.1)) ds)
  | [], _, .nil => .cons r .nil
  | (g, x) :: fs, e :: ds, .cons h t => by
    show Reps K mg I ((if g = f then (g, v) :: fs else (g, x) :: putF f v fs).map (·.2)) (if g = f then d :: ds else e :: putDs f d (fs.map (·.1)) ds)
    by_cases h0 : g = f
    · rw [if_pos h0, if_pos h0]
      exact .cons r t
    · rw [if_neg h0, if_neg h0]
      exact .cons h (putF_ds r t)
theorem putK_ks {κ : Type} [DecidableEq κ] {k : κ} {v : V} (kvs : List (κ × V)) : (putK kvs k v).map (·.1) = putKs k (kvs.map (·.1)) := by
  unfold putK putKs
  by_cases h : (kvs.any fun kv => decide (kv.1 = k)) = true
  · have hm : k ∈ kvs.map (·.1) := by
      obtain ⟨p, hp, e⟩ := List.any_eq_true.mp h
      exact List.mem_map.mpr ⟨p, hp, of_decide_eq_true e⟩
    rw [if_pos h, if_pos hm, List.map_map]
    refine List.map_congr_left fun p _ => ?_
    show (if p.1 = k then (p.1, v) else p).1 = p.1
    split <;> rfl
  · have hm : ¬ k ∈ kvs.map (·.1) := fun z => by
      obtain ⟨p, hp, e⟩ := List.mem_map.mp z
      exact h (List.any_eq_true.mpr ⟨p, hp, decide_eq_true e⟩)
    rw [if_neg h, if_neg hm, List.map_append]
    rfl
theorem repK_rep {κ : Type} [DecidableEq κ] {k : κ} {v : V} {d : D} (r : Rep K mg I v d) : ∀ {kvs : List (κ × V)} {ds : List D}, Reps K mg I (kvs.map (·.2)) ds → Reps K mg I ((kvs.map fun kv => if kv.1 = k then (kv.1, v) else kv).map (·.2)) (repK k d (kvs.map (·.1)) ds)
  | [], _, .nil => .nil
  | (g, x) :: kvs, e :: ds, .cons h t => by
    show Reps K mg I ((if g = k then (g, v) else (g, x)).2 :: (kvs.map fun kv => if kv.1 = k then (kv.1, v) else kv).map (·.2)) ((if g = k then d else e) :: repK k d (kvs.map (·.1)) ds)
    refine .cons ?_ (repK_rep r t)
    by_cases h0 : g = k
    · rw [if_pos h0, if_pos h0]
      exact r
    · rw [if_neg h0, if_neg h0]
      exact h
theorem putK_ds {κ : Type} [DecidableEq κ] {k : κ} {v : V} {d : D} {kvs : List (κ × V)} {ds : List D} (r : Rep K mg I v d) (t : Reps K mg I (kvs.map (·.2)) ds) : Reps K mg I ((putK kvs k v).map (·.2)) (putKd k d (kvs.map (·.1)) ds) := by
  unfold putK putKd
  by_cases h : (kvs.any fun kv => decide (kv.1 = k)) = true
  · have hm : k ∈ kvs.map (·.1) := by
      obtain ⟨p, hp, e⟩ := List.any_eq_true.mp h
      exact List.mem_map.mpr ⟨p, hp, of_decide_eq_true e⟩
    rw [if_pos h, if_pos hm]
    exact repK_rep r t
  · have hm : ¬ k ∈ kvs.map (·.1) := fun z => by
      obtain ⟨p, hp, e⟩ := List.mem_map.mp z
      exact h (List.any_eq_true.mpr ⟨p, hp, decide_eq_true e⟩)
    rw [if_neg h, if_neg hm, List.map_append]
    exact t.app (.cons r .nil)
end
def fldG (i : Nat) (n f : Str) (ρ : Env) (d : D) : R Fl := match ρ[i]? with
  | some (some (.obj n' ks ds)) => if n' = n ∧ ks.length < 900 then .ok (.nx (ρ.set i (some (.obj n (putNs f ks) (putDs f d ks ds))))) else .stuck
  | _ => .stuck
def fldS (M : List Nat) (i : Nat) (n f : Str) (ρ : Env) (a : R D) : R Fl := a >>= fun d => if keepOk M ρ d = true then fldG i n f ρ d else .stuck
def dputG (i : Nat) (ρ : Env) (d : D) : D → D → R Fl
  | .dk ks ds, kd => match keyD kd with
    | some k => if ks.length < LIM then .ok (.nx (ρ.set i (some (.dk (putKs k ks) (putKd k d ks ds))))) else .stuck
    | none => .stuck
  | .dt ks ds, .tup es => match keysD es with
    | some k => if ks.length < LIM then .ok (.nx (ρ.set i (some (.dt (putKs k ks) (putKd k d ks ds))))) else .stuck
    | none => .stuck
  | _, _ => .stuck
def dputS (M : List Nat) (i : Nat) (ρ : Env) (a k : R D) : R Fl := a >>= fun d => if keepOk M ρ d = true then (calm (get ρ i) >>= fun d0 => k >>= dputG i ρ d d0) else .stuck
theorem get_of {ρ : Env} {i : Nat} {d : D} (h : get ρ i = .ok d) : ρ[i]? = some (some d) := by
  unfold get at h
  split at h
  · cases h
    assumption
  · cases h
section
variable {X : Cx} {E : XK} {Mb M M' M1 : List Nat} {s : Stmt} {ss : List Stmt} {t u : TS} {ms mr : Env → R Fl} {e c : Expr} {te : TE} {m : Env → R D} {pos pos' : Pos} {x : Str}
/-- self.f = e, self one's own -/
theorem ms_fldV (i : Nat) (n : Str) {g : Str} {px : Pos} (hT : ∀ C, X.mg n = some (.ref C) → Cls X.K C ∧ NoAttr X.K C g) (he : ME X (kE E) e te m) (hi : X.N[i]? = some x := by rfl) (hv : Vis X.env.scope x := by first | exact Or.inl rfl | exact Or.inr (Or.inl rfl)) (hM : i ∈ M := by decide) (hD : deep M i = false := by decide)
    (hd : (x == ("__debug__" : Str)) = false := by decide) (hcd : (x == ("__classdict__" : Str)) = false := by decide) (hs : swapsWith e (some (.Attribute (.Name x px) g pos')) pos.line X.env = pure false := by rfl) :
    MS X E Mb M M (.Assign [.Attribute (.Name x px) g pos'] e pos) (sFld X.K (tVar i) te g) (fun ρ => fldS M i n g ρ (m ρ)) :=
  ⟨ps_fld (pe_var (i := i) hi hv hd hcd) he.pe hs, fun Ie He σ I H ρ D0 s h => he.sn.mild s h fun d v I1 H1 s1 t r q => by
    unfold fldG at q
    split at q
    · rename_i n' ks ds q0
      obtain ⟨⟨rfl, hl⟩, q⟩ := outS_if q
      obtain ⟨p, o, h2, h3, h4, h5, h6⟩ := s1.own_ i _ hM q0
      have h6 := h6.of hD
      cases h6 with
      | @ins C dx _ fs _ hc ra =>
        obtain ⟨k1, k2⟩ := hT C hc
        rw [List.length_map] at hl
        refine ⟨_, h2, p, C, dx, fs, rfl, h5, k1, k2, by omega, ?_⟩
        have := s1.putO hM q0 h2 (OwnR.ins (dx := dx) hc (putF_ds (f := g) r ra)) (fun _ => rfl) hD
        rw [putF_ns] at this
        exact q _ I1 _ this t.i
    · exact q.elim⟩
/-- d[k] = e, d one's own -/
theorem ms_dputV (i : Nat) {px : Pos} {k : Expr} {tk : TE} {mk : Env → R D} (hu : X.A.units + 1 < cLine) (he : ME X (kE E) e te m) (hk : ME X (kE E) k tk mk) (hi : X.N[i]? = some x := by rfl) (hv : Vis X.env.scope x := by first | exact Or.inl rfl | exact Or.inr (Or.inl rfl)) (hM : i ∈ M := by decide) (hD : deep M i = false := by decide)
    (hd : (x == ("__debug__" : Str)) = false := by decide) (hcd : (x == ("__classdict__" : Str)) = false := by decide) (hs : swapsWith e (some (.Subscript (.Name x px) k pos')) pos.line X.env = pure false := by rfl) :
    MS X E Mb M M (.Assign [.Subscript (.Name x px) k pos'] e pos) (sDPut (tVar i) tk te) (fun ρ => dputS M i ρ (m ρ) (mk ρ)) :=
  ⟨ps_dput hu (pe_var (i := i) hi hv hd hcd) hk.pe he.pe hs, fun Ie He σ I H ρ D0 s h => he.sn.mild (k := fun d => calm (get ρ i) >>= fun d0 => mk ρ >>= dputG i ρ d d0) s h fun d v I1 H1 s1 t r q => by
    obtain ⟨d0, hg, q⟩ := outS_calm q
    have q0 := get_of hg
    obtain ⟨p, o, h2, h3, h4, h5, h6⟩ := s1.own_ i _ hM q0
    have h6 := h6.of hD
    refine ⟨_, h2, hk.sn.weak s1 (q.mono t.i) fun kd vk I2 H2 s2 t2 rk q => ?_⟩
    obtain ⟨p', o', g2, g3, g4, g5, g6⟩ := s2.own_ i _ hM q0
    rw [h2] at g2
    cases g2
    have g9 := g6.of hD
    cases g9 with
    | @dk kvs ds ra =>
      have q : OutS X.K (g0 X.mg) E Mb M Ie He I1 D0 (match keyD kd with
        | some k => if (kvs.map (·.1)).length < LIM then .ok (.nx (ρ.set i (some (.dk (putKs k (kvs.map (·.1))) (putKd k d (kvs.map (·.1)) ds))))) else .stuck
        | none => .stuck) := q
      cases e : keyD kd with
      | none =>
        rw [e] at q
        exact q.elim
      | some k =>
        rw [e] at q
        obtain ⟨hl, q⟩ := outS_if q
        rw [List.length_map] at hl
        have := keyD_v rk e
        subst this
        have st := s2.putO hM q0 h2 (OwnR.dk (putK_ds (k := k) r ra)) (fun h => by cases h) hD
        rw [putK_ks] at st
        exact ⟨p, _, rfl, DPut.k g5 (lim_lt (Nat.le_of_lt hl)), q _ I1 _ st (.refl _)⟩
    | @dt kvs ds ra =>
      cases rk with
      | @tup b vs es hb rb =>
        have q : OutS X.K (g0 X.mg) E Mb M Ie He I1 D0 (match keysD es with
          | some k => if (kvs.map (·.1)).length < LIM then .ok (.nx (ρ.set i (some (.dt (putKs k (kvs.map (·.1))) (putKd k d (kvs.map (·.1)) ds))))) else .stuck
          | none => .stuck) := q
        cases e : keysD es with
        | none =>
          rw [e] at q
          exact q.elim
        | some k =>
          rw [e] at q
          obtain ⟨hl, q⟩ := outS_if q
          rw [List.length_map] at hl
          have := keysD_v rb e
          subst this
          have st := s2.putO hM q0 h2 (OwnR.dt (putK_ds (k := k) r ra)) (fun h => by cases h) hD
          rw [putK_ks] at st
          exact ⟨p, _, rfl, DPut.t g5 (t2.e _ _ hb) (lim_lt (Nat.le_of_lt hl)), q _ I1 _ st (.refl _)⟩
      | _ => exact q.elim
    | lst _ => exact q.elim
    | ins _ _ => exact q.elim⟩
/-- x = {} -/
theorem ms_newK (i : Nat) {px : Pos} (hN : X.N.Nodup) (hi : X.N[i]? = some x := by rfl) (hx : Loc X.env.scope x := by first | exact .inl rfl | exact .inr rfl) (hM : i ∈ M := by decide) (hD : deep M i = false := by decide) (hs : swapsWith (.Dict [] [] pos') (some (.Name x px)) pos.line X.env = pure false := by rfl) (hf : X.fn x = true ∨ X.env.scope.names.lookup x = some .local := by first | exact .inl rfl | exact .inr rfl) :
    MS X E Mb M M (.Assign [.Name x px] (.Dict [] [] pos') pos) (tAsg tDNewK (gName i)) (fun ρ => .ok (.nx (ρ.set i (some (.dk [] []))))) :=
  ⟨ps_set hN hi hx pe_dnewK hs hf, fun Ie He σ I H ρ D0 s h p hp => by
    have t : Stp I H I (upd H p (.dK [])) := .side s.st.e hp
    exact h _ I _ (s.ownO (d9 := .dk [] []) hM t (s.st.e.free hp) hp upd_same (OwnR.dk (kvs := []) .nil) (fun h => by cases h) hD) (.refl _)⟩
theorem ms_newT (i : Nat) {px : Pos} (hN : X.N.Nodup) (hi : X.N[i]? = some x := by rfl) (hx : Loc X.env.scope x := by first | exact .inl rfl | exact .inr rfl) (hM : i ∈ M := by decide) (hD : deep M i = false := by decide) (hs : swapsWith (.Dict [] [] pos') (some (.Name x px)) pos.line X.env = pure false := by rfl) (hf : X.fn x = true ∨ X.env.scope.names.lookup x = some .local := by first | exact .inl rfl | exact .inr rfl) :
    MS X E Mb M M (.Assign [.Name x px] (.Dict [] [] pos') pos) (tAsg tDNewT (gName i)) (fun ρ => .ok (.nx (ρ.set i (some (.dt [] []))))) :=
  ⟨ps_set hN hi hx pe_dnewT hs hf, fun Ie He σ I H ρ D0 s h p hp => by
    have t : Stp I H I (upd H p (.dT [])) := .side s.st.e hp
    exact h _ I _ (s.ownO (d9 := .dt [] []) hM t (s.st.e.free hp) hp upd_same (OwnR.dt (kvs := []) .nil) (fun h => by cases h) hD) (.refl _)⟩
end
end DL
namespace DL
open PySem PySem.Spec L2

/-! ### a subscript, a membership: of a dict or of what has places -/
def ixA : D → D → R D
  | .dk ks ds, k => dgetD (.dk ks ds) k
  | .dt ks ds, k => dgetD (.dt ks ds) k
  | d, k => ixD d k
def inA (d : D) : D → R D
  | .dk ks ds => dinD d (.dk ks ds)
  | .dt ks ds => dinD d (.dt ks ds)
  | e => inD d e
def ninA (d : D) : D → R D
  | .dk ks ds => dninD d (.dk ks ds)
  | .dt ks ds => dninD d (.dt ks ds)
  | e => notInD d e
theorem PE.or {X : Cx} {e : Expr} {t t' : TE} (h : PE X e t) (h' : PE X e t') : PE X e (fun σ H Q => t σ H Q ∨ t' σ H Q) := ⟨fun pins s σ H Q I q => by
  rcases q with q | q
  · exact h.run pins s σ H Q I q
  · exact h'.run pins s σ H Q I q⟩
theorem PT.or {X : Cx} {e : Expr} {t t' : TT} (h : PT X e t) (h' : PT X e t') : PT X e (fun σ H Q => t σ H Q ∨ t' σ H Q) := ⟨fun pins s σ H Q I q => by
  rcases q with q | q
  · exact h.run pins s σ H Q I q
  · exact h'.run pins s σ H Q I q⟩
theorem sn_or {K : PySem.W.Frag} {mg : Gm} {E : XS} {α β : Type} {rp : Hp → β → α → Prop} {t t' : L2.St → Hp → (β → Hp → Prop) → Prop} {m m' mm : Env → R α} (h : Sn K mg E rp t m) (h' : Sn K mg E rp t' m') (hc : ∀ ρ, mm ρ = m ρ ∨ mm ρ = m' ρ) : Sn K mg E rp (fun σ H Q => t σ H Q ∨ t' σ H Q) mm := by
  intro σ I H ρ Q re ex q
  rcases hc ρ with e | e
  · rw [e] at q
    exact .inl (h σ I H ρ Q re ex q)
  · rw [e] at q
    exact .inr (h' σ I H ρ Q re ex q)
theorem o2_l {f g h : D → D → R D} (hf : ∀ x, (∀ y, f x y = g x y) ∨ (∀ y, f x y = h x y)) (a b : R D) : o2 f a b = o2 g a b ∨ o2 f a b = o2 h a b := by
  cases a with
  | ok x =>
    rcases hf x with e | e
    · refine .inl ?_
      show (b >>= fun y => calm (f x y)) = b >>= fun y => calm (g x y)
      congr 1
      funext y
      rw [e]
    · refine .inr ?_
      show (b >>= fun y => calm (f x y)) = b >>= fun y => calm (h x y)
      congr 1
      funext y
      rw [e]
  | err _ _ => exact .inl rfl
  | stuck => exact .inl rfl
theorem o2_r {f g h : D → D → R D} (hf : ∀ y, (∀ x, f x y = g x y) ∨ (∀ x, f x y = h x y)) (a b : R D) : o2 f a b = o2 g a b ∨ o2 f a b = o2 h a b := by
  cases b with
  | ok y =>
    rcases hf y with e | e
    · refine .inl ?_
      show (a >>= fun x => calm (f x y)) = a >>= fun x => calm (g x y)
      congr 1
      funext x
      rw [e]
    · refine .inr ?_
      show (a >>= fun x => calm (f x y)) = a >>= fun x => calm (h x y)
      congr 1
      funext x
      rw [e]
  | err _ _ => exact .inl rfl
  | stuck => exact .inl rfl
theorem ixA_or (x : D) : (∀ y, ixA x y = dgetD x y) ∨ (∀ y, ixA x y = ixD x y) := by
  cases x <;> first | exact .inl fun _ => rfl | exact .inr fun _ => rfl
theorem inA_or (y : D) : (∀ x, inA x y = dinD x y) ∨ (∀ x, inA x y = inD x y) := by
  cases y <;> first | exact .inl fun _ => rfl | exact .inr fun _ => rfl
theorem ninA_or (y : D) : (∀ x, ninA x y = dninD x y) ∨ (∀ x, ninA x y = notInD x y) := by
  cases y <;> first | exact .inl fun _ => rfl | exact .inr fun _ => rfl
section
variable {X : Cx} {E : Wh} {a b : Expr} {pos : Pos} {ma mb : Env → R D} {ta tb : TE}
theorem me_ixA (K : PySem.W.Frag) (hu : X.A.units + 1 < cLine) (ha : ME X E a ta ma) (hb : ME X E b tb mb) (hs : NoSl b := by exact fun _ _ => rfl) (hp : PlainIx b := by exact fun _ _ => rfl) (hK : X.K = K := by rfl) : ME X E (.Subscript a b pos) (fun σ H Q => tDGet ta tb σ H Q ∨ tOp (rIx K) ta tb σ H Q) (fun ρ => o2 ixA (ma ρ) (mb ρ)) := by
  subst hK
  have h1 : ME X E (.Subscript a b pos) _ _ := me_dget hu ha hb hs
  have h2 : ME X E (.Subscript a b pos) _ _ := me_ix (r := rIx X.K) ix_seq rs_ix ha hb hp
  exact ⟨PE.or h1.pe h2.pe, sn_or h1.sn h2.sn fun ρ => o2_l ixA_or _ _⟩
theorem me_inA (K : PySem.W.Frag) (hu : X.A.units + 1 < cLine) (ha : ME X E a ta ma) (hb : ME X E b tb mb) (hm : behindInMarks .In b = false := by rfl) (hK : X.K = K := by rfl) : ME X E (.Compare a [.In] [b] pos) (fun σ H Q => tDIn ta tb σ H Q ∨ tOp (rInX K) ta tb σ H Q) (fun ρ => o2 inA (ma ρ) (mb ρ)) := by
  subst hK
  have h1 : ME X E (.Compare a [.In] [b] pos) _ _ := me_din hu ha hb hm
  have h2 : ME X E (.Compare a [.In] [b] pos) _ _ := me_cmp (r := rInX X.K) op_inX rs_in ha hb hm
  exact ⟨PE.or h1.pe h2.pe, sn_or h1.sn h2.sn fun ρ => o2_r inA_or _ _⟩
theorem sn_tB {K : PySem.W.Frag} {mg : Gm} {E : XS} {te : TE} {m : Env → R D} (h : Sn K mg E (Rep K mg) te m) : Sn K mg E rB (tB te) (fun ρ => tst (m ρ)) := by
  intro σ I H ρ Q re ex q
  refine h.run re ex q fun d v I1 H1 _ st rx h => ?_
  cases rx with
  | bl k => exact ⟨k, rfl, h.here st.e rfl⟩
  | _ => exact h.elim
theorem tst_or {m m' mm : R D} (h : mm = m ∨ mm = m') : tst mm = tst m ∨ tst mm = tst m' := h.imp (congrArg tst) (congrArg tst)
theorem mt_inA (K : PySem.W.Frag) (hu : X.A.units + 1 < cLine) (ha : ME X E a ta ma) (hb : ME X E b tb mb) (hm : behindInMarks .In b = false := by rfl) (hK : X.K = K := by rfl) : MT X E (.Compare a [.In] [b] pos) (fun σ H Q => tB (tDIn ta tb) σ H Q ∨ tTest (tOp (rInX K) ta tb) σ H Q) (fun ρ => tst (o2 inA (ma ρ) (mb ρ))) := by
  subst hK
  have h1 : ME X E (.Compare a [.In] [b] pos) _ _ := me_din hu ha hb hm
  have h2 : MT X E (.Compare a [.In] [b] pos) _ _ := mt_cmp (r := rInX X.K) op_inX rs_in ha hb hm
  exact ⟨PT.or (pt_cmp (pc_din hu ha.pe hb.pe) hm) h2.pe, sn_or (sn_tB h1.sn) h2.sn fun ρ => tst_or (o2_r inA_or _ _)⟩
theorem mt_ninA (K : PySem.W.Frag) (hu : X.A.units + 1 < cLine) (ha : ME X E a ta ma) (hb : ME X E b tb mb) (hm : behindInMarks .NotIn b = false := by rfl) (hK : X.K = K := by rfl) : MT X E (.Compare a [.NotIn] [b] pos) (fun σ H Q => tB (tDNotIn ta tb) σ H Q ∨ tTest (tOp (rNinX K) ta tb) σ H Q) (fun ρ => tst (o2 ninA (ma ρ) (mb ρ))) := by
  subst hK
  have h1 : ME X E (.Compare a [.NotIn] [b] pos) _ _ := me_dnin hu ha hb hm
  have h2 : MT X E (.Compare a [.NotIn] [b] pos) _ _ := mt_cmp (r := rNinX X.K) op_ninX rs_notIn ha hb hm
  exact ⟨PT.or (pt_cmp (pc_dnotin hu ha.pe hb.pe) hm) h2.pe, sn_or (sn_tB h1.sn) h2.sn fun ρ => tst_or (o2_r ninA_or _ _)⟩
/-! ### d.get(k, e) -/
def isDct : D → Bool
  | .dk _ _ => true
  | .dt _ _ => true
  | _ => false
def og2 (f : D → D → D → R D) (a b c : R D) : R D := a >>= fun d => if isDct d = true then (b >>= fun k => c >>= fun e => calm (f d k e)) else .stuck
def dgetE (d k e : D) : R D := match lookD d k with
  | some o => .ok (o.getD e)
  | none => .stuck
theorem isDct_rep {K : PySem.W.Frag} {mg : Gm} {I H : Hp} {v : V} {d : D} (ex : Same I H) (r : Rep K mg I v d) (h : isDct d = true) : ∃ a, v = .ref a ∧ IsD H a := by
  cases r with
  | dk ha _ => exact ⟨_, rfl, .inl ⟨_, same_rd ex ha⟩⟩
  | dt ha _ => exact ⟨_, rfl, .inr ⟨_, same_rd ex ha⟩⟩
  | _ => cases h
theorem me_get2 {c : Expr} {mc : Env → R D} {tc : TE} {apos : Pos} (hu : X.A.units + 1 < cLine) (ha : ME X E a ta ma) (hb : ME X E b tb mb) (hc : ME X E c tc mc) (hm : M2 X a "get" apos b c pos := by exact ⟨rfl, rfl, rfl, rfl⟩) :
    ME X E (.Call (.Attribute a "get" apos) [b, c] [] pos) (tDGet2 ta tb tc) (fun ρ => og2 dgetE (ma ρ) (mb ρ) (mc ρ)) := by
  obtain ⟨pa, sa⟩ := ha
  obtain ⟨pb, sb⟩ := hb
  obtain ⟨pc, sc⟩ := hc
  refine ⟨pe_dget2 hu pa pb pc hm, fun σ I H ρ Q re ex h => ?_⟩
  refine sa.run re ex h fun d v I1 H1 _ st rx h => ?_
  obtain ⟨hd, h⟩ := out_if h
  obtain ⟨a0, rfl, hi⟩ := isDct_rep st.e rx hd
  refine ⟨a0, rfl, hi, ?_⟩
  refine sb.run (re.mono st.i) st.e h fun d2 v2 I2 H2 _ st2 ry h => ?_
  refine sc.run ((re.mono st.i).mono st2.i) st2.e h fun d3 v3 I3 H3 _ st3 rz h => ?_
  obtain ⟨z, hz, h⟩ := out_calm h
  unfold dgetE at hz
  cases e : lookD d d2 with
  | none =>
    rw [e] at hz
    cases hz
  | some o =>
    rw [e] at hz
    cases hz
    obtain ⟨a1, r, ea, _, hg, hr⟩ := look_rep st3.e ((rx.mono st2.i).mono st3.i) (ry.mono st3.i) e
    cases ea
    refine ⟨r, hg, ?_⟩
    rcases hr with ⟨v', d', rfl, rfl, h2⟩ | ⟨rfl, rfl⟩
    · exact h _ _ _ (.refl st3.e) h2
    · exact h _ _ _ (.refl st3.e) rz
end
end DL
namespace DL
open PySem PySem.Spec L2

/-! ### len(set(row)) -/
def ded : List Int → List Int
  | [] => []
  | x :: xs => if x ∈ xs then ded xs else x :: ded xs
theorem ded_mem : ∀ (xs : List Int) (y : Int), y ∈ ded xs ↔ y ∈ xs
  | [], y => Iff.rfl
  | x :: xs, y => by
    unfold ded
    by_cases h : x ∈ xs
    · rw [if_pos h, ded_mem xs y, List.mem_cons]
      exact ⟨.inr, fun z => z.elim (fun e => e ▸ h) id⟩
    · rw [if_neg h, List.mem_cons, List.mem_cons, ded_mem xs y]
theorem ded_nodup : ∀ xs : List Int, (ded xs).Nodup
  | [] => .nil
  | x :: xs => by
    unfold ded
    by_cases h : x ∈ xs
    · rw [if_pos h]
      exact ded_nodup xs
    · rw [if_neg h]
      exact List.nodup_cons.mpr ⟨fun z => h ((ded_mem xs x).mp z), ded_nodup xs⟩
theorem ded_self {xs : List Int} (h : xs.Nodup) : ded xs = xs := by
  induction xs with
  | nil => rfl
  | cons x xs ih =>
    have h2 := List.nodup_cons.mp h
    unfold ded
    rw [if_neg h2.1, ih h2.2]
theorem ded_le : ∀ xs : List Int, (ded xs).length ≤ xs.length
  | [] => Nat.le_refl _
  | x :: xs => by
    unfold ded
    have := ded_le xs
    split
    · show _ ≤ xs.length + 1
      omega
    · show (ded xs).length + 1 ≤ xs.length + 1
      omega
theorem ded_lt {xs : List Int} (h : ¬ xs.Nodup) : (ded xs).length < xs.length := by
  induction xs with
  | nil => exact absurd .nil h
  | cons x xs ih =>
    unfold ded
    by_cases hx : x ∈ xs
    · rw [if_pos hx]
      have := ded_le xs
      show _ < xs.length + 1
      omega
    · rw [if_neg hx]
      have : ¬ xs.Nodup := fun z => h (List.nodup_cons.mpr ⟨hx, z⟩)
      have := ih this
      show (ded xs).length + 1 < xs.length + 1
      omega
theorem len_ded {l xs : List Int} (hn : l.Nodup) (hm : ∀ k, k ∈ l ↔ k ∈ xs) : l.length = (ded xs).length :=
  ((List.perm_ext_iff_of_nodup hn (ded_nodup xs)).mpr fun k => (hm k).trans (ded_mem xs k).symm).length_eq
open PyProof.Rows in
theorem fold_dedup : ∀ (xs acc : List Int), acc.Nodup → (xs.foldl step_dedup acc).Nodup ∧ ∀ k, k ∈ xs.foldl step_dedup acc ↔ k ∈ acc ∨ k ∈ xs
  | [], acc, h => ⟨h, fun k => by simp⟩
  | x :: xs, acc, h => by
    have hs : (step_dedup acc x).Nodup ∧ ∀ k, k ∈ step_dedup acc x ↔ k ∈ acc ∨ k = x := by
      unfold step_dedup
      by_cases hx : acc.any (· == x) = true
      · rw [if_pos hx]
        have hm : x ∈ acc := by
          obtain ⟨y, hy, e⟩ := List.any_eq_true.mp hx
          rw [beq_iff_eq.mp e] at hy
          exact hy
        exact ⟨h, fun k => ⟨.inl, fun z => z.elim id fun e => e ▸ hm⟩⟩
      · rw [if_neg hx]
        have hm : x ∉ acc := fun z => hx (List.any_eq_true.mpr ⟨x, z, beq_self_eq_true x⟩)
        refine ⟨List.nodup_append.mpr ⟨h, List.pairwise_singleton _ _, fun a ha b hb e => ?_⟩, fun k => by simp⟩
        rw [List.mem_singleton.mp hb] at e
        exact hm (e ▸ ha)
    obtain ⟨a, b⟩ := fold_dedup xs (step_dedup acc x) hs.1
    refine ⟨a, fun k => ?_⟩
    rw [List.foldl_cons, b k, hs.2 k, List.mem_cons, or_assoc]
open PyProof.Rows in
theorem firstMet_ded (ns : List Int) : (firstMet (fun i => ns.getD i 0) ns.length).length = (ded ns).length := by
  have e : (List.range ns.length).map (fun i => ns.getD i 0) = ns := by
    refine List.ext_getElem? fun i => ?_
    rw [List.getElem?_map]
    by_cases h : i < ns.length
    · rw [List.getElem?_range h, List.getElem?_eq_getElem h]
      show some (ns.getD i 0) = _
      rw [List.getD_eq_getElem?_getD, List.getElem?_eq_getElem h]
      rfl
    · rw [List.getElem?_eq_none (by rw [List.length_range]; omega), List.getElem?_eq_none (by omega)]
      rfl
  unfold firstMet
  rw [e]
  obtain ⟨a, b⟩ := fold_dedup ns [] .nil
  exact len_ded a fun k => (b k).trans (by simp)
def tLenSetA (K : PySem.W.Frag) (ta : TE) : TE := fun σ H Q => ta σ H fun x H1 => ∃ (l : Addr) (ns : List Int), x = V.ref l ∧ (SqL K H1 l (ns.map V.int) ∨ SqT K H1 l (ns.map V.int)) ∧ ns.length ≤ 1000 ∧ Q (.int ((ded ns).length : Nat)) H1
section
variable {X : Cx} {E : Wh} {a : Expr} {ta : TE} {ma : Env → R D} {p p2 q pos : Pos}
open PyProof.Rows in
theorem pe_lenSetA (hc : X.calm = true) (hg : Gl X "len") (hm : X.mg "len" = none) (hg2 : Gl X "set") (hm2 : X.mg "set" = none) (ha : PE X a ta)
    (na : starEach [a] X.env = [(false, eval a X.env)] := by rfl) : PE X (.Call (.Name "len" p) [.Call (.Name "set" p2) [a] [] q] [] pos) (tLenSetA X.K ta) := by
  constructor
  intro pins s σ H Q I h
  refine Call_ (ld_blt I hg hm PySem.boot_len (PyProof.Rows.callWith_builtin1 (PyProof.Rows.args_cons ?_ rfl) rfl rfl))
  refine Call_ (ld_blt I hg2 hm2 PyProof.Rows.boot_set (PyProof.Rows.callWith_type1 (PyProof.Rows.args_cons (thn (ha.run pins s σ H _ I h) fun v s1 ⟨x, H1, I1, r1, q1⟩ => PyProof.Rows.args_nil ?_) na) na rfl))
  obtain ⟨l, ns, ex, hq, hz, q1⟩ := q1
  subst ex
  cases r1
  have hd := I1.ok.hd hc
  have hle := ded_le ns
  rcases hq with hq | hq
  · obtain ⟨its, r, pl, _⟩ := I1.list hq
    have hl : its.toArray.size = ns.length := by rw [List.size_toArray, ← r.length, List.length_map]
    refine call_set_list hd pl.isList (ns := ns) (by simpa using r.ints) (by unfold scanBound; omega) fun h' tk hS hk => PyProof.Rows.args_nil ?_
    rw [hl, firstMet_ded] at hS
    obtain ⟨o, es, ep, t, ho, hex, hdt, _, _, _, hf, hn⟩ := hS
    have I2 : Inv X pins σ H1 { s1 with heap := h', toks := tk } := I1.kept fun b o e => hk b o (Heap.lt_size e) e
    exact call_len_set ho hex hdt hf (by omega) ⟨.int ((ded ns).length : Nat), H1, I2.tok _, ⟨_, by rw [hn]⟩, q1⟩
  · obtain ⟨its, rv, pt, _⟩ := I1.tuple hq
    have hi : IntsAre its.toArray.toList ns := ints_of_vals rv
    refine call_set_tupI ns hd (show s1.heap.IsTuple l its.toArray from pt) hi (by unfold scanBound; omega) fun h' tk c R1 hcn k => PyProof.Rows.args_nil ?_
    obtain ⟨o, es, ep, t, ho, hex, hdt, g, nd, hm3, hb, hf, hn, _, _⟩ := R1
    have e := len_ded nd fun k => (hm3 k).symm.trans decide_eq_true_iff
    rw [List.length_map, Array.length_toList] at e
    have I2 : Inv X pins σ H1 { s1 with heap := h', toks := tk } := I1.kept k
    exact call_len_set ho hex hdt hf (by omega) ⟨.int ((ded ns).length : Nat), H1, I2.tok _, ⟨_, by rw [e]⟩, q1⟩
def lenSetD : D → R D
  | .lst ds => match intsOf ds with
    | some ns => if ns.length ≤ 1000 then .ok (.int ((ded ns).length : Nat)) else .stuck
    | none => .stuck
  | .tup ds => match intsOf ds with
    | some ns => if ns.length ≤ 1000 then .ok (.int ((ded ns).length : Nat)) else .stuck
    | none => .stuck
  | .scr ns => if ns.length ≤ 1000 then .ok (.int ((ded ns).length : Nat)) else .stuck
  | _ => .stuck
theorem me_lenSet (hc : X.calm = true) (hg : Gl X "len") (hm : X.mg "len" = none) (hg2 : Gl X "set") (hm2 : X.mg "set" = none) (ha : ME X E a ta ma) (na : starEach [a] X.env = [(false, eval a X.env)] := by rfl) :
    ME X E (.Call (.Name "len" p) [.Call (.Name "set" p2) [a] [] q] [] pos) (tLenSetA X.K ta) (fun ρ => o1 lenSetD (ma ρ)) := by
  obtain ⟨pa, sa⟩ := ha
  refine ⟨pe_lenSetA hc hg hm hg2 hm2 pa na, fun σ I H ρ Q re ex h => ?_⟩
  refine sa.run re ex h fun d v I1 H1 _ st rx h9 => ?_
  obtain ⟨z, hz, h9⟩ := out_calm h9
  have fin : ∀ (ds : List D) (vs : List V) (l : Addr), v = .ref l → Reps X.K (gm X E) I1 vs ds → (SqL X.K H1 l vs ∨ SqT X.K H1 l vs) → (match intsOf ds with
    | some ns => if ns.length ≤ 1000 then R.ok (.int ((ded ns).length : Nat)) else .stuck
    | none => .stuck) = R.ok z → ∃ (l : Addr) (ns : List Int), v = V.ref l ∧ (SqL X.K H1 l (ns.map V.int) ∨ SqT X.K H1 l (ns.map V.int)) ∧ ns.length ≤ 1000 ∧ Q (.int ((ded ns).length : Nat)) H1 := fun ds vs l e r hs hz => by
    cases e1 : intsOf ds with
    | none =>
      rw [e1] at hz
      cases hz
    | some ns =>
      rw [e1] at hz
      have hz : (if ns.length ≤ 1000 then R.ok (D.int ((ded ns).length : Nat)) else .stuck) = R.ok z := hz
      by_cases hl : ns.length ≤ 1000
      · rw [if_pos hl] at hz
        cases hz
        obtain ⟨rfl, _⟩ := reps_ints r e1
        exact ⟨l, ns, e, hs, hl, h9 _ _ _ (.refl st.e) (.int _)⟩
      · rw [if_neg hl] at hz
        cases hz
  cases rx with
  | lst hh ra => exact fin _ _ _ rfl ra (.inl (SqL.of (st.e _ _ hh))) hz
  | tup hh ra => exact fin _ _ _ rfl ra (.inr (SqT.of (st.e _ _ hh))) hz
  | @scr a0 ns hh =>
    have hz : (if ns.length ≤ 1000 then R.ok (D.int ((ded ns).length : Nat)) else .stuck) = R.ok z := hz
    by_cases hl : ns.length ≤ 1000
    · rw [if_pos hl] at hz
      cases hz
      exact ⟨a0, ns, rfl, .inl (st.e.seq hh), hl, h9 _ _ _ (.refl st.e) (.int _)⟩
    · rw [if_neg hl] at hz
      cases hz
  | _ => cases hz
end
end DL
namespace DL
open PySem PySem.Spec L2

/-! ### exceptions: a class with an __init__ of its own that keeps its arguments -/
/-- what __init__ promises: the arguments under these names, the last one first -/
def spXI (C : Addr) (fs : List Str) : Sp := fun vs H Q _ => ∃ (a : Addr) (args : List V) (H1 : Hp), vs = .ref a :: args ∧ args.length = fs.length ∧ H1 a = none ∧ H = upd H1 a (exo a C none) ∧
  ∀ d H2, H1 d = none → d ≠ a → H2 a = some (exo a C (some d)) → H2 d = some (exd d (fs.zip args).reverse) → (∀ b, b ≠ a → b ≠ d → H2 b = H1 b) → Q .non H2
/-- its body: self.f = f, .. -/
def tX (K : PySem.W.Frag) : Nat → List Str → TS
  | _, [] => tNext
  | i, [f] => tOst K f (tVar 0) (tVar i)
  | i, f :: fs => tSeq (tOst K f (tVar 0) (tVar i)) (tX K (i + 1) fs)
structure ClX (K : PySem.W.Frag) (C : Addr) (fs : List Str) : Prop where
  t : OexC K C
  n : ∀ f ∈ fs, PySem.W.findIn K (.ref C) f = some none
theorem tX_rest {K : PySem.W.Frag} {C a d : Addr} {all : List Str} (T : ClX K C all) : ∀ (fs : List Str) (args : List V) (i : Nat) (σ : L2.St) (done : List (Str × V)) (H : Hp) (D0 : Ends), fs ≠ [] → (∀ f ∈ fs, f ∈ all) → σ[0]? = some (some (.ref a)) → args.length = fs.length → (∀ j v, args[j]? = some v → σ[i + j]? = some (some v)) →
    d ≠ a → H a = some (exo a C (some d)) → H d = some (exd d done) → done.length + fs.length ≤ 900 →
    (∀ H2, H2 a = some (exo a C (some d)) → H2 d = some (exd d ((fs.zip args).reverse ++ done)) → (∀ b, b ≠ a → b ≠ d → H2 b = H b) → D0.nx σ H2) → tX K i fs D0 σ H
  | [], _, _, _, _, _, _, h, _, _, _, _, _, _, _, _, _ => absurd rfl h
  | [f], [v], i, σ, done, H, D0, _, hf, h0, _, hv, hd, ha, hx, hl, q => by
    refine ⟨v, hv 0 v rfl, .ref a, h0, a, C, rfl, T.t, T.n f (hf f (by simp)), .inr ⟨d, done, ha, hx, by simp at hl; omega, ?_⟩⟩
    refine q _ ?_ upd_same fun b h1 h2 => upd_ne h2
    rw [upd_ne (Ne.symm hd)]
    exact ha
  | f :: g :: fs, v :: args, i, σ, done, H, D0, _, hf, h0, hlen, hv, hd, ha, hx, hl, q => by
    refine ⟨v, hv 0 v rfl, .ref a, h0, a, C, rfl, T.t, T.n f (hf f (by simp)), .inr ⟨d, done, ha, hx, by simp at hl; omega, ?_⟩⟩
    refine tX_rest T (g :: fs) args (i + 1) σ ((f, v) :: done) _ _ (by simp) (fun x hx => hf x (List.mem_cons_of_mem _ hx)) h0 (by simpa using hlen) (fun j v h => ?_) hd (by rw [upd_ne (Ne.symm hd)]; exact ha) upd_same (by simp at hl ⊢; omega) fun H2 e1 e2 e3 => ?_
    · rw [show i + 1 + j = i + (j + 1) from by omega]
      exact hv (j + 1) v h
    · refine q H2 e1 ?_ fun b h1 h2 => (e3 b h1 h2).trans (upd_ne h2)
      rw [e2]
      simp
  | [f], [], _, _, _, _, _, _, _, _, h, _, _, _, _, _, _ => by simp at h
  | [f], _ :: _ :: _, _, _, _, _, _, _, _, _, h, _, _, _, _, _, _ => by simp at h
  | _ :: _ :: _, [], _, _, _, _, _, _, _, _, h, _, _, _, _, _, _ => by simp at h
theorem tX_all {K : PySem.W.Frag} {C a : Addr} {all : List Str} (T : ClX K C all) (args : List V) (σ : L2.St) (H1 : Hp) (D0 : Ends) (hne : all ≠ []) (h0 : σ[0]? = some (some (.ref a))) (hlen : args.length = all.length) (hv : ∀ j v, args[j]? = some v → σ[1 + j]? = some (some v)) (hn : H1 a = none) (hl : all.length ≤ 900)
    (q : ∀ d H2, H1 d = none → d ≠ a → H2 a = some (exo a C (some d)) → H2 d = some (exd d (all.zip args).reverse) → (∀ b, b ≠ a → b ≠ d → H2 b = H1 b) → D0.nx σ H2) : tX K 1 all D0 σ (upd H1 a (exo a C none)) := by
  cases all with
  | nil => exact absurd rfl hne
  | cons f fs =>
    cases args with
    | nil => simp at hlen
    | cons v args =>
      have hd1 : ∀ d, (upd H1 a (exo a C none)) d = none → d ≠ a → H1 d = none := fun d e n => by
        rw [upd_ne n] at e
        exact e
      have key : ∀ (D1 : Ends), (∀ d, H1 d = none → d ≠ a → D1.nx σ (upd (upd (upd H1 a (exo a C none)) d (exd d [(f, v)])) a (exo a C (some d)))) → tOst K f (tVar 0) (tVar 1) D1 σ (upd H1 a (exo a C none)) := fun D1 k =>
        ⟨v, hv 0 v rfl, .ref a, h0, a, C, rfl, T.t, T.n f List.mem_cons_self, .inl ⟨upd_same, fun d e n => k d (hd1 d e n) n⟩⟩
      have other : ∀ d b, b ≠ a → b ≠ d → (upd (upd (upd H1 a (exo a C none)) d (exd d [(f, v)])) a (exo a C (some d))) b = H1 b := fun d b h1 h2 => by
        rw [upd_ne h1, upd_ne h2, upd_ne h1]
      cases fs with
      | nil =>
        have ea : args = [] := by
          cases args with
          | nil => rfl
          | cons _ _ => simp at hlen
        subst ea
        exact key D0 fun d e n => q d _ e n upd_same (by rw [upd_ne n, upd_same]; rfl) (other d)
      | cons g fs =>
        refine key _ fun d e n => ?_
        refine tX_rest T (g :: fs) args 2 σ [(f, v)] _ D0 (by simp) (fun x hx => List.mem_cons_of_mem _ hx) h0 (by simpa using hlen) (fun j v h => ?_) n upd_same (by rw [upd_ne n, upd_same]) (by simp at hl ⊢; omega) fun H2 e1 e2 e3 => ?_
        · rw [show 2 + j = 1 + (j + 1) from by omega]
          exact hv (j + 1) v h
        · refine q d H2 e n e1 ?_ fun b h1 h2 => (e3 b h1 h2).trans (other d b h1 h2)
          rw [e2]
          simp
theorem start_at {N : List Str} {vs : List V} {j : Nat} {v : V} (h : vs[j]? = some v) : (start N vs)[j]? = some (some v) := by
  have hl := (List.getElem?_eq_some_iff.mp h).1
  unfold L2.start
  rw [List.getElem?_append_left (by rw [List.length_map]; exact hl), List.getElem?_map, h]
  rfl
theorem fn_xi {P : Program} {w : World} {K : PySem.W.Frag} {mg : Str → Option Value} {base : Heap} {x qual : Str} {st : Stmt} {f C : Addr} {fd : FuncData} {N ps fs : List Str} {k : Nat} (F : Fun K x qual st f fd) (S : FnScope N ps (defScope st)) (hps : ps.length = fs.length + 1) (T : ClX K C fs) (hne : fs ≠ []) (hl : fs.length ≤ 900)
    (hb : ∀ (cdv : Value) (A : Around) (outer : List PySem.Env) (s : Shared) (H : Hp) (E : XK), PSs (cxOf CX0 P w K mg base N qual (defScope st) f cdv A outer s H E).nox (defBody st) (tX K 1 fs)) : FnOk P w K mg base CX0 (k + 1) f fd ps (spXI C fs) := by
  refine F.ok S (fun vs H Q E h => ?_) (fun cdv A outer s H vs Q E hr h => ?_)
  · obtain ⟨a, args, H1, rfl, hl, _⟩ := h
    rw [hps, List.length_cons, hl]
  · obtain ⟨a, args, H1, rfl, hlen, hn, rfl, q⟩ := h
    refine ⟨_, hb cdv A outer s _ E, tX_all T args _ H1 _ hne (start_at rfl) hlen (fun j v h => start_at ?_) hn hl fun d H2 e n e1 e2 e3 => q d H2 e n e1 e2 e3⟩
    rw [Nat.add_comm]
    exact h
/-- raise X(e, ..) -/
def raiseS (n : Str) (fs : List Str) (r : R (List D)) : R Fl := r >>= fun ds => if ds.length = fs.length ∧ fs.length ≤ 900 then .err n [.obj n fs.reverse ds.reverse] else .stuck
theorem zip_fst {args : List V} : ∀ {fs : List Str}, args.length = fs.length → (fs.zip args).reverse.map (·.1) = fs.reverse := fun {fs} h => by
  rw [List.map_reverse, List.map_fst_zip (by omega)]
theorem zip_snd {args : List V} : ∀ {fs : List Str}, args.length = fs.length → (fs.zip args).reverse.map (·.2) = args.reverse := fun {fs} h => by
  rw [List.map_reverse, List.map_snd_zip (by omega)]
/-- X(e, ..), X a class of the text's own with an own __init__: what is made bears no context -/
theorem pmk_oexN {X : Cx} {CX' : CXT} {x : Str} {C fI : Addr} {k : Nat} {fd : FuncData} {ps : List Str} {sp : Sp} {e : Expr} {es : List Expr} {ta : TA} {p pos : Pos} (T : OexC X.K C) (iC : PySem.W.findIn X.K (.ref C) "__init__" = some (some (.ref fI))) (tI : PySem.W.typeIn X.K (.ref fI) = some (.type "function"))
    (F1 : FnOk X.prog X.w X.K X.mg X.base CX' k fI fd ps sp) (hr : Room (k + 1) X.A) (hb : Binds X.K fd ps []) (hx : Passes CX' X (fun _ _ _ => False)) (hg : Gl X x) (hm : X.mg x = some (.ref C)) (ha : PA X (e :: es) ta)
    (hdb : (x == ("__debug__" : Str)) = false) (he : starEach (e :: es) X.env = (false, eval e X.env) :: starEach es X.env) (hpl : (backTo pos (starEach es X.env)).any (·.1) = false) :
    L2N.PMk X (.Call (.Name x p) (e :: es) [] pos) (tMkO C sp [] ta) := by
  intro pins s σ H Q I h
  obtain ⟨nm, q, N, bs, bm, sn, sub, ab, col, dd, k0, k1, k2, k3, k5, hC, hbm⟩ := T.cls
  refine wpAny_Call_Name_kw (ld_glob I hg hm ?_ hdb)
  refine PySem.W.callWith_K (h₀ := X.base) I.ok.mod.kin T.kC (thn (ha.run pos pins s σ H _ I h) fun us s1 hh => ?_) he hpl
  obtain ⟨vs, H1, I1, r1, hz, q1⟩ := hh
  refine ⟨I1.kIn, ?_⟩
  show wpAny _ _ (call (.ref C) us) _ _ _
  obtain ⟨hp, g, dr, tk, os⟩ := s1
  have hsz : hp.objs.size ≤ hp.objs.size + 1 := Nat.le_succ _
  have hn : H1 (hp.objs.size + 1) = none := I1.hok.fresh hsz
  have hq := q1 (hp.objs.size + 1) hn
  rw [List.append_nil] at hq
  have kk : ∀ b o, hp.get? b = some o → ((hp.push (PySem.W.kdv_tup us)).push (PySem.HandSPX.excO C hp.objs.size)).get? b = some o := fun b o e => Heap.get?_push_of_some _ (Heap.get?_push_of_some _ e)
  have hget : ((hp.push (PySem.W.kdv_tup us)).push (PySem.HandSPX.excO C hp.objs.size)).get? (hp.objs.size + 1) = some (PySem.HandSPX.excO C hp.objs.size) := by heap_get
  have I2 : L2.Inv X pins σ (upd H1 (hp.objs.size + 1) (exo (hp.objs.size + 1) C none)) ⟨(hp.push (PySem.W.kdv_tup us)).push (PySem.HandSPX.excO C hp.objs.size), g, dr, tk, os⟩ :=
    I1.laid (t' := tk) (a := hp.objs.size + 1) (o := exo (hp.objs.size + 1) C none) (h' := (hp.push (PySem.W.kdv_tup us)).push (PySem.HandSPX.excO C hp.objs.size)) kk hsz (exo_ok hget)
  have r2 : Vals (V.ref (hp.objs.size + 1) :: vs) (Value.ref (hp.objs.size + 1) :: us) := .cons rfl r1
  have hl : (Value.ref (hp.objs.size + 1) :: us ++ []).length = ps.length := by
    have e := r2.length
    rw [F1.len _ _ _ _ hq] at e
    rw [List.append_nil]
    exact e.symm
  have hus : us.length ≤ sizeLine := by
    rw [← Paired.length r1, sizeLine_eq]
    omega
  have b2 := hb _ (Value.ref (hp.objs.size + 1) :: us) I2.kIn hl
  rw [List.append_nil] at b2
  refine wpAny_call (PySem.HandSPX.call_own F.excBase_ValueError (fun Y => PySem.HandSPX.refsVE_contains Y bm hbm) (I1.kIn _ _ hC) (PySem.W.looks_findIn I1.kIn iC) (fun self => PySem.W.bind_fn I1.kIn self tI) hus
    (codeAny_mono (F1.run _ X.stack _ _ ⟨Value.ref (hp.objs.size + 1) :: us, []⟩ (Value.ref (hp.objs.size + 1) :: us) _ _ (fun _ _ _ => False) (hr.make C us []) (I2.env0.make C us []) b2 r2 hq) fun r s' hq' => ?_))
  cases r with
  | error er => exact hx pins σ _ _ er s' I2 hq'
  | ok fl =>
    cases fl with
    | ret u =>
      obtain ⟨v, H2, os2, bare2, un2, hok2, rv, ev, d, fs, ea, ed, hd1, q2⟩ := hq'
      subst ev
      obtain ⟨h2, g2, d2, t2, os'⟩ := s'
      obtain ⟨t0, G, J, kG, ge, hoe, na⟩ := mk_end0 (d2 := d2) (t2 := t2) I1 hsz kk un2 hok2 os2 bare2 ea ed hd1
      exact ⟨rv, hp.objs.size + 1, _, _, ⟨G, g2, d2, t2, os'⟩, _, .ref C, some d, rfl, J, kG, ge, hoe, ⟨rfl, rfl, fun vs hv => by cases hv; rfl⟩, rfl, rfl, na, rfl, bare2, raises_own T.exC T.tyC, q2⟩
    | next => exact False.elim hq'
    | brk => exact False.elim hq'
    | cont => exact False.elim hq'
theorem ms_raise {X : Cx} {E : XK} {Mb M M' : List Nat} {CX' : CXT} {x : Str} {C fI : Addr} {k : Nat} {fd : FuncData} {ps fs : List Str} {e : Expr} {es : List Expr} {tas : TA} {ms : Env → R (List D)} {p pos pos' : Pos} (hc : X.calm = true) (tk : L2N.Takes X (fun cls d _ H => E cls d H)) (T : ClX X.K C fs) (iC : PySem.W.findIn X.K (.ref C) "__init__" = some (some (.ref fI))) (tI : PySem.W.typeIn X.K (.ref fI) = some (.type "function"))
    (F1 : FnOk X.prog X.w X.K X.mg X.base CX' k fI fd ps (spXI C fs)) (hr : Room (k + 1) X.A) (hb : Binds X.K fd ps []) (hx : Passes CX' X (fun _ _ _ => False)) (hg : Gl X x) (hm : X.mg x = some (.ref C)) (ha : MA X (kE E) (e :: es) tas ms)
    (hdb : (x == ("__debug__" : Str)) = false := by decide) (he : starEach (e :: es) X.env = (false, eval e X.env) :: starEach es X.env := by rfl) (hpl : (backTo pos (starEach es X.env)).any (·.1) = false := by rfl) :
    MS X E Mb M M' (.Raise (some (.Call (.Name x p) (e :: es) [] pos)) none pos') (fun _ σ H => tMkO C (spXI C fs) [] tas σ H fun cls d H' => E cls d H') (fun ρ => raiseS x fs (ms ρ)) :=
  ⟨L2N.ps_raise hc tk (pmk_oexN T.t iC tI F1 hr hb hx hg hm ha.pe hdb he hpl), fun Ie He σ I H ρ D0 s h => ha.sn.weak (k := fun ds => if ds.length = fs.length ∧ fs.length ≤ 900 then .err x [.obj x fs.reverse ds.reverse] else .stuck) s h fun ds vs I1 H1 s1 st r q => by
    obtain ⟨⟨hl, hl9⟩, q⟩ := outS_if q
    have hvl : vs.length = fs.length := r.len.trans hl
    refine ⟨by omega, fun a hn => ⟨a, vs, H1, by rw [List.append_nil], hvl, hn, rfl, fun d H2 hd hne e1 e2 e3 => ⟨rfl, d, _, e1, e2, hd, ?_⟩⟩⟩
    have k1 : ∀ b o, H1 b = some o → (upd (del H2 a) d (.xd (fs.zip vs).reverse)) b = some o := fun b o hb => by
      have n1 : b ≠ a := fun z => by subst z; rw [hn] at hb; cases hb
      have n2 : b ≠ d := fun z => by subst z; rw [hd] at hb; cases hb
      rw [upd_ne n2, del_ne n1, e3 b n1 n2]
      exact hb
    have k2 : Same I1 (upd I1 d (.xd (fs.zip vs).reverse)) := fun b o hb => by
      rw [upd_ne (fun z => by subst z; rw [st.e _ _ hb] at hd; cases hd)]
      exact hb
    have q : ∀ C od I H, Stp Ie.1 He I H → XRep X.K (g0 X.mg) I H x [.obj x fs.reverse ds.reverse] C od → E C od H := q
    refine q (.ref C) (some d) (upd I1 d (.xd (fs.zip vs).reverse)) _ ⟨st.i.trans k2, fun b o hb => k1 b o (st.h b o hb), fun b o hb => ?_, fun b o hb => ?_⟩ ⟨⟨hm, C, rfl⟩, d, _, ds.reverse, rfl, upd_same, by rw [zip_fst hvl], ?_⟩
    · by_cases z : b = d
      · subst z
        rw [upd_same] at hb ⊢
        exact hb
      · rw [upd_ne z] at hb
        exact k1 b o (st.e b o hb)
    · by_cases z : b = d
      · subst z
        cases y : He b with
        | none => exact .inr (.inl y)
        | some o =>
          rw [st.h _ _ y] at hd
          cases hd
      · rw [upd_ne z] at hb
        exact st.f b o hb
    · rw [zip_snd hvl]
      exact r.rev.mono k2⟩
end DL
namespace DL
open PySem PySem.Spec L2

/-! ### defs that may raise: an error goes out -/
def runX (n : Nat) (ms : Env → R Fl) (ds : List D) : R D := ms (startE n ds) >>= endD
theorem runX_rt {n : Nat} {ms : Env → R Fl} {ds : List D} {d : D} (h : ms (startE n ds) = .ok (.rt d)) : runX n ms ds = .ok d := by
  unfold runX
  rw [h]
  rfl
/-- a new list of one's own is data from now on -/
theorem stp_put {K : PySem.W.Frag} {mg : Gm} {I0 H0 I H : Hp} {p : Addr} {vs : List V} {ds : List D} (s : Stp I0 H0 I H) (n : I p = none) (n0 : H0 p = none) (hp : H p = some (.lst vs)) (r : Reps K mg I vs ds) : Stp I0 H0 (upd I p (.lst vs)) H ∧ Rep K mg (upd I p (.lst vs)) (.ref p) (.lst ds) := by
  have k : Same I (upd I p (.lst vs)) := fun a o h => by
    rw [upd_ne (fun z => by subst z; rw [n] at h; cases h)]
    exact h
  refine ⟨⟨s.i.trans k, s.h, fun a o h => ?_, fun a o h => ?_⟩, .lst upd_same (r.mono k)⟩
  · by_cases z : a = p
    · subst z
      rw [upd_same] at h
      cases h
      exact hp
    · rw [upd_ne z] at h
      exact s.e a o h
  · by_cases z : a = p
    · subst z
      exact .inr (.inl n0)
    · rw [upd_ne z] at h
      exact s.f a o h
theorem stp_putD {K : PySem.W.Frag} {mg : Gm} {I H I1 H1 : Hp} {p : Addr} {vs : List V} {ds : List D} (s : Stp I H I1 H1) (n1 : I1 p = none) (n2 : H p = none) (hp : H1 p = some (.lst vs)) (kk : Kids K mg I1 H H1 vs ds) (np : V.ref p ∉ vs) : ∃ I2, Stp I H I2 H1 ∧ Rep K mg I2 (.ref p) (.lst ds) := by
  have kid : ∀ a, V.ref a ∈ vs → I1 a = none ∧ H a = none := fun a ha => by
    obtain ⟨d, q, ws, es, e1, _, g3, g4, g5, _⟩ := kk.at_ ha
    cases e1
    exact ⟨g3, g4⟩
  have k : Same I1 (fun a => if V.ref a ∈ vs then H1 a else I1 a) := fun a o z => by
    show (if V.ref a ∈ vs then H1 a else I1 a) = some o
    by_cases ha : V.ref a ∈ vs
    · rw [(kid a ha).1] at z
      cases z
    · rw [if_neg ha]
      exact z
  have s2 : Stp I H (fun a => if V.ref a ∈ vs then H1 a else I1 a) H1 := ⟨s.i.trans k, s.h, fun a o z => by
    have z : (if V.ref a ∈ vs then H1 a else I1 a) = some o := z
    by_cases ha : V.ref a ∈ vs
    · rw [if_pos ha] at z
      exact z
    · rw [if_neg ha] at z
      exact s.e _ _ z, fun a o z => by
    have z : (if V.ref a ∈ vs then H1 a else I1 a) = some o := z
    by_cases ha : V.ref a ∈ vs
    · exact .inr (.inl (kid a ha).2)
    · rw [if_neg ha] at z
      exact s.f _ _ z⟩
  obtain ⟨s3, r3⟩ := stp_put s2 (show (if V.ref p ∈ vs then H1 p else I1 p) = none by rw [if_neg np]; exact n1) n2 hp (kk.reps (vs0 := vs) k (fun q hq => if_pos hq) fun _ h => h)
  exact ⟨_, s3, r3⟩
theorem okXN {P : Program} {w : World} {K : PySem.W.Frag} {mg : Str → Option Value} {base : Heap} {x qual : Str} {st : Stmt} {f : Addr} {fd : FuncData} {N ps : List Str} {k : Nat} {sp : Sp} (F : Fun K x qual st f fd) (S : FnScope N ps (defScope st)) (len : ∀ vs H Q E, sp vs H Q E → vs.length = ps.length)
    (hbody : ∀ (cdv : Value) (A : Around) (outer : List PySem.Env) (s : Shared) (H : Hp) (vs : List V) (Q : VK) (E : XK), Room k (A.deeper (PyProof.Rows.envOfC qual (defScope st) s.heap.objs.size f cdv)) → sp vs H Q E →
      ∃ t, PSs (cxOf (L2N.CX P w) P w K mg base N qual (defScope st) f cdv A outer s H E) (defBody st) t ∧ t { nx := fun _ H' => Q .non H', rt := Q } (L2.start N vs) H) : FnOk P w K mg base (L2N.CX P w) (k + 1) f fd ps sp := by
  obtain ⟨oc, od, kV, doc, pm, an, cdv, ct, osl, rfl, lk, hcd⟩ := F.ex
  exact fn_of lk hcd S len fun A outer s H vs Q E hr hsp => hbody cdv A outer s H vs Q E hr hsp
theorem passLN {X : Cx} : Passes (L2N.CX X.prog X.w) X E0 := fun _ _ _ _ _ _ _ h => by
  obtain ⟨_, _, _, _, _, _, _, _, _, _, _, _, z⟩ := h
  exact z.elim
theorem fn_mirX {P : Program} {w : World} {K : PySem.W.Frag} {mg : Str → Option Value} {base : Heap} {x qual : Str} {st : Stmt} {f : Addr} {fd : FuncData} {N ps : List Str} {k : Nat} {M M' : List Nat} {ms : Env → R Fl} (F : Fun K x qual st f fd) (S : FnScope N ps (defScope st)) (hM : ∀ i ∈ M, ps.length ≤ i)
    (hb : ∀ (cdv : Value) (A : Around) (outer : List PySem.Env) (s : Shared) (H : Hp) (E : XK), Room k (A.deeper (PyProof.Rows.envOfC qual (defScope st) s.heap.objs.size f cdv)) →
      ∃ ts, MSs (cxOf (L2N.CX P w) P w K mg base N qual (defScope st) f cdv A outer s H E) E [] M M' (defBody st) ts ms) : FnOk P w K mg base (L2N.CX P w) (k + 1) f fd ps (spOf K (g0 mg) ps.length (runX N.length ms)) := by
  refine okXN F S (fun vs H Q E h => spOf.len h) (fun cdv A outer s H vs Q E hr h => ?_)
  obtain ⟨I, ds, hl, ex, rs, h⟩ := h
  obtain ⟨ts, hp⟩ := hb cdv A outer s H E hr
  refine ⟨ts, hp.pe, hp.sn (I, 0) H _ I H _ _ (start_SE ex rs (by rw [hl]; exact hM)) ?_⟩
  unfold runX at h
  cases e : ms (startE N.length ds) with
  | err nm es =>
    rw [e] at h
    exact h
  | stuck =>
    rw [e] at h
    exact h.elim
  | ok fl =>
    rw [e] at h
    cases fl with
    | nx ρ => exact fun σ I1 H1 s1 _ => h .non I1 H1 s1.st .non
    | rt d => exact fun v I1 H1 s1 r => h v I1 H1 s1 r
    | bk ρ => exact h.elim
    | rf es =>
      intro p vs I1 H1 s1 n1 n2 hp r
      obtain ⟨s2, r2⟩ := stp_put s1 n1 n2 hp r
      exact h _ _ H1 s2 r2
    | rd es =>
      intro p vs I1 H1 s1 n1 n2 hp kk nd np
      obtain ⟨I2, s2, r2⟩ := stp_putD s1 n1 n2 hp kk np
      exact h _ _ H1 s2 r2
    | ct ρ => exact h.elim
structure KnX (P : Program) (w : World) (K : PySem.W.Frag) (mg : Str → Option Value) (base : Heap) (x : Str) (k n : Nat) (g : List D → R D) : Prop where
  ex : ∃ f fd ps, FnOk P w K mg base (L2N.CX P w) k f fd ps (spOf K (g0 mg) n g) ∧ mg x = some (.ref f) ∧ PySem.W.keepIn K (.ref f) = true ∧ Binds K fd ps []
theorem KnX.mk' {P : Program} {w : World} {K : PySem.W.Frag} {mg : Str → Option Value} {base : Heap} {x : Str} {st : Stmt} {N ps : List Str} {k : Nat} {M M' : List Nat} {ms : Env → R Fl} (F : FnAt K mg x st ps) (S : FnScope N ps (defScope st)) (hM : ∀ i ∈ M, ps.length ≤ i)
    (hb : ∀ (f : Addr) (cdv : Value) (A : Around) (outer : List PySem.Env) (s : Shared) (H : Hp) (E : XK), Room k (A.deeper (PyProof.Rows.envOfC x (defScope st) s.heap.objs.size f cdv)) →
      ∃ ts, MSs (cxOf (L2N.CX P w) P w K mg base N x (defScope st) f cdv A outer s H E) E [] M M' (defBody st) ts ms) : KnX P w K mg base x (k + 1) ps.length (runX N.length ms) := by
  obtain ⟨f, fd, F, g, b⟩ := F.ex
  exact ⟨f, fd, ps, fn_mirX F S hM (hb f), g, F.kp, b⟩
/-- nothing is known -/
theorem KnX.stuck {P : Program} {w : World} {K : PySem.W.Frag} {mg : Str → Option Value} {base : Heap} {x : Str} {st : Stmt} {ps : List Str} {k n : Nat} (F : FnAt K mg x st ps) : KnX P w K mg base x k n (fun _ => .stuck) := by
  obtain ⟨f, fd, F, g, b⟩ := F.ex
  refine ⟨f, fd, ps, ⟨fun vs H Q E h => ?_, fun A outer s H args us vs Q E _ _ _ _ h => ?_⟩, g, F.kp, b⟩
  · obtain ⟨_, _, _, _, _, h⟩ := h
    exact h.elim
  · obtain ⟨_, _, _, _, _, h⟩ := h
    exact h.elim
/-- a call: what the callee lets out goes the same way -/
theorem me_callX {X : Cx} {E : Wh} {P : Program} {w : World} {K : PySem.W.Frag} {mg : Str → Option Value} {base : Heap} {k j n : Nat} {g : List D → R D} {x : Str} {p pos : Pos} {e : Expr} {es : List Expr} {tas : TA} {ms : Env → R (List D)} (F : KnX P w K mg base x k n g) (hr : Room j X.A) (hx : ∀ σ, PassesAt (L2N.CX X.prog X.w) X σ (E.e σ)) (hg : Gl X x) (ha : MA X E (e :: es) tas ms) (h0 : E.x = fun _ => none := by rfl) (hj : k ≤ j := by first | decide | omega)
    (hP : X.prog = P := by rfl) (hw : X.w = w := by rfl) (hK : X.K = K := by rfl) (hm : X.mg = mg := by rfl) (hb : X.base = base := by rfl)
    (hdb : (x == ("__debug__" : Str)) = false := by decide) (he : starEach (e :: es) X.env = (false, eval e X.env) :: starEach es X.env := by rfl) (hpl : (backTo pos (starEach es X.env)).any (·.1) = false := by rfl) :
    ME X E (.Call (.Name x p) (e :: es) [] pos) (tCallS (spOf K (g0 mg) n g) E.e tas) (fun ρ => call_ n g (ms ρ)) := by
  subst hP hw hK hm hb
  obtain ⟨f, fd, ps, F, hm, hk, hb⟩ := F.ex
  exact me_call F (hr.mono hj) hg hm hk hb hx h0 ha hdb he hpl
theorem px {X : Cx} {E : XK} (tk : L2N.Takes X (fun cls d _ H => E cls d H)) : ∀ σ, PassesAt (L2N.CX X.prog X.w) X σ ((kE E).e σ) := fun σ => L2N.passAt (W := fun cls d _ H => E cls d H) tk σ
/-- within a comprehension -/
theorem pxL {X : Cx} {E : Wh} : ∀ σ, PassesAt (L2N.CX X.prog X.w) X σ (E.calm.e σ) := fun σ pins H s e s' I c => passLN pins σ H s e s' I c
theorem cx_no {P : Program} {w : World} {outer : List PySem.Env} {H : Hp} {s s' : Shared} {e : Value} (h : L2N.CX P w outer H s (fun _ _ _ => False) e s') : False := by
  obtain ⟨_, _, _, _, _, _, _, _, _, _, _, _, z⟩ := h
  exact z
/-- an exception class of the text's own -/
structure XcAt (P : Program) (w : World) (K : PySem.W.Frag) (mg : Str → Option Value) (base : Heap) (x : Str) (C : Addr) (fs : List Str) : Prop where
  m : mg x = some (.ref C)
  c : ClX K C fs
  ex : ∃ fI fd ps, PySem.W.findIn K (.ref C) "__init__" = some (some (.ref fI)) ∧ PySem.W.typeIn K (.ref fI) = some (.type "function") ∧ FnOk P w K mg base CX0 1 fI fd ps (spXI C fs) ∧ Binds K fd ps []
theorem ms_raiseX {X : Cx} {E : XK} {Mb M M' : List Nat} {P : Program} {w : World} {K : PySem.W.Frag} {mg : Str → Option Value} {base : Heap} {x : Str} {C : Addr} {j : Nat} {fs : List Str} {e : Expr} {es : List Expr} {tas : TA} {ms : Env → R (List D)} {p pos pos' : Pos} (T : XcAt P w K mg base x C fs) (tk : L2N.Takes X (fun cls d _ H => E cls d H)) (hr : Room j X.A) (hg : Gl X x) (ha : MA X (kE E) (e :: es) tas ms) (hc : X.calm = true := by rfl) (hj : 2 ≤ j := by decide)
    (hP : X.prog = P := by rfl) (hw : X.w = w := by rfl) (hK : X.K = K := by rfl) (hm : X.mg = mg := by rfl) (hb : X.base = base := by rfl)
    (hdb : (x == ("__debug__" : Str)) = false := by decide) (he : starEach (e :: es) X.env = (false, eval e X.env) :: starEach es X.env := by rfl) (hpl : (backTo pos (starEach es X.env)).any (·.1) = false := by rfl) :
    MS X E Mb M M' (.Raise (some (.Call (.Name x p) (e :: es) [] pos)) none pos') (fun _ σ H => tMkO C (spXI C fs) [] tas σ H fun cls d H' => E cls d H') (fun ρ => raiseS x fs (ms ρ)) := by
  subst hP hw hK hm hb
  obtain ⟨fI, fd, ps, h1, h2, h3, h4⟩ := T.ex
  exact ms_raise hc tk T.c h1 h2 h3 (hr.mono hj) h4 pass0 hg T.m ha hdb he hpl
end DL
namespace DL
open PySem PySem.Spec L2

/-! ### a class of one's own: what __init__ makes of a new object -/
def endI : Fl → R D
  | .nx ρ => match (ρ : List (Option D))[0]? with
    | some (some (D.obj n ks ds)) => .ok (.obj n ks ds)
    | _ => .stuck
  | _ => .stuck
theorem endI_nx (ρ : Env) : (∃ n ks ds, endI (.nx ρ) = .ok (.obj n ks ds) ∧ (ρ : List (Option D))[0]? = some (some (.obj n ks ds))) ∨ endI (.nx ρ) = .stuck := by
  cases q : (ρ : List (Option D))[0]? with
  | none => exact .inr (by simp only [endI, q])
  | some o =>
    cases o with
    | none => exact .inr (by simp only [endI, q])
    | some d =>
      cases d with
      | obj n ks ds => exact .inl ⟨n, ks, ds, by simp only [endI, q], rfl⟩
      | _ => exact .inr (by simp only [endI, q])
def runI (n : Nat) (nm : Str) (ms : Env → R Fl) (ds : List D) : R D := ms (some (.obj nm [] []) :: startE (n - 1) ds) >>= endI
def spMk (K : PySem.W.Frag) (mg : Str → Option Value) (nm : Str) (n : Nat) (g : List D → R D) : Sp := fun vs H Q E => ∃ (I H0 : Hp) (x dx C : Addr) (ws : List V) (ds : List D), vs = .ref x :: ws ∧ ds.length = n ∧ mg nm = some (.ref C) ∧ H0 x = none ∧ H0 dx = none ∧ dx ≠ x ∧
  H = upd (upd H0 dx (.own x)) x (.ins C dx []) ∧ Same I H0 ∧ Reps K (g0 mg) I ws ds ∧ Out K (g0 mg) E (fun I' (v : V) d => v = .non ∧ Rep K (g0 mg) I' (.ref x) d) I H0 (g ds) Q
theorem startE_get {n : Nat} {ds : List D} {i : Nat} {d : D} (q : (startE n ds)[i]? = some (some d)) : i < ds.length ∧ ds[i]? = some d := by
  unfold startE at q
  by_cases hi : i < ds.length
  · rw [List.getElem?_append_left (by rw [List.length_map]; exact hi), List.getElem?_map] at q
    refine ⟨hi, ?_⟩
    cases z : ds[i]? with
    | none =>
      rw [z] at q
      cases q
    | some e =>
      rw [z] at q
      cases q
      rfl
  · rw [List.getElem?_append_right (by rw [List.length_map]; omega), List.getElem?_replicate] at q
    split at q <;> cases q
theorem start_SEI {K : PySem.W.Frag} {mg : Gm} {M : List Nat} {I H0 : Hp} {N : List Str} {ws : List V} {ds : List D} {x dx C : Addr} {nm : Str} (ex : Same I H0) (rs : Reps K mg I ws ds) (hM : ∀ i ∈ M, i = 0 ∨ ds.length + 1 ≤ i) (h0 : 0 ∈ M) (hD0 : deep M 0 = false) (hc : mg nm = some (.ref C)) (n1 : H0 x = none) (n2 : H0 dx = none) (hd : dx ≠ x) :
    SE K mg M (I, x) H0 (start N (.ref x :: ws)) I (upd (upd H0 dx (.own x)) x (.ins C dx [])) (some (.obj nm [] []) :: startE (N.length - 1) ds) := by
  have k : Same H0 (upd (upd H0 dx (.own x)) x (.ins C dx [])) := fun b o hb => by
    rw [upd_ne (fun z => by subst z; rw [n1] at hb; cases hb), upd_ne (fun z => by subst z; rw [n2] at hb; cases hb)]
    exact hb
  have own0 : ∀ (i : Nat) (d : D), i ∈ M → (some (D.obj nm [] []) :: startE (N.length - 1) ds)[i]? = some (some d) → i = 0 ∧ d = .obj nm [] [] := fun i d hi q => by
    cases i with
    | zero =>
      cases q
      exact ⟨rfl, rfl⟩
    | succ j =>
      have := (startE_get (show (startE (N.length - 1) ds)[j]? = some (some d) from q)).1
      rcases hM _ hi with z | z
      · cases z
      · omega
  have s0 : (start N (V.ref x :: ws))[0]? = some (some (.ref x)) := start_at rfl
  refine ⟨⟨.refl _, k, ex.trans k, fun _ _ z => .inl z⟩, ?_, fun i d hi q => ?_, fun i d hi q => ?_, fun i j p p9 d e hi hj hne q1 q2 => ?_, fun i d p hi q g _ => ?_⟩
  · unfold L2.start startE
    rw [List.length_append, List.length_map, List.length_replicate, List.length_cons, List.length_cons, List.length_append, List.length_map, List.length_replicate, rs.len]
    omega
  · cases i with
    | zero => exact absurd h0 hi
    | succ j =>
      obtain ⟨_, hd⟩ := startE_get (show (startE (N.length - 1) ds)[j]? = some (some d) from q)
      obtain ⟨v, hv, r⟩ := rs.get hd
      exact ⟨v, start_at hv, r⟩
  · obtain ⟨rfl, rfl⟩ := own0 i d hi q
    exact ⟨x, _, s0, ex.free n1, n1, upd_same, .mk (OwnR.ins (fs := []) hc .nil) hD0⟩
  · obtain ⟨rfl, _⟩ := own0 i d hi q1
    obtain ⟨rfl, _⟩ := own0 j e hj q2
    exact absurd rfl hne
  · obtain ⟨rfl, _⟩ := own0 i d hi q
    rw [s0] at g
    cases g
    rfl
theorem fn_mirI {P : Program} {w : World} {K : PySem.W.Frag} {mg : Str → Option Value} {base : Heap} {x qual nm : Str} {st : Stmt} {f : Addr} {fd : FuncData} {N ps : List Str} {k n : Nat} {M : List Nat} {ms : Env → R Fl} (F : Fun K x qual st f fd) (S : FnScope N ps (defScope st)) (hp : ps.length = n + 1) (hM : ∀ i ∈ M, i = 0 ∨ n + 1 ≤ i) (h0 : 0 ∈ M) (hD0 : deep M 0 = false)
    (hb : ∀ (cdv : Value) (A : Around) (outer : List PySem.Env) (s : Shared) (H : Hp) (E : XK), Room k (A.deeper (PyProof.Rows.envOfC qual (defScope st) s.heap.objs.size f cdv)) →
      ∃ ts, MSs (cxOf (L2N.CX P w) P w K mg base N qual (defScope st) f cdv A outer s H E) E [] M M (defBody st) ts ms) : FnOk P w K mg base (L2N.CX P w) (k + 1) f fd ps (spMk K mg nm n (runI N.length nm ms)) := by
  refine okXN F S (fun vs H Q E h => ?_) (fun cdv A outer s H vs Q E hr h => ?_)
  · obtain ⟨I, H0, x, dx, C, ws, ds, rfl, hl, _, _, _, _, _, _, rs, _⟩ := h
    rw [hp, List.length_cons, rs.len, hl]
  · obtain ⟨I, H0, x, dx, C, ws, ds, rfl, hl, hc, n1, n2, hd, rfl, ex, rs, h⟩ := h
    obtain ⟨ts, hq⟩ := hb cdv A outer s _ E hr
    refine ⟨ts, hq.pe, hq.sn (I, x) H0 _ I _ _ _ (start_SEI (nm := nm) ex rs (by rw [hl]; exact hM) h0 hD0 hc n1 n2 hd) ?_⟩
    unfold runI at h
    cases e : ms (some (.obj nm [] []) :: startE (N.length - 1) ds) with
    | err em es =>
      rw [e] at h
      exact h
    | stuck =>
      rw [e] at h
      exact h.elim
    | ok fl =>
      rw [e] at h
      cases fl with
      | nx ρ =>
        intro σ I1 H1 s1 _
        have h : Out K (g0 mg) E (fun I' (v : V) d => v = .non ∧ Rep K (g0 mg) I' (.ref x) d) I H0 (endI (.nx ρ)) Q := h
        rcases endI_nx ρ with ⟨m, ks, es, e2, q⟩ | e2
        · rw [e2] at h
          obtain ⟨p, o, g2, _⟩ := s1.own_ 0 _ h0 q
          have hp : p = x := s1.slf 0 _ p h0 q g2 rfl
          obtain ⟨I2, _, s2⟩ := s1.all
          obtain ⟨v, g3, r⟩ := s2.imm 0 _ (by simp) q
          rw [g2] at g3
          cases g3
          subst hp
          exact h .non I2 H1 s2.st ⟨rfl, r⟩
        · rw [e2] at h
          exact h.elim
      | rt d => exact h.elim
      | bk ρ => exact h.elim
      | rf ds => exact h.elim
      | rd ds => exact h.elim
      | ct ρ => exact h.elim
/-- a class of the text's own as it stands under its name -/
structure CkAt (P : Program) (w : World) (K : PySem.W.Frag) (mg : Str → Option Value) (base : Heap) (x : Str) (C : Addr) (k n : Nat) (g : List D → R D) : Prop where
  m : mg x = some (.ref C)
  ex : ∃ fI fd ps, Mk K C fI ∧ FnOk P w K mg base (L2N.CX P w) k fI fd ps (spMk K mg x n g) ∧ Binds K fd ps []
/-- X(e, ..) where the wish goes by the slots -/
theorem run_makeS {X : Cx} {CX : CXT} {k : Nat} {f C : Addr} {fd : FuncData} {ps : List Str} {sp : Sp} {E : XK} {pins : List (Addr × Obj)} {σ : L2.St} {H : Hp} {s : Shared} {Q : VK} {us : List Value} {vs : List V} (M : Mk X.K C f) (F : FnOk X.prog X.w X.K X.mg X.base CX k f fd ps sp) (hr : Room (k + 1) X.A) (hb : Binds X.K fd ps []) (hx : PassesAt CX X σ E) (I : L2.Inv X pins σ H s) (r : Vals vs us)
    (h : ∀ x dx, H x = none → H dx = none → dx ≠ x → sp (.ref x :: vs) (upd (upd H dx (.own x)) x (.ins C dx [])) (fun v H2 => v = .non ∧ Q (.ref x) H2) E) : wpAny (model X.prog X.w) X.A (call (.ref C) us) (EP X pins σ Q) X.xe s := by
  have hq := h (s.heap.objs.size + 1) s.heap.objs.size (HOk.fresh I.hok (Nat.le_succ _)) (HOk.fresh I.hok (Nat.le_refl _)) (Nat.ne_of_lt (Nat.lt_succ_self _))
  have I2 := Inv.made (C := C) I
  have r2 : Vals (.ref (s.heap.objs.size + 1) :: vs) (.ref (s.heap.objs.size + 1) :: us) := Paired.cons rfl r
  have hl : (Value.ref (s.heap.objs.size + 1) :: us).length = ps.length := by
    rw [← Vals.length r2]
    exact F.len _ _ _ _ hq
  refine wpAny_call (make_map (Inv.kIn I) M.makes M.init (beq_iff_eq.mp M.fn) (codeAny_mono (F.run _ X.stack _ _ ⟨.ref (s.heap.objs.size + 1) :: us, []⟩ _ _ _ E (Room.make hr C us []) (Env0.make (Inv.env0 I2) C us []) (hb _ _ (Inv.kIn I2) (by rw [List.append_nil]; exact hl)) (by rw [List.append_nil]; exact r2) hq) fun r s' hq' => ?_))
  cases r with
  | error e => exact hx pins _ _ e s' I2 hq'
  | ok fl =>
    cases fl with
    | ret u =>
      obtain ⟨v, H', I3, rv, ev, q3⟩ := Inv.after I2 hq'
      subst ev
      exact ⟨rv, V.ref (s.heap.objs.size + 1), H', I3, rfl, q3⟩
    | _ => exact hq'.elim
def tMakeS (C : Addr) (sp : Sp) (E : XS) (t : TA) : TE := fun σ H Q => t σ H fun vs H1 => ∀ x dx, H1 x = none → H1 dx = none → dx ≠ x → sp (.ref x :: vs) (upd (upd H1 dx (.own x)) x (.ins C dx [])) (fun v H2 => v = .non ∧ Q (.ref x) H2) (E σ)
theorem pe_makeS {X : Cx} {CX : CXT} {k : Nat} {f C : Addr} {fd : FuncData} {ps : List Str} {sp : Sp} {E : XS} {x : Str} {p pos : Pos} {e : Expr} {es : List Expr} {t : TA} (M : Mk X.K C f) (F : FnOk X.prog X.w X.K X.mg X.base CX k f fd ps sp) (hr : Room (k + 1) X.A) (hg : Gl X x) (hm : X.mg x = some (.ref C)) (hb : Binds X.K fd ps []) (hx : ∀ σ, PassesAt CX X σ (E σ)) (ha : PA X (e :: es) t)
    (hdb : (x == ("__debug__" : Str)) = false := by decide) (he : starEach (e :: es) X.env = (false, eval e X.env) :: starEach es X.env := by rfl) (hpl : (backTo pos (starEach es X.env)).any (·.1) = false := by rfl) : PE X (.Call (.Name x p) (e :: es) [] pos) (tMakeS C sp E t) :=
  ⟨fun pins s σ H Q I h => by
    refine wpAny_Call_Name_kw (ld_glob I hg hm ?_ hdb)
    refine PySem.W.callWith_K (h₀ := X.base) I.ok.mod.kin M.kp (thn (ha.run pos pins s σ H _ I h) fun us s1 hh => ?_) he hpl
    obtain ⟨vs, H1, I1, r, q⟩ := hh
    exact ⟨I1.kIn, run_makeS M F hr hb (hx σ) I1 r q⟩⟩
/-- X(e, ..) -/
theorem me_make {X : Cx} {E : Wh} {P : Program} {w : World} {K : PySem.W.Frag} {mg : Str → Option Value} {base : Heap} {C : Addr} {k j n : Nat} {g : List D → R D} {x : Str} {p pos : Pos} {e : Expr} {es : List Expr} {tas : TA} {ms : Env → R (List D)} (F : CkAt P w K mg base x C k n g) (hr : Room j X.A) (hx : ∀ σ, PassesAt (L2N.CX X.prog X.w) X σ (E.e σ)) (hg : Gl X x) (ha : MA X E (e :: es) tas ms) (h0 : E.x = fun _ => none := by rfl) (hj : k + 1 ≤ j := by decide)
    (hP : X.prog = P := by rfl) (hw : X.w = w := by rfl) (hK : X.K = K := by rfl) (hm : X.mg = mg := by rfl) (hb : X.base = base := by rfl)
    (hdb : (x == ("__debug__" : Str)) = false := by decide) (he : starEach (e :: es) X.env = (false, eval e X.env) :: starEach es X.env := by rfl) (hpl : (backTo pos (starEach es X.env)).any (·.1) = false := by rfl) :
    ME X E (.Call (.Name x p) (e :: es) [] pos) (tMakeS C (spMk K mg x n g) E.e tas) (fun ρ => call_ n g (ms ρ)) := by
  subst hP hw hK hm hb
  obtain ⟨E1, E2⟩ := E
  have h0 : E2 = fun _ => none := h0
  subst h0
  obtain ⟨fI, fd, ps, M, F1, hb⟩ := F.ex
  obtain ⟨pt, st⟩ := ha
  refine ⟨pe_makeS M F1 (hr.mono hj) hg F.m hb hx pt hdb he hpl, fun σ I H ρ Q re ex h => ?_⟩
  refine st.run re ex h fun ds vs I1 H1 _ s1 rs h => ?_
  obtain ⟨hl, h⟩ := out_if h
  intro x0 dx n1 n2 hd
  refine ⟨I1, H1, x0, dx, C, vs, ds, rfl, hl, F.m, n1, n2, hd, rfl, s1.e, rs, ?_⟩
  cases e1 : g ds with
  | ok d =>
    rw [e1] at h
    intro v I' H' t ⟨hv, r⟩
    exact ⟨hv, h _ I' H' t r⟩
  | err em es =>
    rw [e1] at h
    exact h
  | stuck =>
    rw [e1] at h
    exact h.elim
end DL
namespace DL
open PySem PySem.Spec L2

/-! ### several clauses, each with a name -/
/-- the suites' ends: the name's slot is empty behind them -/
def endsAs (i : Nat) (D : Ends) : Ends := { nx := fun σ' H' => D.nx (σ'.set i none) H', rt := D.rt, bk := fun σ' H' => D.bk (σ'.set i none) H', ct := fun σ' H' => D.ct (σ'.set i none) H' }
def wAss (K : PySem.W.Frag) (Wout : WX) (D : Ends) : List (Nat × Value × (Addr → Value → Option Addr → TS)) → WX
  | [] => Wout
  | (i, c, ts) :: r => fun cls d σ H => ∃ b, PySem.W.exmOne K cls c = some b ∧ (b = true → ∀ a, H a = none → ts a cls d (endsAs i D) (σ.set i (some (.ref a))) H) ∧ (b = false → wAss K Wout D r cls d σ H)
inductive AsOk (X : Cx) : List ExceptHandler → List (Nat × Value × (Addr → Value → Option Addr → TS)) → Prop
  | nil : AsOk X [] []
  | cons {x n : Str} {c : Value} {i : Nat} {ts : Addr → Value → Option Addr → TS} {b₀ : Stmt} {suite : List Stmt} {np pos' : Pos} {hds : List ExceptHandler} {l : List (Nat × Value × (Addr → Value → Option Addr → TS))} (hc : Names X x c) (hi : X.N[i]? = some n) (hln : X.env.kindOf n = some .local)
      (hsu : ∀ (a : Addr) (oe : Obj) (cls : Value) (d : Option Addr) (pn : List (Addr × Obj)), Zc cls d oe → (∃ vs, oe.data = .fields vs) → PySem.PXN.CtxN oe → PSs (X.suite a ((a, oe) :: pn)) (b₀ :: suite) (ts a cls d)) (r : AsOk X hds l) :
      AsOk X (.ExceptHandler (some (.Name x np)) (some n) (b₀ :: suite) pos' :: hds) ((i, c, ts) :: l)
theorem ps_try_ass {X : Cx} {body : List Stmt} {h₀ : ExceptHandler} {hds : List ExceptHandler} {l : List (Nat × Value × (Addr → Value → Option Addr → TS))} {pos : Pos} {tb : WX → TS} {Wout : WX} (hs : X.stack = X.env :: X.outer) (hf : X.env.frame = some X.env.locals) (hN : X.N.Nodup) (tk : L2N.Takes X Wout)
    (hb : ∀ (W : WX) (pn : List (Addr × Obj)) (xe : Value → Shared → Prop), L2N.Takes (X.tr pn xe) W → PassesOwn (model X.prog X.w) X.A X.env xe → PSs (X.tr pn xe) body (tb W)) (hh : AsOk X (h₀ :: hds) l) :
    PS X (.Try body (h₀ :: hds) [] [] pos) (fun D σ H => tb (wAss X.K Wout D l) D σ H) := by
  refine ⟨fun pins s σ H D I h => ?_⟩
  have ok := I.ok
  have hfr := ok.frames
  rw [hs] at hfr
  refine wpAny_Try_except (wpAny_mono ((hb (wAss X.K Wout D l) (X.pn ++ pins) (fun e s₁ => wpAny (model X.prog X.w) X.A (noteFrame e X.env) (fun _ s₂ => wpAny (model X.prog X.w) X.A (setFlight e none) (fun _ s₃ => wpAny (model X.prog X.w) X.A (handleBy e X.env (h₀ :: hds)) (SP X pins D) X.xe s₃) X.xe s₂) X.xe s₁) (fun u s' xx => ?_) PassesOwn.looking).run [] s σ H D (Inv.toTry I _) h) (fun f s1 hsp => ?_) (fun e s1 he => he))
  · obtain ⟨a, B, sI, pins', σ', H', cls, d, rfl, J', nb, up, sky, na, os, ag, w⟩ := xx
    have J := Inv.ofTry J' ok
    have sky' := sky
    rw [show (X.tr (X.pn ++ pins) _).stack = X.stack from rfl, hs] at sky'
    refine L2N.Sky.land L2N.Zn.steady hfr hf sky' fun h3 fl3 up3 => ?_
    have J3 : L2.Inv X pins σ' H' { heap := h3, gens := s'.gens, drawn := s'.drawn, toks := s'.toks, os := s'.os } := Inv.landed J nb fl3.left (Heap.UpToSlots.trans up up3) os ag
    obtain ⟨oe3, vs3, he3, hz3, hd3⟩ := HandSPX.FlyingZ.there fl3
    have nfr : ∀ L ∈ List.filterMap (fun e : PySem.Env => e.frame) (X.env :: X.outer), L ≠ a := fun L hL z => by
      obtain ⟨_, o', e', hnf⟩ := Heap.FunFrames.mem fl3.right.right.left hL
      rw [z, he3] at e'
      cases e'
      exact hnf vs3 hd3
    have nL : a ≠ X.env.locals := fun z => nfr _ (List.mem_filterMap.mpr ⟨X.env, List.mem_cons_self, hf⟩) z.symm
    have nF : a ∉ X.fs := fun hm => by
      obtain ⟨e, he, q⟩ := List.mem_filterMap.mp hm
      exact nfr a (List.mem_filterMap.mpr ⟨e, List.mem_cons_of_mem _ he, q⟩) rfl
    have S3 := Inv.suite J3 he3 hd3 na nL nF
    have go : ∀ {hds' : List ExceptHandler} {l' : List (Nat × Value × (Addr → Value → Option Addr → TS))}, AsOk X hds' l' → wAss X.K Wout D l' cls d σ' H' →
        wpAny (model X.prog X.w) X.A (handleBy (Value.ref a) X.env hds') (SP X pins D) X.xe { heap := h3, gens := s'.gens, drawn := s'.drawn, toks := s'.toks, os := s'.os } := by
      intro hds' l' hk
      induction hk with
      | nil =>
        intro w
        refine wpAny_handleBy_nil ?_
        obtain ⟨k1, k2, k3, oe, vs, T, oT, ts', he, hz, hd, h1, hr⟩ := id fl3
        refine wpAny_bind (wpAny_field he hd h1 ?_)
        rw [if_neg (by simp)]
        refine wpAny_bind ?_
        rw [hf]
        refine HandSPX.setFlight_upZ fl3 fun h4 hh4 up4 => wpAny_throw (tk (Value.ref a) _ ?_)
        refine ⟨a, B, sI, pins, σ', H', cls, d, rfl, J, nb, Heap.UpToSlots.trans (Heap.UpToSlots.trans up up3) up4, .inr (.inr ?_), na, os, ag, w⟩
        rw [hs]
        exact hh4
      | @cons x n c i ts b₀ suite np pos' hds2 l2 hc hi hln hsu r ih =>
        rintro ⟨b, hb1, hyes, hno⟩
        refine wpAny_handleBy_cons (codeAny_handlers_test ?_) (fun q => by cases q)
        have LT : PySem.W.Looks (model X.prog X.w) h3 (typeOf (Value.ref a)) cls := fun A Q E s k q => wpAny_typeOf_ref (k a oe3 he3) (by rw [hz3.left]; exact q)
        have LM := PySem.W.exm_one (M := model X.prog X.w) (Inv.kIn J3) LT hb1
        obtain ⟨hg, hdbg, hcc⟩ := hc
        have test : ∀ {Q : Value → Shared → Prop} {E : Value → Shared → Prop}, Q c { heap := h3, gens := s'.gens, drawn := s'.drawn, toks := s'.toks, os := s'.os } → wpAny (model X.prog X.w) (X.A.mark (some (Value.ref a))) (eval (.Name x np) X.env) Q E { heap := h3, gens := s'.gens, drawn := s'.drawn, toks := s'.toks, os := s'.os } := fun q => by
          rcases hcc with hm | ⟨hm, hv, hnn⟩
          · exact ld_glob S3 hg hm q hdbg
          · exact ld_blt S3 hg hm hv q hnn hdbg
        refine test (PySem.W.Looks.here LM ?_)
        cases b with
        | false => exact ih (hno rfl)
        | true =>
          refine codeAny_handlers_suite_as (HandSPX.lands_againZ fl3 fun h4 fl4 up4 => ?_)
          have J4 : L2.Inv X pins σ' H' { heap := h4, gens := s'.gens, drawn := s'.drawn, toks := s'.toks, os := s'.os } := Inv.landed J nb fl4.left (Heap.UpToSlots.trans (Heap.UpToSlots.trans up up3) up4) os ag
          obtain ⟨oe4, vs4, he4, hz4, hd4⟩ := HandSPX.FlyingZ.there fl4
          have S4 := Inv.suite J4 he4 hd4 na nL nF
          refine store_ok (X := X.suite a ((a, oe4) :: (X.pn ++ pins))) (v := .ref a) S4 hN hi (.inl hln) rfl (fun s5 S5 => ?_) (.inr hln)
          refine wpAny_mono ((hsu a oe4 cls d (X.pn ++ pins) hz4.zc ⟨vs4, hd4⟩ hz4.2.2).run [] s5 _ H' _ S5 (hyes rfl a na)) (fun f s6 hsp => ?_) (fun _ _ z => z.elim)
          have end_ : ∀ {σ6 : L2.St} {H6 : Hp} {Q : Unit → Shared → Prop}, L2.Inv (X.suite a ((a, oe4) :: (X.pn ++ pins))) [] σ6 H6 s6 → (∀ s7, L2.Inv X pins (σ6.set i none) H6 s7 → Q () s7) → wpAny (model X.prog X.w) X.A (do bindName X.env n Value.none; unbindBehindTheSuite X.env n pos') Q X.xe s6 := fun S6 hq => gone_ok (Inv.unsuite S6 ok) hN hi hln hq
          cases f with
          | ret v =>
            obtain ⟨v6, σ6, H6, S6, r6, q6⟩ := hsp
            exact end_ S6 fun s7 J7 => ⟨v6, σ6.set i none, H6, J7, r6, q6⟩
          | _ =>
            obtain ⟨σ6, H6, S6, q6⟩ := hsp
            exact end_ S6 fun s7 J7 => ⟨σ6.set i none, H6, J7, q6⟩
    exact go hh w
  · cases f with
    | next =>
      obtain ⟨σ', H', J', q⟩ := hsp
      exact wpAny_execs_nil ⟨σ', H', Inv.ofTry J' ok, q⟩
    | ret v =>
      obtain ⟨v', σ', H', J', r, q⟩ := hsp
      exact ⟨v', σ', H', Inv.ofTry J' ok, r, q⟩
    | _ =>
      obtain ⟨σ', H', J', q⟩ := hsp
      exact ⟨σ', H', Inv.ofTry J' ok, q⟩
end DL
namespace DL
open PySem PySem.Spec L2

/-! ### errors that are caught -/
mutual
def D.noX : D → Bool
  | .exc _ _ _ => false
  | .lst ds => D.noXs ds
  | .tup ds => D.noXs ds
  | .obj _ _ ds => D.noXs ds
  | .dk _ ds => D.noXs ds
  | .dt _ ds => D.noXs ds
  | _ => true
def D.noXs : List D → Bool
  | [] => true
  | d :: ds => D.noX d && D.noXs ds
end
section
variable {K : PySem.W.Frag} {m : Str → Option Value} {x y : Addr → Option (Addr × Addr)} {I : Hp}
mutual
/-- no error in it: the errors that are held do not matter -/
theorem Rep.noX : ∀ {v : V} {d : D}, Rep K ⟨m, x⟩ I v d → d.noX = true → Rep K ⟨m, y⟩ I v d
  | _, _, .non, _ => .non
  | _, _, .bl b, _ => .bl b
  | _, _, .int i, _ => .int i
  | _, _, .str x, _ => .str x
  | _, _, .lst h r, q => .lst h (Reps.noX r q)
  | _, _, .tup h r, q => .tup h (Reps.noX r q)
  | _, _, .scr h, _ => .scr h
  | _, _, .rng h, _ => .rng h
  | _, _, .ty n, _ => .ty n
  | _, _, .cls h, _ => .cls h
  | _, _, .obj h c r, q => .obj h c (Reps.noX r q)
  | _, _, .dk h r, q => .dk h (Reps.noX r q)
  | _, _, .dt h r, q => .dt h (Reps.noX r q)
  | _, _, .exc _ _ _ _, q => nomatch q
theorem Reps.noX : ∀ {vs : List V} {ds : List D}, Reps K ⟨m, x⟩ I vs ds → D.noXs ds = true → Reps K ⟨m, y⟩ I vs ds
  | _, _, .nil, _ => .nil
  | _, _, .cons h r, q => by
    rw [D.noXs, Bool.and_eq_true] at q
    exact .cons (Rep.noX h q.1) (Reps.noX r q.2)
end
mutual
/-- data in which no error is held -/
theorem Rep.more : ∀ {v : V} {d : D}, Rep K (g0 m) I v d → Rep K ⟨m, y⟩ I v d
  | _, _, .non => .non
  | _, _, .bl b => .bl b
  | _, _, .int i => .int i
  | _, _, .str x => .str x
  | _, _, .lst h r => .lst h (Reps.more r)
  | _, _, .tup h r => .tup h (Reps.more r)
  | _, _, .scr h => .scr h
  | _, _, .rng h => .rng h
  | _, _, .ty n => .ty n
  | _, _, .cls h => .cls h
  | _, _, .obj h c r => .obj h c (Reps.more r)
  | _, _, .dk h r => .dk h (Reps.more r)
  | _, _, .dt h r => .dt h (Reps.more r)
  | _, _, .exc h _ _ _ => nomatch h
theorem Reps.more : ∀ {vs : List V} {ds : List D}, Reps K (g0 m) I vs ds → Reps K ⟨m, y⟩ I vs ds
  | _, _, .nil => .nil
  | _, _, .cons h r => .cons (Rep.more h) (Reps.more r)
end
end
/-- the error that the suite holds: at a, of class cls, its dict d -/
def xcV (a : Addr) (cls : Value) (d : Option Addr) : Addr → Option (Addr × Addr) := fun b => if b = a then (match cls, d with | .ref C, some e => some (C, e) | _, _ => none) else none
theorem xcV_of {a b C e : Addr} {cls : Value} {d : Option Addr} (h : xcV a cls d b = some (C, e)) : b = a ∧ cls = .ref C ∧ d = some e := by
  unfold xcV at h
  by_cases z : b = a
  · rw [if_pos z] at h
    split at h
    · cases h
      exact ⟨z, rfl, rfl⟩
    · cases h
  · rw [if_neg z] at h
    cases h
theorem xcV_at {a C e : Addr} : xcV a (.ref C) (some e) a = some (C, e) := if_pos rfl

/-! #### suites -/
/-- a suite that ends with x = e -/
def asgB : Env → Option (Nat × D)
  | [some (.int z), some d] => some (z.toNat, d)
  | _ => none
def OutH (K : PySem.W.Frag) (gm : Gm) (I H : Hp) (σ : L2.St) (D0 : Ends) (r : R Fl) : Prop := match r with
  | .ok (.nx _) => ∀ I' H', Stp I H I' H' → D0.nx σ H'
  | .ok (.rt d) => ∀ v I' H', Stp I H I' H' → Rep K gm I' v d → D0.rt v H'
  | .ok (.bk ρ') => match asgB ρ' with
    | some (j, d) => ∀ v I' H', Stp I H I' H' → Rep K gm I' v d → D0.nx (σ.set j (some v)) H'
    | none => False
  | _ => False
def SnH (K : PySem.W.Frag) (gm : Gm) (ts : TS) (mh : Env → R Fl) : Prop := ∀ (σ : L2.St) (I H : Hp) (ρ : Env) (D0 : Ends), RE K gm I σ ρ → Same I H → OutH K gm I H σ D0 (mh ρ) → ts D0 σ H
structure MH (X : Cx) (x : Addr → Option (Addr × Addr)) (s : Stmt) (ts : TS) (mh : Env → R Fl) : Prop where
  pe : PS X s ts
  sn : SnH X.K ⟨X.mg, x⟩ ts mh
structure MHs (X : Cx) (x : Addr → Option (Addr × Addr)) (s : List Stmt) (ts : TS) (mh : Env → R Fl) : Prop where
  pe : PSs X s ts
  sn : SnH X.K ⟨X.mg, x⟩ ts mh
abbrev hE (x : Addr → Option (Addr × Addr)) : Wh := ⟨fun _ => E0, x⟩
theorem OutH.mono {K : PySem.W.Frag} {gm : Gm} {I H I' H' : Hp} {σ : L2.St} {D0 : Ends} {r : R Fl} (s : Stp I H I' H') (h : OutH K gm I H σ D0 r) : OutH K gm I' H' σ D0 r := by
  cases r with
  | ok f =>
    cases f with
    | nx ρ => exact fun I2 H2 t => h I2 H2 (s.trans t)
    | rt d => exact fun v I2 H2 t q => h v I2 H2 (s.trans t) q
    | bk ρ' =>
      have h : (match asgB ρ' with
        | some (j, d) => ∀ v I2 H2, Stp I H I2 H2 → Rep K gm I2 v d → D0.nx (σ.set j (some v)) H2
        | none => False) := h
      show (match asgB ρ' with
        | some (j, d) => ∀ v I2 H2, Stp I' H' I2 H2 → Rep K gm I2 v d → D0.nx (σ.set j (some v)) H2
        | none => False)
      cases ea : asgB ρ' with
      | none =>
        rw [ea] at h
        exact h
      | some jd =>
        obtain ⟨j, d⟩ := jd
        rw [ea] at h
        exact fun v I2 H2 t q => h v I2 H2 (s.trans t) q
    | _ => exact h
  | _ => exact h
/-- a value's reading in a suite -/
theorem SnH.of {K : PySem.W.Frag} {gm : Gm} {α β : Type} {rp : Hp → β → α → Prop} {te : L2.St → Hp → (β → Hp → Prop) → Prop} {m : Env → R α} {k : α → R Fl} {P : β → Hp → Prop} {I H : Hp} {σ : L2.St} {ρ : Env} {D0 : Ends} (h : Sn K gm (fun _ => E0) rp te m) (re : RE K gm I σ ρ) (ex : Same I H) (hq : OutH K gm I H σ D0 (m ρ >>= k))
    (hk : ∀ d v I' H', Stp I H I' H' → rp I' v d → OutH K gm I' H' σ D0 (k d) → P v H') : te σ H P := by
  refine h σ I H ρ P re ex ?_
  cases e : m ρ with
  | ok d =>
    rw [e] at hq
    exact fun v I' H' s q => hk d v I' H' s q (OutH.mono s hq)
  | err nm ds =>
    rw [e] at hq
    exact hq.elim
  | stuck =>
    rw [e] at hq
    exact hq.elim
section
variable {X : Cx} {x : Addr → Option (Addr × Addr)} {s : Stmt} {ss : List Stmt} {t u : TS} {e c : Expr} {te : TE} {tt : TT} {m : Env → R D} {mt : Env → R Bool} {ma mb mh mr : Env → R Fl} {pos : Pos} {a b : List Stmt}
theorem mhs_nil : MHs X x [] tNext (fun ρ => .ok (.nx ρ)) := ⟨pss_nil, fun σ I H ρ D0 re ex h => h I H (.refl ex)⟩
theorem mhs_one (h : MH X x s t mh) : MHs X x [s] t mh := ⟨pss_one h.pe, h.sn⟩
theorem mh_ret (h : ME X (hE x) e te m) : MH X x (.Return (some e) pos) (tRet te) (fun ρ => ret (m ρ)) := ⟨ps_ret h.pe, fun σ I H ρ D0 re ex q => SnH.of (k := fun d => .ok (.rt d)) h.sn re ex q fun d v I' H' s r q => q v I' H' (.refl s.e) r⟩
theorem mh_if (hc : MT X (hE x) c tt mt) (ha : MHs X x a t ma) (hb : MHs X x b u mb) : MH X x (.If c a b pos) (tIfS tt t u) (fun ρ => ifv (mt ρ) (ma ρ) (mb ρ)) := ⟨ps_if hc.pe ha.pe hb.pe, fun σ I H ρ D0 re ex q => by
  refine SnH.of (k := fun k => if k = true then ma ρ else mb ρ) hc.sn re ex q fun d v I' H' s r q => ?_
  have r : v = d := r
  subst r
  cases v with
  | true => exact ha.sn σ I' H' ρ D0 (re.mono s.i) s.e q
  | false => exact hb.sn σ I' H' ρ D0 (re.mono s.i) s.e q⟩
end

/-! #### what is tried -/
/-- an error goes out at the slots' values of the start -/
def OutY (K : PySem.W.Frag) (gm : Gm) (W : WX) (M : List Nat) (Ie : Hp × Addr) (He I0 : Hp) (σ0 : L2.St) (ρ0 : Env) (D0 : Ends) (r : R Fl) : Prop := match r with
  | .ok (.nx ρ) => ∀ σ I H, SE K gm M Ie He σ I H ρ → Same I0 I → D0.nx σ H
  | .ok (.rt d) => ∀ v I H, Stp Ie.1 He I H → Rep K gm I v d → D0.rt v H
  | .err nm ds => ∀ C od I H, SE K gm M Ie He σ0 I H ρ0 → Same I0 I → XRep K gm I H nm ds C od → W C od σ0 H
  | _ => False
def SnY (K : PySem.W.Frag) (gm : Gm) (W : WX) (M : List Nat) (ts : TS) (ms : Env → R Fl) : Prop :=
  ∀ (Ie : Hp × Addr) (He : Hp) (σ : L2.St) (I H : Hp) (ρ : Env) (D0 : Ends), SE K gm M Ie He σ I H ρ → OutY K gm W M Ie He I σ ρ D0 (ms ρ) → ts D0 σ H
abbrev yE (W : WX) : Wh := ⟨WE W, fun _ => none⟩
/-- within a try -/
structure MY (X : Cx) (M : List Nat) (s : Stmt) (tb : WX → TS) (ms : Env → R Fl) : Prop where
  pe : ∀ (W : WX) (pn : List (Addr × Obj)) (xe : Value → Shared → Prop), L2N.Takes (X.tr pn xe) W → PassesOwn (model X.prog X.w) X.A X.env xe → PS (X.tr pn xe) s (tb W)
  sn : ∀ W, SnY X.K (g0 X.mg) W M (tb W) ms
structure MYs (X : Cx) (M : List Nat) (s : List Stmt) (tb : WX → TS) (ms : Env → R Fl) : Prop where
  pe : ∀ (W : WX) (pn : List (Addr × Obj)) (xe : Value → Shared → Prop), L2N.Takes (X.tr pn xe) W → PassesOwn (model X.prog X.w) X.A X.env xe → PSs (X.tr pn xe) s (tb W)
  sn : ∀ W, SnY X.K (g0 X.mg) W M (tb W) ms
section
variable {X : Cx} {M : List Nat} {s : Stmt} {ss : List Stmt} {t u : WX → TS} {e c : Expr} {te : WX → TE} {tt : WX → TT} {m : Env → R D} {mt : Env → R Bool} {ma mb mr : Env → R Fl} {pos pos' : Pos} {a b : List Stmt}
theorem SnY.of {K : PySem.W.Frag} {gm : Gm} {W : WX} {Ie : Hp × Addr} {He I H : Hp} {σ : L2.St} {ρ : Env} {D0 : Ends} {α β : Type} {rp : Hp → β → α → Prop} {te : L2.St → Hp → (β → Hp → Prop) → Prop} {m : Env → R α} {k : α → R Fl} {P : β → Hp → Prop} (h : Sn K gm (WE W) rp te m) (s : SE K gm M Ie He σ I H ρ) (hq : OutY K gm W M Ie He I σ ρ D0 (m (wipeE ρ M) >>= k))
    (hk : ∀ d v I' H', SE K gm M Ie He σ I' H' ρ → Stp I H I' H' → rp I' v d → OutY K gm W M Ie He I σ ρ D0 (k d) → P v H') : te σ H P := by
  refine h σ I H _ P s.re s.st.e ?_
  cases e : m (wipeE ρ M) with
  | ok d =>
    rw [e] at hq
    exact fun v I' H' t r => hk d v I' H' (s.step t) t r hq
  | err nm ds =>
    rw [e] at hq
    exact fun C od I' H' t x => hq C od I' H' (s.step t) t.i x
  | stuck =>
    rw [e] at hq
    exact hq.elim
theorem OutY.mono {K : PySem.W.Frag} {gm : Gm} {W : WX} {Ie : Hp × Addr} {He I0 I1 : Hp} {σ : L2.St} {ρ : Env} {D0 : Ends} {r : R Fl} (k : Same I0 I1) (h : OutY K gm W M Ie He I0 σ ρ D0 r) : OutY K gm W M Ie He I1 σ ρ D0 r := by
  cases r with
  | ok f =>
    cases f with
    | nx ρ => exact fun σ I H s q => h σ I H s (k.trans q)
    | rt d => exact h
    | _ => exact h
  | err nm ds => exact fun C od I H s q x => h C od I H s (k.trans q) x
  | stuck => exact h
theorem mys_one (h : MY X M s t ma) : MYs X M [s] t ma := ⟨fun W pn xe tk hp => pss_one (h.pe W pn xe tk hp), h.sn⟩
theorem my_expr (h : ∀ (W : WX) (pn : List (Addr × Obj)) (xe : Value → Shared → Prop), L2N.Takes (X.tr pn xe) W → ME (X.tr pn xe) (yE W) e (te W) m) (hw : ∀ (pn : List (Addr × Obj)) (xe : Value → Shared → Prop), swapsWith e none pos.line (X.tr pn xe).env = pure false := by intro _ _; rfl) : MY X M (.Expr e pos) (fun W => tDrop (te W)) (fun ρ => drp ρ (m (wipeE ρ M))) :=
  ⟨fun W pn xe tk hp => ps_expr (h W pn xe tk).pe (hw pn xe), fun W Ie He σ I H ρ D0 s q => SnY.of (k := fun _ => .ok (.nx ρ)) (h W [] (fun _ _ => True) (fun _ _ _ => True.intro)).sn s q fun d v I' H' s' t r q => q σ I' H' s' t.i⟩
end
end DL
namespace DL
open PySem PySem.Spec PyProof.Rows L2

/-! #### what a suite asks of its error -/
def tXfA (K : PySem.W.Frag) (a : Addr) (cls : Value) (d : Option Addr) (f : Str) (te : TE) : TE := fun σ H Q => te σ H fun x H1 => x = .ref a ∧ ∃ (C dd : Addr) (fs : List (Str × V)) (v : V), cls = .ref C ∧ XfC K C ∧ PySem.W.findIn K (.ref C) f = some none ∧ d = some dd ∧ H1 dd = some (.xd fs) ∧ fs.lookup f = some v ∧ Q v H1
theorem pe_xfA {X : Cx} {a : Addr} {oe : Obj} {cls : Value} {d : Option Addr} {pn : List (Addr × Obj)} {e : Expr} {te : TE} {pos : Pos} {f : Str} (hz : Zc cls d oe) (hf : ∃ vs, oe.data = .fields vs) (he : PE (X.suite a ((a, oe) :: pn)) e te) (hb : attributeBase e f X.env (eval e X.env) = eval e X.env := by rfl) :
    PE (X.suite a ((a, oe) :: pn)) (.Attribute e f pos) (tXfA X.K a cls d f te) := by
  refine ⟨fun pins s σ H Q I h => ?_⟩
  refine attr_of hb (thn (he.run pins s σ H _ I h) fun u s1 hh => ?_)
  obtain ⟨x, H1, I1, rx, ex, C, dd, fs, v, ec, T, hno, ed, ea, l, q⟩ := hh
  subst ex
  obtain rfl : u = Value.ref a := rx
  subst ec
  subst ed
  obtain ⟨ha, _⟩ := I1.pin (a, oe) (List.mem_append_left _ List.mem_cons_self)
  obtain ⟨vs, hd⟩ := hf
  have hx : ObjOk X.prog X.w H1 s1.heap dd (.xd fs) := I1.hok dd _ ea
  obtain ⟨mA, hns, hr⟩ := hx
  obtain ⟨od, ho, hl⟩ := lookIn_ns hns
  obtain ⟨u, hu, ru⟩ := RelO.some_of (v := v) (o := mA f) (by rw [← l]; exact hr f)
  have J : PySem.W.InstAt s1.heap a oe C (some od) := ⟨ha, hz.1, by unfold PySem.W.notCls; rw [hd] <;> rfl, by rw [hz.2]; exact ho⟩
  exact HandSPX.exc_get I1.kIn J T.ga T.gg T.exC (PySem.W.findObj_own T.hdC hno rfl (by rw [hl, hu])) (handed_of ru) ⟨v, H1, I1.tok _, ru, q⟩
def xfD (ns : List Str) (f : Str) : D → R D
  | .exc n ks ds => if n ∈ ns then (match getF f ks ds with | some d => .ok d | none => .stuck) else .stuck
  | _ => .stuck
def XcF (K : PySem.W.Frag) (mg : Str → Option Value) (ns : List Str) (f : Str) : Prop := ∀ n ∈ ns, ∀ C, mg n = some (.ref C) → XfC K C ∧ PySem.W.findIn K (.ref C) f = some none
theorem me_xf {X : Cx} {a : Addr} {oe : Obj} {cls : Value} {d : Option Addr} {pn : List (Addr × Obj)} {e : Expr} {te : TE} {m : Env → R D} {pos : Pos} (ns : List Str) {f : Str} (T : XcF X.K X.mg ns f) (hz : Zc cls d oe) (hf : ∃ vs, oe.data = .fields vs) (he : ME (X.suite a ((a, oe) :: pn)) (hE (xcV a cls d)) e te m) (hb : attributeBase e f X.env (eval e X.env) = eval e X.env := by rfl) :
    ME (X.suite a ((a, oe) :: pn)) (hE (xcV a cls d)) (.Attribute e f pos) (tXfA X.K a cls d f te) (fun ρ => o1 (xfD ns f) (m ρ)) := by
  obtain ⟨pa, sa⟩ := he
  refine ⟨pe_xfA hz hf pa hb, fun σ I H ρ Q re ex h => ?_⟩
  refine sa.run re ex h fun u v I1 H1 _ st rx h => ?_
  obtain ⟨z, hz, h9⟩ := out_calm h
  cases rx with
  | @exc a0 C dd n fs ds hx hn ha ra =>
    have hz : (if n ∈ ns then (match getF f (fs.map (·.1)) ds with | some d => R.ok d | none => .stuck) else .stuck) = R.ok z := hz
    by_cases hm : n ∈ ns
    · rw [if_pos hm] at hz
      cases e : getF f (fs.map (·.1)) ds with
      | none =>
        rw [e] at hz
        cases hz
      | some d' =>
        rw [e] at hz
        cases hz
        obtain ⟨v', h1, h2⟩ := getF_rep ra e
        obtain ⟨k1, k2⟩ := T n hm C hn
        obtain ⟨rfl, rfl, rfl⟩ := xcV_of hx
        exact ⟨rfl, C, dd, fs, v', rfl, k1, k2, rfl, st.e _ _ ha, h1, h9 _ _ _ (.refl st.e) h2⟩
    · rw [if_neg hm] at hz
      cases hz
  | _ => cases hz

/-! #### isinstance(e, X) -/
/-- which class is below which: of the text's own, of the built-in ones -/
structure XSub (K : PySem.W.Frag) (mg : Str → Option Value) (T : Str → Str → Option Bool) (B : Str → String → Option Bool) : Prop where
  cl : ∀ n C, (∃ c b, T n c = some b) ∨ (∃ c b, B n c = some b) → mg n = some (.ref C) → ExcC K C ∧ (PySem.W.clsIn K C).isSome = true
  own : ∀ n c b C u, T n c = some b → mg n = some (.ref C) → mg c = some u → PySem.W.kitOne K (.ref C) u = some b ∧ PySem.W.exmOne K (.ref C) u = some b
  bt : ∀ n c b C, B n c = some b → mg n = some (.ref C) → PySem.W.kitOne K (.ref C) (.type c) = some b ∧ PySem.W.exmOne K (.ref C) (.type c) = some b
def rIsX (K : PySem.W.Frag) (a : Addr) (cls : Value) (d : Option Addr) : List V → Hp → VK → Prop := fun xs H Q => ∃ (c : V) (u : Value) (b : Bool) (C dd : Addr) (fs : List (Str × V)), xs = [.ref a, c] ∧ ClsV c u ∧ cls = .ref C ∧ d = some dd ∧ H dd = some (.xd fs) ∧ ExcC K C ∧ (PySem.W.clsIn K C).isSome = true ∧ PySem.W.kitOne K (.ref C) u = some b ∧ Q (.bl b) H
theorem call_isX {X : Cx} {a : Addr} {oe : Obj} {cls : Value} {d : Option Addr} {pn : List (Addr × Obj)} (hz : Zc cls d oe) (hf : ∃ vs, oe.data = .fields vs) : CallR (X.suite a ((a, oe) :: pn)) (.builtin "isinstance") (rIsX X.K a cls d) := by
  intro pins s σ H xs us Q I r h
  obtain ⟨c, u, b, C, dd, fs, rfl, hc, rfl, rfl, ea, T, ic, ek, q⟩ := h
  cases r with
  | cons r1 r =>
    cases r with
    | cons r2 r =>
      cases r
      rename_i u1 u2
      obtain rfl : u1 = Value.ref a := r1
      obtain rfl : u2 = u := by
        cases hc with
        | ty n => exact r2
        | own C => exact r2
      obtain ⟨ha, _⟩ := I.pin (a, oe) (List.mem_append_left _ List.mem_cons_self)
      obtain ⟨vs, hd⟩ := hf
      obtain ⟨mA, hns, hr⟩ : ObjOk X.prog X.w H s.heap dd (.xd fs) := I.hok dd _ ea
      obtain ⟨od, ho, hl⟩ := lookIn_ns hns
      have J : PySem.W.InstAt s.heap a oe C (some od) := ⟨ha, hz.1, by unfold PySem.W.notCls; rw [hd] <;> rfl, by rw [hz.2]; exact ho⟩
      exact PySem.W.kia_one (PySem.W.kitx_exc ic T.hg T.hk T.hs T.ha T.hn T.ht T.hm) I.kIn J ek (fun z => nomatch z) fun tk => ⟨.bl b, H, I.tok _, rfl, q⟩
def isxD (T : Str → Str → Option Bool) (B : Str → String → Option Bool) : List D → R D
  | [.exc n _ _, .cls c] => match T n c with | some b => .ok (.bl b) | none => .stuck
  | [.exc n _ _, .ty c] => match B n c with | some b => .ok (.bl b) | none => .stuck
  | _ => .stuck
theorem cs_isx {K : PySem.W.Frag} {mg : Str → Option Value} {T : Str → Str → Option Bool} {B : Str → String → Option Bool} {a : Addr} {cls : Value} {d : Option Addr} (S : XSub K mg T B) : CSn K ⟨mg, xcV a cls d⟩ (rIsX K a cls d) (isxD T B) := by
  intro xs I H ds z Q ex rs hz q
  cases rs with
  | nil => cases hz
  | cons r1 rs =>
    cases rs with
    | nil => cases r1 <;> cases hz
    | cons r2 rs =>
      cases rs with
      | cons _ _ => cases r1 <;> cases r2 <;> cases hz
      | nil =>
        cases r1 with
        | @exc a0 C dd n fs es hx hn ha ra =>
          obtain ⟨rfl, rfl, rfl⟩ := xcV_of hx
          cases r2 with
          | @cls c C2 hc =>
            have hz : (match T n c with | some b => R.ok (D.bl b) | none => .stuck) = .ok z := hz
            cases e : T n c with
            | none =>
              rw [e] at hz
              cases hz
            | some b =>
              rw [e] at hz
              cases hz
              obtain ⟨k1, k2⟩ := S.cl n C (.inl ⟨c, b, e⟩) hn
              exact ⟨_, _, b, C, dd, fs, rfl, .own C2, rfl, rfl, ex _ _ ha, k1, k2, (S.own n c b C _ e hn hc).1, q _ _ _ (.refl ex) (.bl b)⟩
          | ty c =>
            have hz : (match B n c with | some b => R.ok (D.bl b) | none => .stuck) = .ok z := hz
            cases e : B n c with
            | none =>
              rw [e] at hz
              cases hz
            | some b =>
              rw [e] at hz
              cases hz
              obtain ⟨k1, k2⟩ := S.cl n C (.inr ⟨c, b, e⟩) hn
              exact ⟨_, _, b, C, dd, fs, rfl, .ty c, rfl, rfl, ex _ _ ha, k1, k2, (S.bt n c b C e hn).1, q _ _ _ (.refl ex) (.bl b)⟩
          | _ => cases hz
        | _ => cases r2 <;> cases hz
/-- a class of the text's own as a value -/
theorem me_cls {X : Cx} {E : Wh} {x : Str} {C : Addr} {pos : Pos} (hg : Gl X x) (hm : X.mg x = some (.ref C)) (hd : (x == ("__debug__" : Str)) = false := by decide) : ME X E (.Name x pos) (tC (.ref C)) (fun _ => .ok (.cls x)) :=
  ⟨pe_glob hg hm rfl hd, fun σ I H ρ Q re ex h => h.here ex (.cls hm)⟩

/-! #### try .. except X as e .. -/
/-- the clauses: the slot, the class, whether it is one's own, what the suite does -/
structure Cl where
  i : Nat
  own : Bool
  c : String
  h : Env → R Fl
def clA (M : List Nat) (i : Nat) (ρ ρ' : Env) : R Fl := match asgB ρ' with
  | some (j, d) => if d.scal = true ∧ j ∉ M then .ok (.nx ((ρ.set j (some d)).set i none)) else .stuck
  | none => .stuck
def clM (T : Str → Str → Option Bool) (B : Str → String → Option Bool) (M : List Nat) (n : Str) (ks : List Str) (es : List D) (ρ : Env) : List Cl → R Fl
  | [] => .err n [.obj n ks es]
  | k :: r => match (if k.own = true then T n k.c else B n k.c) with
    | some true => calm (k.h ((wipeE ρ M).set k.i (some (.exc n ks es)))) >>= fun f => match f with
      | .nx _ => .ok (.nx (ρ.set k.i none))
      | .rt d => if d.noX = true then .ok (.rt d) else .stuck
      | .bk ρ' => clA M k.i ρ ρ'
      | _ => .stuck
    | some false => clM T B M n ks es ρ r
    | none => .stuck
def tryM (T : Str → Str → Option Bool) (B : Str → String → Option Bool) (M : List Nat) (mb : Env → R Fl) (l : List Cl) (ρ : Env) : R Fl := match mb ρ with
  | .err n ds => match ds with
    | [.obj _ ks es] => clM T B M n ks es ρ l
    | _ => .stuck
  | .ok (.nx ρ) => .ok (.nx ρ)
  | .ok (.rt d) => .ok (.rt d)
  | _ => .stuck
/-- the clauses' texts -/
inductive ClOk (X : Cx) : List ExceptHandler → List (Nat × Value × (Addr → Value → Option Addr → TS)) → List Cl → Prop
  | nil : ClOk X [] [] []
  | cons {x : String} {n : Str} {c : Value} {i : Nat} {o : Bool} {ts : Addr → Value → Option Addr → TS} {mh : Env → R Fl} {b₀ : Stmt} {suite : List Stmt} {np pos' : Pos} {hds : List ExceptHandler} {l : List (Nat × Value × (Addr → Value → Option Addr → TS))} {ms : List Cl} (hc : Names X x c) (ho : if o = true then X.mg x = some c else c = .type x) (hi : X.N[i]? = some n) (hln : X.env.kindOf n = some .local)
      (hsu : ∀ (a : Addr) (oe : Obj) (cls : Value) (d : Option Addr) (pn : List (Addr × Obj)), Zc cls d oe → (∃ vs, oe.data = .fields vs) → PySem.PXN.CtxN oe → MHs (X.suite a ((a, oe) :: pn)) (xcV a cls d) (b₀ :: suite) (ts a cls d) mh) (r : ClOk X hds l ms) :
      ClOk X (.ExceptHandler (some (.Name x np)) (some n) (b₀ :: suite) pos' :: hds) ((i, c, ts) :: l) (⟨i, o, x, mh⟩ :: ms)
theorem ClOk.ass {X : Cx} {hds : List ExceptHandler} {l : List (Nat × Value × (Addr → Value → Option Addr → TS))} {ms : List Cl} (h : ClOk X hds l ms) : AsOk X hds l := by
  induction h with
  | nil => exact .nil
  | cons hc ho hi hln hsu r ih => exact .cons hc hi hln (fun a oe cls d pn hz hf hx => (hsu a oe cls d pn hz hf hx).pe) ih
theorem SE.unset {K : PySem.W.Frag} {mg : Gm} {M : List Nat} {Ie : Hp × Addr} {He I H : Hp} {σ τ : L2.St} {ρ : Env} {i : Nat} (s : SE K mg M Ie He σ I H ρ) (hi : i ∉ M) (hl : τ.length = σ.length) (h : ∀ j, j ≠ i → τ[j]? = σ[j]?) : SE K mg M Ie He τ I H (ρ.set i none) where
  st := s.st
  len := by rw [List.length_set, hl, s.len]
  imm := fun j d hj q => by
    by_cases e : i = j
    · subst e
      by_cases hl : i < ρ.length
      · rw [List.getElem?_set_self hl] at q
        cases q
      · rw [List.getElem?_eq_none (by rw [List.length_set]; omega)] at q
        cases q
    · rw [List.getElem?_set_ne e] at q
      rw [h j (Ne.symm e)]
      exact s.imm j d hj q
  own_ := fun j d hj q => by
    have e : i ≠ j := fun z => hi (z ▸ hj)
    rw [List.getElem?_set_ne e] at q
    rw [h j (Ne.symm e)]
    exact s.own_ j d hj q
  dis := fun j k p p' d e hj hk hne q1 q2 h1 h2 => by
    have n1 : i ≠ j := fun z => hi (z ▸ hj)
    have n2 : i ≠ k := fun z => hi (z ▸ hk)
    rw [List.getElem?_set_ne n1] at q1
    rw [List.getElem?_set_ne n2] at q2
    rw [h j (Ne.symm n1)] at h1
    rw [h k (Ne.symm n2)] at h2
    exact s.dis j k p p' d e hj hk hne q1 q2 h1 h2
  slf := fun j e p hj q g => by
    have hne : i ≠ j := fun z => hi (z ▸ hj)
    rw [List.getElem?_set_ne hne] at q
    rw [h j (Ne.symm hne)] at g
    exact s.slf j e p hj q g
theorem RE.more {K : PySem.W.Frag} {m : Str → Option Value} {x : Addr → Option (Addr × Addr)} {I : Hp} {σ : L2.St} {ρ : Env} (h : RE K (g0 m) I σ ρ) : RE K ⟨m, x⟩ I σ ρ := ⟨h.len, fun i d q => by
  obtain ⟨v, a, b⟩ := h.at_ i d q
  exact ⟨v, a, b.more⟩⟩
theorem scal_noX {d : D} (h : d.scal = true) : d.noX = true := by
  cases d <;> first | rfl | cases h
theorem clA_sn {K : PySem.W.Frag} {m : Str → Option Value} {x : Addr → Option (Addr × Addr)} {E : XK} {Mb M : List Nat} {Ie : Hp × Addr} {He I0 I H : Hp} {D0 : Ends} {σ : L2.St} {ρ ρ' : Env} {i : Nat} {a : V} (s : SE K (g0 m) M Ie He σ I H ρ) (k0 : Same I0 I) (hiM : i ∉ M) (q : OutS K (g0 m) E Mb M Ie He I0 D0 (clA M i ρ ρ')) :
    match asgB ρ' with
    | some (j, d) => ∀ v I' H', Stp I H I' H' → Rep K ⟨m, x⟩ I' v d → D0.nx (((σ.set i (some a)).set j (some v)).set i none) H'
    | none => False := by
  unfold clA at q
  cases ea : asgB ρ' with
  | none =>
    rw [ea] at q
    exact q
  | some jd =>
    obtain ⟨j, d⟩ := jd
    rw [ea] at q
    obtain ⟨⟨h1, h3⟩, q⟩ := outS_if q
    have q : ∀ σ I H, SE K (g0 m) M Ie He σ I H ((ρ.set j (some d)).set i none) → Same I0 I → D0.nx σ H := q
    intro v I' H' t rv
    refine q _ I' H' (((s.step t).set h3 (rv.noX (scal_noX h1))).unset hiM (by simp only [List.length_set]) fun k hk => ?_) (k0.trans t.i)
    by_cases e : j = k
    · subst e
      rw [List.getElem?_set_ne (Ne.symm hk), List.getElem?_set, if_pos rfl, List.getElem?_set, if_pos rfl, List.length_set]
    · rw [List.getElem?_set_ne (Ne.symm hk), List.getElem?_set_ne e, List.getElem?_set_ne (Ne.symm hk), List.getElem?_set_ne e]
/-- the clauses' reading at an error -/
theorem cl_sn {X : Cx} {E : XK} {Mb M : List Nat} {T : Str → Str → Option Bool} {B : Str → String → Option Bool} (S : XSub X.K X.mg T B) {Ie : Hp × Addr} {He I0 : Hp} {D0 : Ends} {σ : L2.St} {ρ : Env} {n : Str} {ks : List Str} {es : List D} {C : Value} {od : Option Addr} {I H : Hp} (s : SE X.K (g0 X.mg) M Ie He σ I H ρ) (k0 : Same I0 I) (xr : XRep X.K (g0 X.mg) I H n [.obj n ks es] C od) :
    ∀ {hds : List ExceptHandler} {l : List (Nat × Value × (Addr → Value → Option Addr → TS))} {ms : List Cl}, ClOk X hds l ms → (∀ k ∈ ms, k.i ∉ M) → OutS X.K (g0 X.mg) E Mb M Ie He I0 D0 (clM T B M n ks es ρ ms) → wAss X.K (fun cls d _ H => E cls d H) D0 l C od σ H := by
  intro hds l ms h
  induction h with
  | nil => exact fun _ q => q C od I H s.st xr
  | @cons x nn c i o ts mh b₀ suite np pos' hds l ms hc ho hi hln hsu r ih =>
    intro hM q
    obtain ⟨d, fs, es', rfl, hd, he, ra⟩ := xr.d
    obtain ⟨hcn, C0, rfl⟩ := xr.c
    cases he
    have hiM : i ∉ M := hM ⟨i, o, x, mh⟩ List.mem_cons_self
    have ek : ∀ b, (if o = true then T n x else B n x) = some b → PySem.W.exmOne X.K (.ref C0) c = some b := fun b e => by
      cases o with
      | true => exact (S.own n x b C0 c e hcn ho).2
      | false =>
        have ho : c = .type x := ho
        subst ho
        exact (S.bt n x b C0 e hcn).2
    have q : OutS X.K (g0 X.mg) E Mb M Ie He I0 D0 (match (if o = true then T n x else B n x) with
      | some true => calm (mh ((wipeE ρ M).set i (some (.exc n (fs.map (·.1)) es)))) >>= fun f => match f with
        | .nx _ => .ok (.nx (ρ.set i none))
        | .rt d => if d.noX = true then .ok (.rt d) else .stuck
        | .bk ρ' => clA M i ρ ρ'
        | _ => .stuck
      | some false => clM T B M n (fs.map (·.1)) es ρ ms
      | none => .stuck) := q
    cases eb : (if o = true then T n x else B n x) with
    | none =>
      rw [eb] at q
      exact q.elim
    | some b =>
      rw [eb] at q
      refine ⟨b, ek b eb, fun hb a ha => ?_, fun hb => ?_⟩
      · subst hb
        have q : OutS X.K (g0 X.mg) E Mb M Ie He I0 D0 (calm (mh ((wipeE ρ M).set i (some (.exc n (fs.map (·.1)) es)))) >>= fun f => match f with
          | .nx _ => .ok (.nx (ρ.set i none))
          | .rt d => if d.noX = true then .ok (.rt d) else .stuck
          | .bk ρ' => clA M i ρ ρ'
          | _ => .stuck) := q
        have re := (RE.more (x := xcV a (.ref C0) (some d)) s.re).set (i := i) (v := .ref a) (d := .exc n (fs.map (·.1)) es) (Rep.exc (mg := ⟨X.mg, xcV a (.ref C0) (some d)⟩) xcV_at hcn hd ra.more)
        refine (hsu a { cls := .ref C0, dict := some d, data := .fields #[.none, .none, .none] } (.ref C0) (some d) [] ⟨rfl, rfl⟩ ⟨_, rfl⟩ (fun vs e => by cases e; rfl)).sn _ I H _ _ re s.st.e ?_
        cases e : mh ((wipeE ρ M).set i (some (.exc n (fs.map (·.1)) es))) with
        | err _ _ =>
          rw [e] at q
          exact q.elim
        | stuck =>
          rw [e] at q
          exact q.elim
        | ok f =>
          rw [e] at q
          cases f with
          | nx ρ' =>
            have q : ∀ σ I H, SE X.K (g0 X.mg) M Ie He σ I H (ρ.set i none) → Same I0 I → D0.nx σ H := q
            exact fun I' H' t => q _ I' H' ((s.step t).unset hiM (by rw [List.length_set, List.length_set]) fun j hj => by rw [List.getElem?_set_ne (Ne.symm hj), List.getElem?_set_ne (Ne.symm hj)]) (k0.trans t.i)
          | rt r =>
            have q : OutS X.K (g0 X.mg) E Mb M Ie He I0 D0 (if r.noX = true then .ok (.rt r) else .stuck) := q
            obtain ⟨hx, q⟩ := outS_if q
            exact fun v I' H' t rv => q v I' H' (s.st.trans t) (rv.noX hx)
          | bk ρ' =>
            have q : OutS X.K (g0 X.mg) E Mb M Ie He I0 D0 (clA M i ρ ρ') := q
            exact clA_sn s k0 hiM q
          | rf _ => exact q.elim
          | rd _ => exact q.elim
          | ct _ => exact q.elim
      · subst hb
        exact ih (fun k hk => hM k (List.mem_cons_of_mem _ hk)) q
theorem ms_try {X : Cx} {E : XK} {Mb M : List Nat} {body : List Stmt} {h₀ : ExceptHandler} {hds : List ExceptHandler} {l : List (Nat × Value × (Addr → Value → Option Addr → TS))} {ms : List Cl} {pos : Pos} {tb : WX → TS} {mb : Env → R Fl} {T : Str → Str → Option Bool} {B : Str → String → Option Bool} (S : XSub X.K X.mg T B) (hb : MYs X M body tb mb) (hc : ClOk X (h₀ :: hds) l ms) (tk : L2N.Takes X (fun cls d _ H => E cls d H)) (hN : X.N.Nodup) (hM : ∀ k ∈ ms, k.i ∉ M := by decide) (hs : X.stack = X.env :: X.outer := by rfl) (hf : X.env.frame = some X.env.locals := by rfl) :
    MS X E Mb M M (.Try body (h₀ :: hds) [] [] pos) (fun D σ H => tb (wAss X.K (fun cls d _ H => E cls d H) D l) D σ H) (tryM T B M mb ms) :=
  ⟨ps_try_ass hs hf hN tk hb.pe hc.ass, fun Ie He σ I H ρ D0 s q => by
    refine hb.sn _ Ie He σ I H ρ D0 s ?_
    unfold tryM at q
    cases e : mb ρ with
    | ok f =>
      rw [e] at q
      cases f with
      | nx ρ' => exact q
      | rt d => exact q
      | bk ρ' => exact q.elim
      | rf _ => exact q.elim
      | rd _ => exact q.elim
      | ct ρ' => exact q.elim
    | stuck =>
      rw [e] at q
      exact q.elim
    | err n ds =>
      rw [e] at q
      intro C od I' H' s' k' xr
      obtain ⟨d, fs, es', rfl, hd, rfl, ra⟩ := xr.d
      exact cl_sn S s' k' xr hc hM q⟩
end DL
namespace DL
open PySem PySem.Spec PyProof.Rows L2

/-! ### truth -/
def truD : D → R Bool
  | .bl b => .ok b
  | .int i => .ok (i != 0)
  | .non => .ok false
  | _ => .stuck
def tru (a : R D) : R Bool := a >>= truD
@[simp] theorem tru_ok (d : D) : tru (.ok d) = truD d := rfl
theorem mt_truth {X : Cx} {E : Wh} {e : Expr} {t : TE} {m : Env → R D} (h : ME X E e t m) (he : ∀ whole, isTrue e X.env whole = (do let v ← whole; standAt e.pos; holding [v] (truthy v)) := by intro _; rfl) : MT X E e (fun σ H Q => t σ H fun x H' => ∃ k, TruV X.K x H' k ∧ Q k H') (fun ρ => tru (m ρ)) := by
  obtain ⟨pt, st⟩ := h
  refine ⟨pt_truth pt he, fun σ I H ρ Q re ex h => ?_⟩
  refine st.run re ex h fun d v I1 H1 _ st rx h => ?_
  cases rx with
  | bl k => exact ⟨k, rfl, h.here st.e rfl⟩
  | int i => exact ⟨(i != 0), rfl, h.here st.e rfl⟩
  | non => exact ⟨false, rfl, h.here st.e rfl⟩
  | _ => exact h.elim

/-! ### any, all over bools and ints -/
inductive Tru1 : V → Value → Bool → Prop
  | bl (b : Bool) : Tru1 (.bl b) (.bool b) b
  | int (i : Int) (t : Tok) : Tru1 (.int i) (.int i t) (i != 0)
end DL
namespace DL
open PySem PySem.Spec PyProof.Rows L2

/-- a method of a class of the text's own -/
structure MtAt (P : Program) (w : World) (K : PySem.W.Frag) (mg : Str → Option Value) (base : Heap) (n : Str) (C : Addr) (m : Str) (k na : Nat) (g : List D → R D) : Prop where
  ex : ∃ f fd ps, mg n = some (.ref C) ∧ Cls K C ∧ Meth K C m f ∧ FnOk P w K mg base (L2N.CX P w) k f fd ps (spOf K (g0 mg) na g) ∧ Binds K fd ps []
section
variable {X : Cx} {E : Wh} {P : Program} {w : World} {K : PySem.W.Frag} {mg : Str → Option Value} {base : Heap} {k j na : Nat} {g : List D → R D} {n m : Str} {C : Addr} {pos apos p : Pos} {e o : Expr} {es : List Expr} {ta : TE} {tas : TA} {ma : Env → R D} {ms : Env → R (List D)}
/-! ### properties -/
structure PrAt (P : Program) (w : World) (K : PySem.W.Frag) (mg : Str → Option Value) (base : Heap) (n : Str) (C : Addr) (m : Str) (k : Nat) (g : List D → R D) : Prop where
  ex : ∃ p f fd ps, mg n = some (.ref C) ∧ Cls K C ∧ PropOf K C m p f ∧ FnOk P w K mg base (L2N.CX P w) k f fd ps (spOf K (g0 mg) 1 g) ∧ Binds K fd ps []
end
/-! ### class methods -/
structure CmAt (P : Program) (w : World) (K : PySem.W.Frag) (mg : Str → Option Value) (base : Heap) (n : Str) (C : Addr) (m : Str) (k na : Nat) (g : List D → R D) : Prop where
  ex : ∃ mc p f fd ps, mg n = some (.ref C) ∧ ClX.CRead K C mc ∧ ClX.CMet K C mc m p f ∧ FnOk P w K mg base (L2N.CX P w) k f fd ps (spOf K (g0 mg) na g) ∧ Binds K fd ps []
section
variable {X : Cx} {E : XK} {P : Program} {w : World} {K : PySem.W.Frag} {mg : Str → Option Value} {base : Heap} {k j na : Nat} {g : List D → R D} {n m : Str} {C : Addr} {pos apos p : Pos} {e o : Expr} {es : List Expr} {ta : TE} {tas : TA} {ma : Env → R D} {ms : Env → R (List D)}
end
/-! ### isinstance with classes of the text's own -/
structure OcOk (K : PySem.W.Frag) (C : Addr) : Prop where
  c : Cls K C
  a : PySem.W.findIn K (.ref C) "__class__" = some (some (.builtin "object.__class__"))
  s : PySem.W.specialIn K (.builtin "object.__class__") "__get__" = some (some (.builtin "getset_descriptor.__get__"))
  t : PySem.W.takesIn K (.builtin "object.__class__") = some true
  m : PySem.W.mroIn K C (.type "object") = some true
/-- which class is below which; what of an object of one's own and a built-in class; what of a built-in thing and a class of one's own -/
structure OSub (K : PySem.W.Frag) (mg : Str → Option Value) (T : Str → Str → Option Bool) (B : Str → String → Option Bool) (Z : String → Str → Option Bool) : Prop where
  cl : ∀ n C, (∃ c b, T n c = some b) ∨ (∃ c b, B n c = some b) → mg n = some (.ref C) → OcOk K C
  own : ∀ n c b C u, T n c = some b → mg n = some (.ref C) → mg c = some u → PySem.W.kitOne K (.ref C) u = some b
  bt : ∀ n c b C, B n c = some b → mg n = some (.ref C) → PySem.W.kitOne K (.ref C) (.type c) = some b
  bo : ∀ t c b u, Z t c = some b → mg c = some u → PySem.W.kitOne K (.type t) u = some b
def isoD (T : Str → Str → Option Bool) (B : Str → String → Option Bool) (Z : String → Str → Option Bool) : List D → R D
  | [.obj n ks ds, .cls c] => match T n c with | some b => .ok (.bl b) | none => .stuck
  | [.obj n ks ds, .ty c] => match B n c with | some b => .ok (.bl b) | none => .stuck
  | [x, .cls c] => match tyOf x with
    | some t => match Z t c with
      | some b => .ok (.bl b)
      | none => .stuck
    | none => .stuck
  | ds => isiD ds
theorem cs_iso {K : PySem.W.Frag} {gm : Gm} {T : Str → Str → Option Bool} {B : Str → String → Option Bool} {Z : String → Str → Option Bool} (S : OSub K gm.mg T B Z) : CSn K gm (rIsi K) (isoD T B Z) := by
  intro xs I H ds d Q ex rs h q
  unfold isoD at h
  split at h
  · rename_i n ks es c
    obtain ⟨v, w, rfl, r, r2⟩ := reps2 rs
    cases r with
    | @obj a C dx n fs es ha hc ra =>
      cases r2 with
      | @cls c C2 hc2 =>
        cases e : T n c with
        | none =>
          rw [e] at h
          cases h
        | some b =>
          rw [e] at h
          cases h
          have k := S.cl n C (.inl ⟨c, b, e⟩) hc
          exact ⟨_, _, _, _, b, rfl, .own C2, .base (.ins (ex _ _ ha) k.c k.a k.s k.t k.m), S.own n c b C _ e hc hc2, q _ _ _ (.refl ex) (.bl _)⟩
  · rename_i n ks es c
    obtain ⟨v, w, rfl, r, r2⟩ := reps2 rs
    cases r with
    | @obj a C dx n fs es ha hc ra =>
      cases r2 with
      | ty c =>
        cases e : B n c with
        | none =>
          rw [e] at h
          cases h
        | some b =>
          rw [e] at h
          cases h
          have k := S.cl n C (.inr ⟨c, b, e⟩) hc
          exact ⟨_, _, _, _, b, rfl, .ty c, .base (.ins (ex _ _ ha) k.c k.a k.s k.t k.m), S.bt n c b C e hc, q _ _ _ (.refl ex) (.bl _)⟩
  · rename_i x c _
    obtain ⟨v, w, rfl, r, r2⟩ := reps2 rs
    cases r2 with
    | @cls c C2 hc2 =>
      cases e : tyOf x with
      | none =>
        rw [e] at h
        cases h
      | some t =>
        rw [e] at h
        have h : (match Z t c with | some b => R.ok (D.bl b) | none => .stuck) = R.ok d := h
        cases e2 : Z t c with
        | none =>
          rw [e2] at h
          cases h
        | some b =>
          rw [e2] at h
          cases h
          exact ⟨_, _, _, _, b, rfl, .own C2, (r.mono ex).tyx e, S.bo t c b _ e2 hc2, q _ _ _ (.refl ex) (.bl _)⟩
  · exact cs_isi xs I H ds d Q ex rs h q
end DL
namespace DL
open PySem PySem.Spec PyProof.Rows L2

/-! ### {k: v for ..} with tuples as keys -/
def tDcT (wi : TI) (g : TG) (tt : TT) (tk tv : TE) (vs : List Nat) : TE := fun σ H Q => wi σ H fun J H1 => ∀ D, H1 D = none →
  ∃ W : Nat → Nat → Hp → Prop, (∃ m, W 0 m (upd H1 D (.dT []))) ∧ ∀ i m H, W i m H → (J.stop i H ∧ Q (.ref D) H) ∨ (J.go i H ∧ ∃ Nx : Hp → Prop, (∀ H', Nx H' → ∃ m', m' < m ∧ W (i + 1) m' H') ∧
    ∀ x H', J.yld i H x H' → g x (wipe σ vs) H' fun σ2 H2 => wipe σ2 vs = wipe σ vs ∧ tt σ2 H2 fun b H3 => if b = true then tk σ2 H3 fun y H4 => tv σ2 H4 fun z H5 => ∃ (kvs : List (List Key × V)) (k : List Key) (q : Addr), y = .ref q ∧ H5 q = some (.tup (k.map kV)) ∧ H5 D = some (.dT kvs) ∧ kvs.length < sizeLine ∧ Nx (upd H5 D (.dT (putK kvs k z))) else Nx H3)
theorem dt_dictSet {X : Cx} {pins : List (Addr × Obj)} {σ : L2.St} {H : Hp} {s : Shared} {E : Value → Shared → Prop} {D b : Addr} {kvs : List (List Key × V)} {k : List Key} {v : V} {r : Value} {Q : Unit → Shared → Prop} (hu : X.A.units + 1 < cLine) (I : L2.Inv X pins σ H s) (e : H D = some (.dT kvs)) (eb : H b = some (.tup (k.map kV))) (hz : kvs.length < sizeLine) (rv : RelV v r) (h : ∀ s', L2.Inv X pins σ (upd H D (.dT (putK kvs k v))) s' → Q () s') :
    wpAny (model X.prog X.w) X.A (dictSet D (.ref b) r) Q E s := by
  obtain ⟨z, hd, xs, rel, dd⟩ := dt_of I.hok e
  have hz2 : xs.length ≤ sizeLine := by
    rw [← Paired.length rel]
    exact z
  have hl : (putK kvs k v).length ≤ sizeLine := by
    have := length_putK kvs k v
    omega
  refine wpAny_dictSet_heap ?_ (key_of I.hok eb) dd (fun h' dd' hs => ?_) hz2
  · exact Nat.lt_of_succ_lt hu
  · refine h { heap := h', gens := s.gens, drawn := s.drawn, toks := _, os := s.os } ?_
    obtain ⟨q, es, ep, hq, h2, h3, h4, h5⟩ := dd'
    refine d_write I (by rw [e]; trivial) hs ⟨q, hq⟩ ⟨hl, hd, storedH xs k b r, ?_, q, es, ep, hq, h2, h3, h4, h5.2⟩
    refine KT.keeps (KT.put rel k eb rv) fun c ys ec => ?_
    rw [upd_ne (ne_of ec e fun z => nomatch z)]
    exact ec
theorem pe_dcT {X : Cx} {kx vx tg iter : Expr} {ifs : List Expr} {scope : Scope} {own : List (Str × Nat)} {pos : Pos} {wi : TI} {g : TG} {tt : TT} {tk tv : TE} (hu : X.A.units + 1 < cLine) (hc : X.calm = true) (hN : X.N.Nodup) (hi : PI X tg iter wi) (ok : BlkOk X.N X.env.scope scope own)
    (hg : ∀ (s : Shared) (H : Hp) (C : Addr) (cl : List (Str × Addr)) (fp : List Addr), PG (X.blk s H scope (compEnvC scope cl C X.env) fp) tg g) (ht : ∀ (s : Shared) (H : Hp) (C : Addr) (cl : List (Str × Addr)) (fp : List Addr), PTs (X.blk s H scope (compEnvC scope cl C X.env) fp) ifs tt)
    (hk : ∀ (s : Shared) (H : Hp) (C : Addr) (cl : List (Str × Addr)) (fp : List Addr), PE (X.blk s H scope (compEnvC scope cl C X.env) fp) kx tk) (he : ∀ (s : Shared) (H : Hp) (C : Addr) (cl : List (Str × Addr)) (fp : List Addr), PE (X.blk s H scope (compEnvC scope cl C X.env) fp) vx tv) (hs : ∀ x, foldedSetIterable iter X.env x = pure x := by intro _; rfl) :
    PE X (.DictComp kx vx [⟨tg, iter, ifs, 0⟩] scope pos) (tDcT wi g tt tk tv (own.map (·.2))) := by
  refine ⟨fun pins s σ H Q I h => ?_⟩
  rw [arm_eval_DictComp]
  have hfree : ∀ (y : Str × NameKind), y ∈ scope.names → y.snd = NameKind.free → ∃ c, List.lookup y.fst X.env.cells = some c := fun y hy e => by
    rcases ok.free y hy e with k | k
    · exact I.ok.has y.fst (.inl k)
    · exact I.ok.has y.fst (.inr k)
  refine wpAny_comprehension_free rfl hs (closure_ok hfree) ok.kind (fun y hy e => by rw [ok.uniq y hy, e]) (thn (hi.run pins s σ H _ I h) fun xv s1 hx => thn hx fun itv s2 h2 => ?_)
  obtain ⟨it, fp, tn, J, H2, rfl, I2, T, st2, f2, q⟩ := h2
  refine wpAny_newObj_type (newEnv_comp ?_)
  have hDn : H2 s2.heap.objs.size = none := HOk.fresh I2.hok (Nat.le_refl _)
  obtain ⟨W, ⟨m0, w0⟩, turn⟩ := q s2.heap.objs.size hDn
  have I3 : L2.Inv X pins σ (upd H2 s2.heap.objs.size (.dT [])) { heap := s2.heap.push { cls := .type "dict", data := .dict #[] }, gens := s2.gens, drawn := s2.drawn, toks := s2.toks, os := s2.os } := Inv.laid I2 (fun b o e => Heap.get?_push_of_some _ e) (Nat.le_refl _) (dt_empty s2.heap (Inv.big I2))
  generalize hS : ({ heap := s2.heap.push { cls := .type "dict", data := .dict #[] }, gens := s2.gens, drawn := s2.drawn, toks := s2.toks, os := s2.os } : Shared) = S3 at I3 ⊢
  have h3 : S3.heap = s2.heap.push { cls := .type "dict", data := .dict #[] } := by rw [← hS]
  have f3 : ∀ b ∈ fp, FpOk X pins (upd H2 s2.heap.objs.size (.dT [])) b ∧ b < S3.heap.objs.size := fun b hb => by
    obtain ⟨o, e, _⟩ := T.obj 0 s2.heap st2 b hb
    have hlt := Heap.lt_size e
    refine ⟨⟨?_, (f2 b hb).2⟩, ?_⟩
    · rw [upd_ne (Nat.ne_of_lt hlt)]
      exact (f2 b hb).1
    · rw [h3, Heap.size_push]
      exact Nat.lt_succ_of_lt hlt
  have st3 := T.keep 0 s2.heap S3.heap st2 fun b x o e => by
    rw [h3]
    exact Heap.get?_push_of_some _ e
  have I4 := block_start I3 ok hN f3
  have pg := hg S3 (upd H2 s2.heap.objs.size (.dT [])) S3.heap.objs.size (cellsFrom (S3.heap.objs.size + 1) scope.names (cloFrom X.env.cells scope.names [])) fp
  have pt := ht S3 (upd H2 s2.heap.objs.size (.dT [])) S3.heap.objs.size (cellsFrom (S3.heap.objs.size + 1) scope.names (cloFrom X.env.cells scope.names [])) fp
  have pk := hk S3 (upd H2 s2.heap.objs.size (.dT [])) S3.heap.objs.size (cellsFrom (S3.heap.objs.size + 1) scope.names (cloFrom X.env.cells scope.names [])) fp
  have pe := he S3 (upd H2 s2.heap.objs.size (.dT [])) S3.heap.objs.size (cellsFrom (S3.heap.objs.size + 1) scope.names (cloFrom X.env.cells scope.names [])) fp
  show codeAny (model X.prog X.w) X.A (.compStart (.DictComp kx vx [⟨tg, iter, ifs, 0⟩] scope pos) 0 (.ref it) (.ref s2.heap.objs.size) (compEnvC scope (cellsFrom (S3.heap.objs.size + 1) scope.names (cloFrom X.env.cells scope.names [])) S3.heap.objs.size X.env)) _ _
  have cL : (compEnvC scope (cellsFrom (S3.heap.objs.size + 1) scope.names (cloFrom X.env.cells scope.names [])) S3.heap.objs.size X.env).locals = S3.heap.objs.size := rfl
  generalize hCE : compEnvC scope (cellsFrom (S3.heap.objs.size + 1) scope.names (cloFrom X.env.cells scope.names [])) S3.heap.objs.size X.env = CE at I4 pg pt pk pe cL ⊢
  have nfp : ∀ b ∈ fp, (upd H2 s2.heap.objs.size (.dT [])) b = none := fun b hb => (f3 b hb).1.1
  have st4 := T.keep 0 S3.heap (pushCells (S3.heap.push { cls := .type "dict", data := .dict #[] }) scope.names) st3 fun b x o e => pushCells_keeps scope.names _ b o (Heap.get?_push_of_some _ e)
  have stat : ∀ {σ' : L2.St} {H' : Hp} {s' : Shared}, L2.Inv (X.blk S3 (upd H2 s2.heap.objs.size (.dT [])) scope CE fp) [] σ' H' s' → (∀ b ∈ fp, H' b = none) → ∀ b ∈ fp, FpOk (X.blk S3 (upd H2 s2.heap.objs.size (.dT [])) scope CE fp) [] H' b := fun I' hn b hb => ⟨hn b hb, (I'.ok.exf b hb).1, I'.ok.exfs b hb, .inl hb, fun x c e => (I'.ok.exf b hb).2 x c e, fun p hp => absurd hp (by simp)⟩
  have loop := compLoop_anyD (R := compPost (model X.prog X.w) X.A X.xe none (EP X pins σ Q) (.ref s2.heap.objs.size) S3.heap.objs.size) (kx := kx) (vx := vx) (target := tg) (iter := iter) (ifs := ifs) (scope := scope) (pos := pos) (it := .ref it) (D := s2.heap.objs.size) (env := CE)
    (fun n s' => ∃ i H', L2.Inv (X.blk S3 (upd H2 s2.heap.objs.size (.dT [])) scope CE fp) [] (wipe σ (own.map (·.2))) H' s' ∧ tn i s'.heap ∧ (∀ b ∈ fp, H' b = none) ∧ W i n H')
    (fun n s5 ⟨i, H5, I5, st5, n5, w5⟩ => by
      rcases turn i n H5 w5 with ⟨stop, qq⟩ | ⟨go, Nx, hNx, step⟩
      · have td := T.done (X.blk S3 (upd H2 s2.heap.objs.size (.dT [])) scope CE fp) rfl rfl rfl hc i [] s5 _ H5 (fun _ _ => False) I5 (stat I5 n5) st5 stop
        refine thnF td fun r s6 hh => ?_
        obtain ⟨rfl, I6⟩ := hh
        have I7 := Inv.call' I3 I6.os I6.base I6.hok I6.bare fun b hb => ⟨(f3 b hb).1.2.2.2.1, (f3 b hb).1.2.1, (f3 b hb).1.2.2.2.2.1, (f3 b hb).1.2.2.2.2.2⟩
        have nC : H5 S3.heap.objs.size = none := by
          have z := I6.free
          rw [← cL]
          exact z
        obtain ⟨m, hn, _⟩ := I6.loc
        have hn : s6.heap.Ns CE.locals m := hn
        rw [cL] at hn
        obtain ⟨g0, g1, g2, g3, g4, g5⟩ := Inv.fpOk I3 (Nat.le_refl _) nC
        exact ⟨m, hn, fun h'' sb => ⟨.ref s2.heap.objs.size, H5, Inv.turned I7 (fun b o hb e => (sb.right b hb).trans e) g0 g1 g3 g4 g5, rfl, qq⟩⟩
      · have ti := T.item (X.blk S3 (upd H2 s2.heap.objs.size (.dT [])) scope CE fp) rfl rfl rfl hc i [] s5 _ H5 (fun _ _ => False) I5 (stat I5 n5) st5 go
        refine thnF ti fun r s6 hh => ?_
        obtain ⟨u, rfl, h6⟩ := hh
        refine thnF h6 fun _ s7 hh => ?_
        obtain ⟨x, H7, I7, r7, y7, st7, n7⟩ := hh
        have I7' := Inv.pinned I7 (stat I7 n7) (T.obj (i + 1) s7.heap st7)
        refine thnF (pg.run ([] ++ pinsAt fp s7.heap) s7 _ H7 x u _ I7' r7 (step x H7 y7)) fun _ s8 hh => ?_
        obtain ⟨σ8, H8, I8, hw8, q8⟩ := hh
        refine thnF (pt.run ([] ++ pinsAt fp s7.heap) s8 σ8 H8 _ I8 q8) fun b s9 hh => ?_
        obtain ⟨H9, I9, q9⟩ := hh
        have fin : ∀ {s' : Shared} {H' : Hp}, L2.Inv (X.blk S3 (upd H2 s2.heap.objs.size (.dT [])) scope CE fp) ([] ++ pinsAt fp s7.heap) σ8 H' s' → Nx H' → ∃ m, m < n ∧ ∃ i H', L2.Inv (X.blk S3 (upd H2 s2.heap.objs.size (.dT [])) scope CE fp) [] (wipe σ (own.map (·.2))) H' s' ∧ tn i s'.heap ∧ (∀ b ∈ fp, H' b = none) ∧ W i m H' := by
          intro s' H' I' nx
          obtain ⟨m', hm, w'⟩ := hNx _ nx
          have pin' : ∀ b ∈ fp, ∀ o, s7.heap.get? b = some o → s'.heap.get? b = some o ∧ H' b = none := fun b hb o e => by
            have z := I'.pin (b, o) (List.mem_append_right _ (List.mem_append_right [] (mem_pinsAt hb e)))
            exact ⟨z.1, z.2.1⟩
          have hl : (wipe σ (own.map (·.2))).length = σ8.length := by rw [← hw8, wipe_length]
          refine ⟨m', hm, i + 1, H', Inv.weak (Inv.unpinned I') hl (fun j v e => (wipe_some (by rw [← hw8] at e; exact e)).1), T.keep (i + 1) s7.heap s'.heap st7 (fun b hb o e => (pin' b hb o e).1), fun b hb => ?_, w'⟩
          obtain ⟨o, e, _⟩ := T.obj (i + 1) s7.heap st7 b hb
          exact (pin' b hb o e).2
        cases b with
        | false => exact fin I9 q9
        | true =>
          refine thnF (pk.run ([] ++ pinsAt fp s7.heap) s9 σ8 H9 _ I9 q9) fun z s10 hh => ?_
          obtain ⟨yk, H10, I10, r10, q10⟩ := hh
          refine thnF (pe.run ([] ++ pinsAt fp s7.heap) s10 σ8 H10 _ I10 q10) fun z2 s11 hh => ?_
          obtain ⟨yv, H11, I11, r11, kvs, k, q, ek, eq, hD, hz, nx⟩ := hh
          subst ek
          obtain rfl : z = Value.ref q := r10
          exact dt_dictSet (X := X.blk S3 (upd H2 s2.heap.objs.size (.dT [])) scope CE fp) hu I11 hD eq hz r11 fun s12 I12 => fin I12 nx) m0 ⟨0, _, I4, st4, nfp, w0⟩
  exact codeAny_compStart_dict loop (T.self X.A 0 _ _ _ st4 loop)
end DL
namespace DL
open PySem PySem.Spec PyProof.Rows L2

/-! ### walks over a dict's keys: the dict is locked meanwhile -/
def keyDD : Key → D
  | .inl i => .int i
  | .inr x => .str x
def keysI : D → R (List D)
  | .dk ks _ => .ok (ks.map keyDD)
  | .dt ks _ => .ok (ks.map fun k => .tup (k.map keyDD))
  | _ => .stuck
theorem rep_key {K : PySem.W.Frag} {mg : Gm} {I : Hp} (k : Key) : Rep K mg I (kV k) (keyDD k) := by
  cases k with
  | inl i => exact .int i
  | inr x => exact .str x
theorem reps_keys {K : PySem.W.Frag} {mg : Gm} {I : Hp} : ∀ k : List Key, Reps K mg I (k.map kV) (k.map keyDD)
  | [] => .nil
  | a :: k => .cons (rep_key a) (reps_keys k)
/-- a tuple that stands may be told -/
theorem Stp.tup {I H : Hp} {q : Addr} {vs : List V} (e : Same I H) (h : H q = some (.tup vs)) : ∃ I', Stp I H I' H ∧ I' q = some (.tup vs) := by
  cases z : I q with
  | some o =>
    have y := e _ _ z
    rw [h] at y
    cases y
    exact ⟨I, .refl e, z⟩
  | none =>
    refine ⟨upd I q (.tup vs), ⟨fun a o w => ?_, .refl _, fun a o w => ?_, fun a o w => ?_⟩, upd_same⟩
    · rw [upd_ne (fun t => by subst t; rw [z] at w; cases w)]
      exact w
    · by_cases t : a = q
      · subst t
        rw [upd_same] at w
        cases w
        exact h
      · rw [upd_ne t] at w
        exact e _ _ w
    · by_cases t : a = q
      · subst t
        rw [upd_same] at w
        cases w
        exact .inr (.inr trivial)
      · rw [upd_ne t] at w
        exact .inl w
theorem it_keys {K : PySem.W.Frag} {mg : Gm} {I : Hp} {d : Addr} {o : Obj} {kvs : List (Key × V)} (h : I d = some (.frz o (.dK kvs))) : ItOk K mg I (Itk d o kvs) ((kvs.map (·.1)).map keyDD) := by
  intro I1 H e1 e2
  refine ⟨fun i x hx => ?_, e2 _ _ (e1 _ _ h), by simp⟩
  rw [List.getElem?_map, List.getElem?_map] at hx
  cases z : kvs[i]? with
  | none =>
    rw [z] at hx
    cases hx
  | some kv =>
    rw [z] at hx
    cases hx
    have hl := (List.getElem?_eq_some_iff.mp z).1
    refine ⟨⟨e2 _ _ (e1 _ _ h), hl⟩, fun y H' hy => ?_⟩
    obtain ⟨rfl, k, v, hk, rfl⟩ := hy
    rw [z] at hk
    cases hk
    exact ⟨I1, .refl e2, rep_key k⟩
theorem it_keysT {K : PySem.W.Frag} {mg : Gm} {I : Hp} {d : Addr} {o : Obj} {kvs : List (List Key × V)} (h : I d = some (.frz o (.dT kvs))) : ItOk K mg I (Itkt d o kvs) ((kvs.map (·.1)).map fun k => .tup (k.map keyDD)) := by
  intro I1 H e1 e2
  refine ⟨fun i x hx => ?_, e2 _ _ (e1 _ _ h), by simp⟩
  rw [List.getElem?_map, List.getElem?_map] at hx
  cases z : kvs[i]? with
  | none =>
    rw [z] at hx
    cases hx
  | some kv =>
    rw [z] at hx
    cases hx
    have hl := (List.getElem?_eq_some_iff.mp z).1
    refine ⟨⟨e2 _ _ (e1 _ _ h), hl⟩, fun y H' hy => ?_⟩
    obtain ⟨rfl, k, v, q, hk, rfl, hq⟩ := hy
    rw [z] at hk
    cases hk
    obtain ⟨I2, s2, h2⟩ := Stp.tup e2 hq
    exact ⟨I2, s2, .tup h2 (reps_keys k)⟩
/-! #### a dict is locked: the data are the same -/
section
variable {K : PySem.W.Frag} {mg : Gm} {I : Hp} {a : Addr} {od : Obj} {u : HO}
/-- a dict as it stands -/
def DctO : HO → Prop
  | .dK _ => True
  | .dT _ => True
  | _ => False
theorem lock_ne {b : Addr} {o : HO} (hu : DctO u) (ha : I a = some u) (h : I b = some o) (ho : ¬ DctO o) : (upd I a (.frz od u)) b = some o := by
  by_cases e : b = a
  · subst e
    rw [ha] at h
    cases h
    exact absurd hu ho
  · rw [upd_ne e]
    exact h
theorem lock_rd {b : Addr} {o : HO} (hu : DctO u) (ha : I a = some u) (h : Rd I b o) (hno : ∀ f x, o ≠ .frz f x) : Rd (upd I a (.frz od u)) b o := by
  by_cases e : b = a
  · subst e
    rcases h with h | ⟨f, h⟩
    · rw [ha] at h
      cases h
      exact .inr ⟨od, upd_same⟩
    · rw [ha] at h
      cases h
      exact hu.elim
  · rcases h with h | ⟨f, h⟩
    · exact .inl (by rw [upd_ne e]; exact h)
    · exact .inr ⟨f, by rw [upd_ne e]; exact h⟩
mutual
theorem Rep.lock (hu : DctO u) (ha : I a = some u) : ∀ {v : V} {d : D}, Rep K mg I v d → Rep K mg (upd I a (.frz od u)) v d
  | _, _, .non => .non
  | _, _, .bl b => .bl b
  | _, _, .int i => .int i
  | _, _, .str x => .str x
  | _, _, .lst h r => .lst (lock_ne hu ha h id) (Reps.lock hu ha r)
  | _, _, .tup h r => .tup (lock_ne hu ha h id) (Reps.lock hu ha r)
  | _, _, .scr h => .scr (by
      rcases h with (h | ⟨o, h⟩) | h
      · exact .inl (.inl (lock_ne hu ha h id))
      · exact .inl (.inr ⟨o, lock_ne hu ha h id⟩)
      · exact .inr h)
  | _, _, .rng h => .rng (lock_ne hu ha h id)
  | _, _, .ty n => .ty n
  | _, _, .cls h => .cls h
  | _, _, .obj h c r => .obj (lock_ne hu ha h id) c (Reps.lock hu ha r)
  | _, _, .dk h r => .dk (lock_rd hu ha h fun _ _ => nofun) (Reps.lock hu ha r)
  | _, _, .dt h r => .dt (lock_rd hu ha h fun _ _ => nofun) (Reps.lock hu ha r)
  | _, _, .exc x n h r => .exc x n (lock_ne hu ha h id) (Reps.lock hu ha r)
theorem Reps.lock (hu : DctO u) (ha : I a = some u) : ∀ {vs : List V} {ds : List D}, Reps K mg I vs ds → Reps K mg (upd I a (.frz od u)) vs ds
  | _, _, .nil => .nil
  | _, _, .cons h r => .cons (Rep.lock hu ha h) (Reps.lock hu ha r)
end
theorem unlock_ne {b : Addr} {o : HO} (ha : I a = some (.frz od u)) (h : I b = some o) (ho : ∀ f x, o ≠ .frz f x) : (upd I a u) b = some o := by
  by_cases e : b = a
  · subst e
    rw [ha] at h
    cases h
    exact absurd rfl (ho od u)
  · rw [upd_ne e]
    exact h
theorem unlock_rd {b : Addr} {o : HO} (ha : I a = some (.frz od u)) (h : Rd I b o) (hno : ∀ f x, o ≠ .frz f x) : Rd (upd I a u) b o := by
  by_cases e : b = a
  · subst e
    rcases h with h | ⟨f, h⟩
    · rw [ha] at h
      cases h
      exact absurd rfl (hno od u)
    · rw [ha] at h
      cases h
      exact .inl upd_same
  · rcases h with h | ⟨f, h⟩
    · exact .inl (by rw [upd_ne e]; exact h)
    · exact .inr ⟨f, by rw [upd_ne e]; exact h⟩
mutual
theorem Rep.unlock (hu : DctO u) (ha : I a = some (.frz od u)) : ∀ {v : V} {d : D}, Rep K mg I v d → Rep K mg (upd I a u) v d
  | _, _, .non => .non
  | _, _, .bl b => .bl b
  | _, _, .int i => .int i
  | _, _, .str x => .str x
  | _, _, .lst h r => .lst (unlock_ne ha h fun _ _ => nofun) (Reps.unlock hu ha r)
  | _, _, .tup h r => .tup (unlock_ne ha h fun _ _ => nofun) (Reps.unlock hu ha r)
  | _, _, .scr (a := b) h => .scr (by
      rcases h with (h | ⟨o, h⟩) | h
      · exact .inl (.inl (unlock_ne ha h fun _ _ => nofun))
      · by_cases e : b = a
        · subst e
          rw [ha] at h
          cases h
          exact hu.elim
        · exact .inl (.inr ⟨o, by rw [upd_ne e]; exact h⟩)
      · exact .inr h)
  | _, _, .rng h => .rng (unlock_ne ha h fun _ _ => nofun)
  | _, _, .ty n => .ty n
  | _, _, .cls h => .cls h
  | _, _, .obj h c r => .obj (unlock_ne ha h fun _ _ => nofun) c (Reps.unlock hu ha r)
  | _, _, .dk h r => .dk (unlock_rd ha h fun _ _ => nofun) (Reps.unlock hu ha r)
  | _, _, .dt h r => .dt (unlock_rd ha h fun _ _ => nofun) (Reps.unlock hu ha r)
  | _, _, .exc x n h r => .exc x n (unlock_ne ha h fun _ _ => nofun) (Reps.unlock hu ha r)
theorem Reps.unlock (hu : DctO u) (ha : I a = some (.frz od u)) : ∀ {vs : List V} {ds : List D}, Reps K mg I vs ds → Reps K mg (upd I a u) vs ds
  | _, _, .nil => .nil
  | _, _, .cons h r => .cons (Rep.unlock hu ha h) (Reps.unlock hu ha r)
end
end
theorem lock_same {I H : Hp} {a : Addr} {u : HO} (e : Same I H) (hi : I a = some u) (o : HO) : Same (upd I a o) (upd H a o) := fun b w z => by
  by_cases t : b = a
  · subst t
    rw [upd_same] at z ⊢
    exact z
  · rw [upd_ne t] at z ⊢
    exact e _ _ z
/-- a step of the locked state is one of the state -/
theorem Stp.unlock {I H I' H' : Hp} {a : Addr} {f u : HO} (hI : I a = some u) (hH : H a = some u) (s : Stp (upd I a f) (upd H a f) I' H') : Stp I H (upd I' a u) (upd H' a u) := by
  have key : ∀ {J J' : Hp}, J a = some u → Same (upd J a f) J' → Same J (upd J' a u) := fun hJ e b w z => by
    by_cases t : b = a
    · subst t
      rw [hJ] at z
      cases z
      exact upd_same
    · rw [upd_ne t]
      exact e _ _ (by rw [upd_ne t]; exact z)
  refine ⟨key hI s.i, key hH s.h, fun b w z => ?_, fun b w z => ?_⟩
  · by_cases t : b = a
    · subst t
      rw [upd_same] at z ⊢
      exact z
    · rw [upd_ne t] at z ⊢
      exact s.e _ _ z
  · by_cases t : b = a
    · subst t
      rw [upd_same] at z
      cases z
      exact .inl hI
    · rw [upd_ne t] at z
      rcases s.f _ _ z with y | y | y
      · rw [upd_ne t] at y
        exact .inl y
      · rw [upd_ne t] at y
        exact .inr (.inl y)
      · exact .inr (.inr y)
theorem pe_orE {X : Cx} {e : Expr} {t u : TE} (h : PE X e t) (k : PE X e u) : PE X e (fun σ H Q => t σ H Q ∨ u σ H Q) := ⟨fun pins s σ H Q I q => q.elim (h.run pins s σ H Q I) (k.run pins s σ H Q I)⟩
def lcK (i : Nat) (vs : List Nat) (ag : D → R As) (mt : Env → R Bool) (me : Env → R D) : Env → R D :=
  fun ρ => calm (get ρ i >>= keysI) >>= fun ds => calm (if ds.length ≤ LIM then (calm (lcGo ag mt me (wipeE ρ vs) ds) >>= fun r => .ok (.lst r)) else .stuck)
section
variable {X : Cx} {E : Wh} {elt tg : Expr} {ifs : List Expr} {scope : Scope} {own : List (Str × Nat)} {pos p : Pos} {g : TG} {tt : TT} {te : TE} {ag : D → R As} {mt : Env → R Bool} {me : Env → R D} {x : Str}
theorem me_lcK (i : Nat) (hc : X.calm = true) (hN : X.N.Nodup) (ok : BlkOk X.N X.env.scope scope own)
    (hg : ∀ (s : Shared) (H : Hp) (C : Addr) (cl : List (Str × Addr)) (fp : List Addr), MG (X.blk s H scope (compEnvC scope cl C X.env) fp) tg g ag) (ht : ∀ (s : Shared) (H : Hp) (C : Addr) (cl : List (Str × Addr)) (fp : List Addr), MTs (X.blk s H scope (compEnvC scope cl C X.env) fp) E.calm ifs tt mt)
    (he : ∀ (s : Shared) (H : Hp) (C : Addr) (cl : List (Str × Addr)) (fp : List Addr), ME (X.blk s H scope (compEnvC scope cl C X.env) fp) E.calm elt te me) (hv : AgIn ag (· ∈ own.map (·.2)))
    (hi : X.N[i]? = some x := by rfl) (hvi : Vis X.env.scope x := by first | exact Or.inl rfl | exact Or.inr (Or.inl rfl) | exact Or.inr (Or.inr rfl)) (hs : ∀ y, foldedSetIterable (.Name x p) X.env y = pure y := by intro _; rfl) (hd : (x == ("__debug__" : Str)) = false := by decide) (hcd : (x == ("__classdict__" : Str)) = false := by decide) :
    ME X E (.ListComp elt [⟨tg, .Name x p, ifs, 0⟩] scope pos) (fun σ H Q => tLockE (tLc (iKeys (tVar i)) g tt te (own.map (·.2))) σ H Q ∨ tLc (iKeys (tVar i)) g tt te (own.map (·.2)) σ H Q) (lcK i (own.map (·.2)) ag mt me) := by
  have hp : PE X (.ListComp elt [⟨tg, .Name x p, ifs, 0⟩] scope pos) (tLc (iKeys (tVar i)) g tt te (own.map (·.2))) := pe_lc hc hN (pi_keys (pe_var (i := i) hi hvi hd hcd)) ok (fun s H C cl fp => (hg s H C cl fp).pe) (fun s H C cl fp => (ht s H C cl fp).pe) (fun s H C cl fp => (he s H C cl fp).pe) hs
  have sg := (hg X.s_0 X.H_0 0 [] []).sn E.x
  have st := (ht X.s_0 X.H_0 0 [] []).sn
  have se := (he X.s_0 X.H_0 0 [] []).sn
  refine ⟨pe_orE (pe_lock hp) hp, fun σ I H ρ Q re ex h => ?_⟩
  unfold lcK at h
  cases q : (ρ : List (Option D))[i]? with
  | none =>
    simp only [get, q] at h
    exact h.elim
  | some o =>
    cases o with
    | none =>
      simp only [get, q] at h
      exact h.elim
    | some d =>
      obtain ⟨v, hv1, rv⟩ := re.at_ i d q
      have hget : get ρ i = .ok d := by simp only [get, q]
      rw [hget] at h
      -- the walk over the locked dict
      have core : ∀ (ds : List D) (J : It) (I1 H1 : Hp) (Q1 : VK), RE X.K (gm X E) I1 σ ρ → Same I1 H1 → ItOk X.K (gm X E) I1 J ds → (∀ z, (if ds.length ≤ LIM then (calm (lcGo ag mt me (wipeE ρ (own.map (·.2))) ds) >>= fun r => .ok (.lst r)) else .stuck : R D) = .ok z → ∀ w I' H', Stp I1 H1 I' H' → Rep X.K (gm X E) I' w z → Q1 w H') →
          (∃ z, (if ds.length ≤ LIM then (calm (lcGo ag mt me (wipeE ρ (own.map (·.2))) ds) >>= fun r => .ok (.lst r)) else .stuck : R D) = .ok z) → tLc (fun _ H R => R J H) g tt te (own.map (·.2)) σ H1 Q1 := by
        intro ds J I1 H1 Q1 re1 ex1 it hq ⟨z, hz⟩
        refine lc_core (E1 := E0) sg st se hv re1 ex1 it ?_
        rw [hz]
        exact fun w I' H' s r => hq z hz w I' H' s r
      cases rv with
      | @dk a kvs ds ha ra =>
        have h : Out X.K (gm X E) (E.e σ) (Rep X.K (gm X E)) I H (calm (if ((kvs.map (·.1)).map keyDD).length ≤ LIM then (calm (lcGo ag mt me (wipeE ρ (own.map (·.2))) ((kvs.map (·.1)).map keyDD)) >>= fun r => .ok (.lst r)) else .stuck)) Q := h
        obtain ⟨z, hz, h9⟩ := out_calm h
        rcases ha with ha | ⟨o, ha⟩
        · refine .inl ⟨a, .dK kvs, ex _ _ ha, trivial, fun od => ⟨.ref a, hv1, a, od, rfl, .inl ⟨kvs, upd_same, ?_⟩⟩⟩
          refine core _ (Itk a od kvs) (upd I a (.frz od (.dK kvs))) _ (fun v H' => H' a = some (.frz od (.dK kvs)) ∧ Q v (upd H' a (.dK kvs))) ⟨re.len, fun j d' q' => ?_⟩ (lock_same ex ha _) (it_keys upd_same) (fun z' hz' w I' H' s r => ?_) ⟨z, hz⟩
          · obtain ⟨v', a', b'⟩ := re.at_ j d' q'
            exact ⟨v', a', b'.lock (u := .dK kvs) trivial ha⟩
          · rw [hz] at hz'
            cases hz'
            exact ⟨s.h _ _ upd_same, h9 w _ _ (Stp.unlock ha (ex _ _ ha) s) (r.unlock (u := .dK kvs) trivial (s.i _ _ upd_same))⟩
        · refine .inr ⟨.ref a, hv1, a, o, rfl, .inl ⟨kvs, ex _ _ ha, ?_⟩⟩
          refine core _ (Itk a o kvs) I H Q re ex (it_keys ha) (fun z' hz' w I' H' s r => ?_) ⟨z, hz⟩
          rw [hz] at hz'
          cases hz'
          exact h9 w I' H' s r
      | @dt a kvs ds ha ra =>
        have h : Out X.K (gm X E) (E.e σ) (Rep X.K (gm X E)) I H (calm (if ((kvs.map (·.1)).map fun k => D.tup (k.map keyDD)).length ≤ LIM then (calm (lcGo ag mt me (wipeE ρ (own.map (·.2))) ((kvs.map (·.1)).map fun k => D.tup (k.map keyDD))) >>= fun r => .ok (.lst r)) else .stuck)) Q := h
        obtain ⟨z, hz, h9⟩ := out_calm h
        rcases ha with ha | ⟨o, ha⟩
        · refine .inl ⟨a, .dT kvs, ex _ _ ha, trivial, fun od => ⟨.ref a, hv1, a, od, rfl, .inr ⟨kvs, upd_same, ?_⟩⟩⟩
          refine core _ (Itkt a od kvs) (upd I a (.frz od (.dT kvs))) _ (fun v H' => H' a = some (.frz od (.dT kvs)) ∧ Q v (upd H' a (.dT kvs))) ⟨re.len, fun j d' q' => ?_⟩ (lock_same ex ha _) (it_keysT upd_same) (fun z' hz' w I' H' s r => ?_) ⟨z, hz⟩
          · obtain ⟨v', a', b'⟩ := re.at_ j d' q'
            exact ⟨v', a', b'.lock (u := .dT kvs) trivial ha⟩
          · rw [hz] at hz'
            cases hz'
            exact ⟨s.h _ _ upd_same, h9 w _ _ (Stp.unlock ha (ex _ _ ha) s) (r.unlock (u := .dT kvs) trivial (s.i _ _ upd_same))⟩
        · refine .inr ⟨.ref a, hv1, a, o, rfl, .inr ⟨kvs, ex _ _ ha, ?_⟩⟩
          refine core _ (Itkt a o kvs) I H Q re ex (it_keysT ha) (fun z' hz' w I' H' s r => ?_) ⟨z, hz⟩
          rw [hz] at hz'
          cases hz'
          exact h9 w I' H' s r
      | _ => exact h.elim
end
end DL
namespace DL
open PySem PySem.Spec PyProof.Rows L2

/-! ### {k: v for ..} with tuples as keys, as data -/
def tkey : D → R (List Key)
  | .tup es => match keysD es with
    | some k => .ok k
    | none => .stuck
  | _ => .stuck
def dcGo (ag : D → R As) (mt : Env → R Bool) (mk mv : Env → R D) (ρ : Env) : List D → List (List Key) → List D → R D
  | [], ks, es => .ok (.dt ks es)
  | d :: ds, ks, es => calm (ag d) >>= fun as => calm (mt (setE ρ as)) >>= fun b => if b = true then calm (mk (setE ρ as)) >>= fun kd => calm (tkey kd) >>= fun k => calm (mv (setE ρ as)) >>= fun y => dcGo ag mt mk mv ρ ds (putKs k ks) (putKd k y ks es) else dcGo ag mt mk mv ρ ds ks es
def dcM (vs : List Nat) (mi : Env → R (List D)) (ag : D → R As) (mt : Env → R Bool) (mk mv : Env → R D) : Env → R D :=
  fun ρ => mi ρ >>= fun ds => if ds.length ≤ LIM then calm (dcGo ag mt mk mv (wipeE ρ vs) ds [] []) else .stuck
structure DcAt (K : PySem.W.Frag) (mg : Gm) (I1 H1 : Hp) (D0 : Addr) (n : Nat) (ks : List (List Key)) (es : List D) (I2 H : Hp) : Prop where
  i : Same I1 I2
  e : Same I2 H
  z : I2 D0 = none
  h : Same H1 H
  f : ∀ a o, I2 a = some o → I1 a = some o ∨ Fr H1 a o
  l : ∃ kvs : List (List Key × V), H D0 = some (.dT kvs) ∧ kvs.map (·.1) = ks ∧ Reps K mg I2 (kvs.map (·.2)) es ∧ kvs.length ≤ n
section
variable {K : PySem.W.Frag} {mg : Gm} {I1 H1 I2 H I3 H3 : Hp} {D0 : Addr} {n : Nat} {ks : List (List Key)} {es : List D} {y : V} {d : D}
theorem DcAt.start (ex : Same I1 H1) (hD : H1 D0 = none) : DcAt K mg I1 H1 D0 0 [] [] I1 (upd H1 D0 (.dT [])) :=
  ⟨.refl _, (Stp.side ex hD).e, ex.free hD, (Stp.side ex hD).h, fun _ _ h => .inl h, [], upd_same, rfl, .nil, Nat.le_refl _⟩
theorem DcAt.step (p : DcAt K mg I1 H1 D0 n ks es I2 H) (s : Stp I2 H I3 H3) : DcAt K mg I1 H1 D0 n ks es I3 H3 := by
  obtain ⟨kvs, h1, h0, h2, h3⟩ := p.l
  refine ⟨p.i.trans s.i, s.e, ?_, p.h.trans s.h, fun a o h => ?_, kvs, s.h _ _ h1, h0, h2.mono s.i, h3⟩
  · cases q : I3 D0 with
    | none => rfl
    | some o =>
      rcases s.f _ _ q with z | z | z
      · rw [p.z] at z
        cases z
      · rw [h1] at z
        cases z
      · have y := s.e _ _ q
        rw [s.h _ _ h1] at y
        cases y
        exact z.elim
  · rcases s.f a o h with z | z | z
    · exact p.f a o z
    · exact .inr (.inl (p.h.free z))
    · exact .inr (.inr z)
theorem DcAt.push (p : DcAt K mg I1 H1 D0 n ks es I2 H) (hD : H1 D0 = none) (k : List Key) (r : Rep K mg I2 y d) (hn : n < LIM) : ∃ kvs, H D0 = some (.dT kvs) ∧ kvs.length < sizeLine ∧ DcAt K mg I1 H1 D0 (n + 1) (putKs k ks) (putKd k d ks es) I2 (upd H D0 (.dT (putK kvs k y))) := by
  obtain ⟨kvs, h1, h0, h2, h3⟩ := p.l
  subst h0
  refine ⟨kvs, h1, lim_lt (by omega), p.i, fun a o q => ?_, p.z, fun a o q => ?_, p.f, putK kvs k y, upd_same, putK_ks kvs, putK_ds r h2, ?_⟩
  · rw [upd_ne (ne_of_none q p.z)]
    exact p.e _ _ q
  · rw [upd_ne (ne_of_none q hD)]
    exact p.h _ _ q
  · have := length_putK kvs k y
    omega
theorem DcAt.skip (p : DcAt K mg I1 H1 D0 n ks es I2 H) : DcAt K mg I1 H1 D0 (n + 1) ks es I2 H := by
  obtain ⟨kvs, h1, h0, h2, h3⟩ := p.l
  exact ⟨p.i, p.e, p.z, p.h, p.f, kvs, h1, h0, h2, by omega⟩
theorem DcAt.done (p : DcAt K mg I1 H1 D0 n ks es I2 H) (hD : H1 D0 = none) : ∃ I', Stp I1 H1 I' H ∧ Rep K mg I' (.ref D0) (.dt ks es) := by
  obtain ⟨kvs, h1, h0, h2, h3⟩ := p.l
  subst h0
  have k : Same I2 (upd I2 D0 (.dT kvs)) := fun a o q => by
    rw [upd_ne (ne_of_none q p.z)]
    exact q
  refine ⟨upd I2 D0 (.dT kvs), ⟨p.i.trans k, p.h, fun a o q => ?_, fun a o q => ?_⟩, .dt (.inl upd_same) (h2.mono k)⟩
  · by_cases e : a = D0
    · subst e
      rw [upd_same] at q
      rw [h1]
      exact q
    · rw [upd_ne e] at q
      exact p.e _ _ q
  · by_cases e : a = D0
    · subst e
      exact .inr (.inl hD)
    · rw [upd_ne e] at q
      exact p.f _ _ q
end
section
variable {X : Cx} {E : Wh} {kx vx tg iter : Expr} {ifs : List Expr} {scope : Scope} {own : List (Str × Nat)} {pos : Pos} {wi : TI} {g : TG} {tt : TT} {tk tv : TE} {mi : Env → R (List D)} {ag : D → R As} {mt : Env → R Bool} {mk mv : Env → R D}
theorem dc_snd {K : PySem.W.Frag} {mg : Gm} {vs : List Nat} {E1 : XS} (si : Sn K mg E1 (ItOk K mg) wi mi) (sg : SnG K mg g ag) (st : Sn K mg (fun _ => E0) rB tt mt) (sk : Sn K mg (fun _ => E0) (Rep K mg) tk mk) (se : Sn K mg (fun _ => E0) (Rep K mg) tv mv) (hv : ∀ d as, ag d = .ok as → ∀ p ∈ as, p.1 ∈ vs) :
    Sn K mg E1 (Rep K mg) (tDcT wi g tt tk tv vs) (dcM vs mi ag mt mk mv) := fun σ I H ρ Q re ex h => by
  refine si.run re ex h fun ds J I1 H1 _ s1 it h D0 hD => ?_
  obtain ⟨hl, h⟩ := out_if h
  cases eo : dcGo ag mt mk mv (wipeE ρ vs) ds [] [] with
  | err _ _ =>
    rw [eo] at h
    exact h.elim
  | stuck =>
    rw [eo] at h
    exact h.elim
  | ok out =>
    rw [eo] at h
    have h : Out K mg (E1 σ) (Rep K mg) I1 H1 (.ok out) Q := h
    refine ⟨fun i m H => m = ds.length - i ∧ i ≤ ds.length ∧ ∃ I2 ks es, DcAt K mg I1 H1 D0 i ks es I2 H ∧ dcGo ag mt mk mv (wipeE ρ vs) (ds.drop i) ks es = .ok out, ⟨ds.length, by simp, Nat.zero_le _, I1, [], [], .start s1.e hD, eo⟩, ?_⟩
    rintro i m H2 ⟨rfl, hi, I2, ks, es, p, hr⟩
    have hit := it I2 H2 p.i p.e
    by_cases hlt : i < ds.length
    · have hd : ds[i]? = some ds[i] := List.getElem?_eq_getElem hlt
      obtain ⟨hgo, hy⟩ := hit.1 i _ hd
      refine .inr ⟨hgo, fun H' => ∃ I2 ks es, DcAt K mg I1 H1 D0 (i + 1) ks es I2 H' ∧ dcGo ag mt mk mv (wipeE ρ vs) (ds.drop (i + 1)) ks es = .ok out, fun H' hN => ⟨ds.length - (i + 1), by omega, rfl, hlt, hN⟩, fun x H' y => ?_⟩
      obtain ⟨I3, s3, rx⟩ := hy x H' y
      rw [List.drop_eq_getElem_cons hlt] at hr
      unfold dcGo at hr
      obtain ⟨as, ha, hr⟩ := bind_ok hr
      have ha := calm_of ha
      obtain ⟨b, hb, hr⟩ := bind_ok hr
      have hb := calm_of hb
      refine sg x _ I3 H' _ as _ s3.e rx ha fun us ar => ?_
      have hus : ∀ p ∈ us, p.1 ∈ vs := fun p hp => by
        have hm : p.1 ∈ as.map (·.1) := by
          rw [← ar.slots]
          exact List.mem_map_of_mem hp
        obtain ⟨q, hq, e⟩ := List.mem_map.mp hm
        rw [← e]
        exact hv _ _ ha q hq
      refine ⟨by rw [wipe_setS hus, wipe_wipe], ?_⟩
      have re3 : RE K mg I3 (setS (wipe σ vs) us) (setE (wipeE ρ vs) as) := RE.setAll ar (((re.mono s1.i).mono (p.i.trans s3.i)).wipe vs)
      have p3 := p.step s3
      refine st _ I3 H' _ _ re3 s3.e ?_
      rw [hb]
      intro b' I4 H4 s4 eb
      have eb : b' = b := eb
      subst eb
      have p4 := p3.step s4
      cases b' with
      | true =>
        show tk _ H4 _
        rw [if_pos rfl] at hr
        obtain ⟨kd, hkd, hr1⟩ := bind_ok hr
        have hkd := calm_of hkd
        obtain ⟨k, hk, hr2⟩ := bind_ok hr1
        have hk := calm_of hk
        obtain ⟨yd, hyd, hr3⟩ := bind_ok hr2
        have hyd := calm_of hyd
        clear hr hr1 hr2
        refine sk _ I4 H4 _ _ (re3.mono s4.i) s4.e ?_
        rw [hkd]
        intro kv I5 H5 s5 rk
        refine se _ I5 H5 _ _ ((re3.mono s4.i).mono s5.i) s5.e ?_
        rw [hyd]
        intro yv I6 H6 s6 ry
        obtain ⟨kvs, h1, h2, p6⟩ := ((p4.step s5).step s6).push hD k ry (by omega)
        cases rk with
        | @tup q ws es2 hq rws =>
          have hk : (match keysD es2 with | some k => R.ok k | none => .stuck) = .ok k := hk
          cases e2 : keysD es2 with
          | none =>
            rw [e2] at hk
            cases hk
          | some k2 =>
            rw [e2] at hk
            cases hk
            have := keysD_v rws e2
            subst this
            exact ⟨kvs, k, q, rfl, s6.h _ _ (s5.e _ _ hq), h1, h2, I6, _, _, p6, hr3⟩
        | _ => cases hk
      | false =>
        rw [if_neg (by decide)] at hr
        exact ⟨I4, ks, es, p4.skip, hr⟩
    · have e : i = ds.length := by omega
      subst e
      rw [List.drop_length] at hr
      cases hr
      obtain ⟨I', s', r'⟩ := p.done hD
      exact .inl ⟨hit.2, h.there s' r'⟩
theorem me_dcT (hu : X.A.units + 1 < cLine) (hc : X.calm = true) (hN : X.N.Nodup) (hi : MI X E tg iter wi mi) (ok : BlkOk X.N X.env.scope scope own)
    (hg : ∀ (s : Shared) (H : Hp) (C : Addr) (cl : List (Str × Addr)) (fp : List Addr), MG (X.blk s H scope (compEnvC scope cl C X.env) fp) tg g ag) (ht : ∀ (s : Shared) (H : Hp) (C : Addr) (cl : List (Str × Addr)) (fp : List Addr), MTs (X.blk s H scope (compEnvC scope cl C X.env) fp) E.calm ifs tt mt)
    (hk : ∀ (s : Shared) (H : Hp) (C : Addr) (cl : List (Str × Addr)) (fp : List Addr), ME (X.blk s H scope (compEnvC scope cl C X.env) fp) E.calm kx tk mk) (he : ∀ (s : Shared) (H : Hp) (C : Addr) (cl : List (Str × Addr)) (fp : List Addr), ME (X.blk s H scope (compEnvC scope cl C X.env) fp) E.calm vx tv mv) (hv : AgIn ag (· ∈ own.map (·.2))) (hs : ∀ x, foldedSetIterable iter X.env x = pure x := by intro _; rfl) :
    ME X E (.DictComp kx vx [⟨tg, iter, ifs, 0⟩] scope pos) (tDcT wi g tt tk tv (own.map (·.2))) (dcM (own.map (·.2)) mi ag mt mk mv) :=
  ⟨pe_dcT hu hc hN hi.pe ok (fun s H C cl fp => (hg s H C cl fp).pe) (fun s H C cl fp => (ht s H C cl fp).pe) (fun s H C cl fp => (hk s H C cl fp).pe) (fun s H C cl fp => (he s H C cl fp).pe) hs,
    dc_snd hi.sn ((hg X.s_0 X.H_0 0 [] []).sn _) (ht X.s_0 X.H_0 0 [] []).sn (hk X.s_0 X.H_0 0 [] []).sn (he X.s_0 X.H_0 0 [] []).sn hv⟩
end
end DL
namespace DL
open PySem PySem.Spec PyProof.Rows L2

end DL
namespace DL
open PySem PySem.Spec PyProof.Rows L2

/-! ### a list of one's own within a thing of one's own is changed -/
section
variable {K : PySem.W.Frag} {mg : Gm} {E : XK} {Mb M M' : List Nat} {Ie : Hp × Addr} {He I H I' H' : Hp} {σ : L2.St} {ρ : Env}
end
theorem getK_none {κ : Type} [DecidableEq κ] {k : κ} : ∀ {ks : List κ} {ds : List D}, k ∉ ks → getK k ks ds = none
  | [], _, _ => by simp [getK]
  | k' :: ks, [], _ => by simp [getK]
  | k' :: ks, d :: ds, h => by
    have e : k' ≠ k := fun z => h (by simp [z])
    simp only [getK, if_neg e]
    exact getK_none fun z => h (List.mem_cons_of_mem _ z)
theorem Kids.len {K : PySem.W.Frag} {mg : Gm} {I He H : Hp} : ∀ {vs : List V} {ds : List D}, Kids K mg I He H vs ds → vs.length = ds.length
  | _, _, .nil => rfl
  | _, _, .cons _ r => congrArg (· + 1) r.len
theorem Kids.app {K : PySem.W.Frag} {mg : Gm} {I He H : Hp} : ∀ {vs ws : List V} {ds es : List D}, Kids K mg I He H vs ds → Kids K mg I He H ws es → Kids K mg I He H (vs ++ ws) (ds ++ es)
  | _, _, _, _, .nil, s => s
  | _, _, _, _, .cons h r, s => .cons h (Kids.app r s)
section
variable {X : Cx} {E : XK} {Mb M : List Nat} {k e : Expr} {tk te : TE} {mk m : Env → R D} {x : Str} {px ap cp ap2 cp2 pl pos : Pos}
end
section
variable {X : Cx} {E : XK} {Mb M : List Nat} {x : Str} {pos pos' : Pos}
end
end DL
namespace DL
open PySem PySem.Spec PyProof.Rows L2

/-! ### defs of a class -/
section
variable {P : Program} {w : World} {K : PySem.W.Frag} {mg : Str → Option Value} {base : Heap} {x qual n : Str} {C : Addr} {st : Stmt} {f : Addr} {fd : FuncData} {N ps : List Str} {k : Nat} {M M' : List Nat} {ms : Env → R Fl}
theorem MtAt.mk' (F : Fun K x qual st f fd) (hC : mg n = some (.ref C)) (c : Cls K C) (hm : Meth K C x f) (b : Binds K fd ps []) (S : FnScope N ps (defScope st)) (hM : ∀ i ∈ M, ps.length ≤ i)
    (hb : ∀ (cdv : Value) (A : Around) (outer : List PySem.Env) (s : Shared) (H : Hp) (E : XK), Room k (A.deeper (PyProof.Rows.envOfC qual (defScope st) s.heap.objs.size f cdv)) →
      ∃ ts, MSs (cxOf (L2N.CX P w) P w K mg base N qual (defScope st) f cdv A outer s H E) E [] M M' (defBody st) ts ms) : MtAt P w K mg base n C x (k + 1) ps.length (runX N.length ms) := ⟨f, fd, ps, hC, c, hm, fn_mirX F S hM hb, b⟩
theorem PrAt.mk' {p : Addr} (F : Fun K x qual st f fd) (hC : mg n = some (.ref C)) (c : Cls K C) (hm : PropOf K C x p f) (b : Binds K fd ps []) (S : FnScope N ps (defScope st)) (hM : ∀ i ∈ M, ps.length ≤ i) (h1 : ps.length = 1)
    (hb : ∀ (cdv : Value) (A : Around) (outer : List PySem.Env) (s : Shared) (H : Hp) (E : XK), Room k (A.deeper (PyProof.Rows.envOfC qual (defScope st) s.heap.objs.size f cdv)) →
      ∃ ts, MSs (cxOf (L2N.CX P w) P w K mg base N qual (defScope st) f cdv A outer s H E) E [] M M' (defBody st) ts ms) : PrAt P w K mg base n C x (k + 1) (runX N.length ms) := ⟨p, f, fd, ps, hC, c, hm, h1 ▸ fn_mirX F S hM hb, b⟩
theorem CmAt.mk' {mc : Value} {p : Addr} (F : Fun K x qual st f fd) (hC : mg n = some (.ref C)) (r : ClX.CRead K C mc) (c : ClX.CMet K C mc x p f) (b : Binds K fd ps []) (S : FnScope N ps (defScope st)) (hM : ∀ i ∈ M, ps.length ≤ i)
    (hb : ∀ (cdv : Value) (A : Around) (outer : List PySem.Env) (s : Shared) (H : Hp) (E : XK), Room k (A.deeper (PyProof.Rows.envOfC qual (defScope st) s.heap.objs.size f cdv)) →
      ∃ ts, MSs (cxOf (L2N.CX P w) P w K mg base N qual (defScope st) f cdv A outer s H E) E [] M M' (defBody st) ts ms) : CmAt P w K mg base n C x (k + 1) ps.length (runX N.length ms) := ⟨mc, p, f, fd, ps, hC, r, c, fn_mirX F S hM hb, b⟩
theorem CkAt.mk' {nn : Nat} (F : Fun K x qual st f fd) (hC : mg n = some (.ref C)) (hm : Mk K C f) (b : Binds K fd ps []) (S : FnScope N ps (defScope st)) (hp : ps.length = nn + 1) (hM : ∀ i ∈ M, i = 0 ∨ nn + 1 ≤ i) (h0 : 0 ∈ M) (hD0 : deep M 0 = false)
    (hb : ∀ (cdv : Value) (A : Around) (outer : List PySem.Env) (s : Shared) (H : Hp) (E : XK), Room k (A.deeper (PyProof.Rows.envOfC qual (defScope st) s.heap.objs.size f cdv)) →
      ∃ ts, MSs (cxOf (L2N.CX P w) P w K mg base N qual (defScope st) f cdv A outer s H E) E [] M M (defBody st) ts ms) : CkAt P w K mg base n C (k + 1) nn (runI N.length n ms) := ⟨hC, f, fd, ps, hm, fn_mirI (nm := n) F S hp hM h0 hD0 hb, b⟩
theorem XcAt.mk' {fs : List Str} (F : Fun K x qual st f fd) (hC : mg n = some (.ref C)) (c : DL.ClX K C fs) (iC : PySem.W.findIn K (.ref C) "__init__" = some (some (.ref f))) (tI : PySem.W.typeIn K (.ref f) = some (.type "function")) (b : Binds K fd ps []) (S : FnScope N ps (defScope st)) (hps : ps.length = fs.length + 1) (hne : fs ≠ []) (hl : fs.length ≤ 900)
    (hb : ∀ (cdv : Value) (A : Around) (outer : List PySem.Env) (s : Shared) (H : Hp) (E : XK), PSs (cxOf CX0 P w K mg base N qual (defScope st) f cdv A outer s H E).nox (defBody st) (tX K 1 fs)) : XcAt P w K mg base n C fs := ⟨hC, c, f, fd, ps, iC, tI, fn_xi F S hps c hne hl hb, b⟩
end
/-- what is known of an exception's class -/
theorem XSub.of {K : PySem.W.Frag} {mg : Str → Option Value} {T : Str → Str → Option Bool} {B : Str → String → Option Bool} (h1 : ∀ n C, (∃ c b, T n c = some b) ∨ (∃ c b, B n c = some b) → mg n = some (.ref C) → ExcC K C ∧ (PySem.W.clsIn K C).isSome = true) (h2 : ∀ n c b C u, T n c = some b → mg n = some (.ref C) → mg c = some u → PySem.W.kitOne K (.ref C) u = some b ∧ PySem.W.exmOne K (.ref C) u = some b) (h3 : ∀ n c b C, B n c = some b → mg n = some (.ref C) → PySem.W.kitOne K (.ref C) (.type c) = some b ∧ PySem.W.exmOne K (.ref C) (.type c) = some b) : XSub K mg T B := ⟨h1, h2, h3⟩
/-- a table of triples -/
def tab {κ : Type} [DecidableEq κ] : List (Str × κ × Bool) → Str → κ → Option Bool
  | [], _, _ => none
  | (n, c, b) :: l, m, d => if m = n ∧ d = c then some b else tab l m d
theorem tab_mem {κ : Type} [DecidableEq κ] : ∀ {l : List (Str × κ × Bool)} {m : Str} {d : κ} {b : Bool}, tab l m d = some b → (m, d, b) ∈ l
  | [], _, _, _, h => by cases h
  | (n, c, b') :: l, m, d, b, h => by
    unfold tab at h
    by_cases e : m = n ∧ d = c
    · rw [if_pos e] at h
      cases h
      obtain ⟨rfl, rfl⟩ := e
      exact List.mem_cons_self
    · rw [if_neg e] at h
      exact List.mem_cons_of_mem _ (tab_mem h)
end DL
namespace DL
open PySem PySem.Spec PyProof.Rows L2
/-! ### the tables from plain facts -/
structure XcOk (K : PySem.W.Frag) (C : Addr) : Prop where
  c : ExcC K C
  ty : PySem.W.typeIn K (.ref C) = some (.type "type")
  cl : (PySem.W.clsIn K C).isSome = true
  me : PySem.W.subIn K (.ref C) (.ref C) = some true
theorem kit_own {K : PySem.W.Frag} {C C' : Addr} {b : Bool} (me : PySem.W.subIn K (.ref C) (.ref C) = some true) (ty : PySem.W.typeIn K (.ref C') = some (.type "type")) (cl : (PySem.W.clsIn K C').isSome = true) (h : PySem.W.subIn K (.ref C) (.ref C') = some b) : PySem.W.kitOne K (.ref C) (.ref C') = some b := by
  unfold PySem.W.kitOne
  by_cases e : C = C'
  · subst e
    rw [me] at h
    cases h
    rw [if_pos (by simp)]
  · rw [if_neg (by simpa using e)]
    show (if ((PySem.W.clsIn K C').isSome && PySem.W.typeIn K (.ref C') == some (.type "type")) = true then PySem.W.subIn K (.ref C) (.ref C') else none) = some b
    rw [cl, ty, if_pos (by decide)]
    exact h
theorem exm_own {K : PySem.W.Frag} {C C' : Addr} {b : Bool} (ex : PySem.W.subIn K (.ref C') (.type "BaseException") = some true) (ty : PySem.W.typeIn K (.ref C') = some (.type "type")) (cl : (PySem.W.clsIn K C').isSome = true) (h : PySem.W.subIn K (.ref C) (.ref C') = some b) : PySem.W.exmOne K (.ref C) (.ref C') = some b := by
  unfold PySem.W.exmOne
  rw [ex, if_pos (by decide)]
  show (if ((PySem.W.clsIn K C').isSome && PySem.W.typeIn K (.ref C') == some (.type "type")) = true then PySem.W.subIn K (.ref C) (.ref C') else none) = some b
  rw [cl, ty, if_pos (by decide)]
  exact h
theorem kit_bt {K : PySem.W.Frag} {C : Addr} {c : String} {b : Bool} (m : PySem.W.kitMeta c = true) (h : PySem.W.subIn K (.ref C) (.type c) = some b) : PySem.W.kitOne K (.ref C) (.type c) = some b := by
  unfold PySem.W.kitOne
  rw [if_neg (by simp)]
  show (if PySem.W.kitMeta c = true then PySem.W.subIn K (.ref C) (.type c) else none) = some b
  rw [if_pos m]
  exact h
theorem exm_bt {K : PySem.W.Frag} {C : Addr} {c : String} {b : Bool} (ex : PySem.W.subIn K (.type c) (.type "BaseException") = some true) (m : PySem.W.kitMeta c = true) (h : PySem.W.subIn K (.ref C) (.type c) = some b) : PySem.W.exmOne K (.ref C) (.type c) = some b := by
  unfold PySem.W.exmOne
  rw [ex, if_pos (by decide)]
  show (if PySem.W.kitMeta c = true then PySem.W.subIn K (.ref C) (.type c) else none) = some b
  rw [if_pos m]
  exact h
/-- one row of the table of exceptions' classes: n is below c, or not -/
def XRow (K : PySem.W.Frag) (mg : Str → Option Value) (p : Str × Str × Bool) : Prop := ∃ C C', mg p.1 = some (.ref C) ∧ mg p.2.1 = some (.ref C') ∧ XcOk K C ∧ PySem.W.subIn K (.ref C') (.type "BaseException") = some true ∧ PySem.W.typeIn K (.ref C') = some (.type "type") ∧ (PySem.W.clsIn K C').isSome = true ∧ PySem.W.subIn K (.ref C) (.ref C') = some p.2.2
def BRow (K : PySem.W.Frag) (mg : Str → Option Value) (p : Str × String × Bool) : Prop := ∃ C, mg p.1 = some (.ref C) ∧ XcOk K C ∧ PySem.W.kitMeta p.2.1 = true ∧ PySem.W.subIn K (.type p.2.1) (.type "BaseException") = some true ∧ PySem.W.subIn K (.ref C) (.type p.2.1) = some p.2.2
theorem XSub.rows {K : PySem.W.Frag} {mg : Str → Option Value} {l : List (Str × Str × Bool)} {m : List (Str × String × Bool)} (h1 : ∀ p ∈ l, XRow K mg p) (h2 : ∀ p ∈ m, BRow K mg p) : XSub K mg (tab l) (tab m) where
  cl := fun n C h hn => by
    rcases h with ⟨c, b, h⟩ | ⟨c, b, h⟩
    · obtain ⟨C0, C', e1, _, k, _⟩ := h1 _ (tab_mem h)
      cases e1.symm.trans hn
      exact ⟨k.c, k.cl⟩
    · obtain ⟨C0, e1, k, _⟩ := h2 _ (tab_mem h)
      cases e1.symm.trans hn
      exact ⟨k.c, k.cl⟩
  own := fun n c b C u h hn hc => by
    obtain ⟨C0, C', e1, e2, k, k1, k2, k3, k4⟩ := h1 _ (tab_mem h)
    cases e1.symm.trans hn
    cases e2.symm.trans hc
    exact ⟨kit_own k.me k2 k3 k4, exm_own k1 k2 k3 k4⟩
  bt := fun n c b C h hn => by
    obtain ⟨C0, e1, k, k1, k2, k3⟩ := h2 _ (tab_mem h)
    cases e1.symm.trans hn
    exact ⟨kit_bt k1 k3, exm_bt k2 k1 k3⟩
def ORow (K : PySem.W.Frag) (mg : Str → Option Value) (p : Str × Str × Bool) : Prop := ∃ C C', mg p.1 = some (.ref C) ∧ mg p.2.1 = some (.ref C') ∧ OcOk K C ∧ PySem.W.subIn K (.ref C) (.ref C) = some true ∧ PySem.W.typeIn K (.ref C') = some (.type "type") ∧ (PySem.W.clsIn K C').isSome = true ∧ PySem.W.subIn K (.ref C) (.ref C') = some p.2.2
def PRow (K : PySem.W.Frag) (mg : Str → Option Value) (p : Str × String × Bool) : Prop := ∃ C, mg p.1 = some (.ref C) ∧ OcOk K C ∧ PySem.W.kitMeta p.2.1 = true ∧ PySem.W.subIn K (.ref C) (.type p.2.1) = some p.2.2
theorem OSub.rows {K : PySem.W.Frag} {mg : Str → Option Value} {l : List (Str × Str × Bool)} {m : List (Str × String × Bool)} (h1 : ∀ p ∈ l, ORow K mg p) (h2 : ∀ p ∈ m, PRow K mg p) : OSub K mg (tab l) (tab m) (fun _ _ => none) where
  cl := fun n C h hn => by
    rcases h with ⟨c, b, h⟩ | ⟨c, b, h⟩
    · obtain ⟨C0, C', e1, _, k, _⟩ := h1 _ (tab_mem h)
      cases e1.symm.trans hn
      exact k
    · obtain ⟨C0, e1, k, _⟩ := h2 _ (tab_mem h)
      cases e1.symm.trans hn
      exact k
  own := fun n c b C u h hn hc => by
    obtain ⟨C0, C', e1, e2, k, k1, k2, k3, k4⟩ := h1 _ (tab_mem h)
    cases e1.symm.trans hn
    cases e2.symm.trans hc
    exact kit_own k1 k2 k3 k4
  bt := fun n c b C h hn => by
    obtain ⟨C0, e1, k, k1, k3⟩ := h2 _ (tab_mem h)
    cases e1.symm.trans hn
    exact kit_bt k1 k3
  bo := fun _ _ _ _ h _ => by cases h
end DL
namespace DL
open PySem PySem.Spec PyProof.Rows L2
theorem ClF.nil {K : PySem.W.Frag} {mg : Str → Option Value} {f : Str} : ClF K (g0 mg) [] f := fun _ h => absurd h List.not_mem_nil
theorem ClF.cons {K : PySem.W.Frag} {mg : Str → Option Value} {f n : Str} {ns : List Str} {C : Addr} (h : mg n = some (.ref C)) (c : Cls K C) (a : NoAttr K C f) (r : ClF K (g0 mg) ns f) : ClF K (g0 mg) (n :: ns) f := fun m hm C' hC => by
  rcases List.mem_cons.mp hm with e | hm
  · subst e
    have hC : mg m = some (.ref C') := hC
    cases h.symm.trans hC
    exact ⟨c, a⟩
  · exact r m hm C' hC
theorem XcF.nil {K : PySem.W.Frag} {mg : Str → Option Value} {f : Str} : XcF K mg [] f := fun _ h => absurd h List.not_mem_nil
theorem XcF.cons {K : PySem.W.Frag} {mg : Str → Option Value} {f n : Str} {ns : List Str} {C : Addr} (h : mg n = some (.ref C)) (c : XfC K C) (a : PySem.W.findIn K (.ref C) f = some none) (r : XcF K mg ns f) : XcF K mg (n :: ns) f := fun m hm C' hC => by
  rcases List.mem_cons.mp hm with e | hm
  · subst e
    cases h.symm.trans hC
    exact ⟨c, a⟩
  · exact r m hm C' hC
theorem all_nil {α : Type} {p : α → Prop} : ∀ x ∈ ([] : List α), p x := fun _ h => absurd h List.not_mem_nil
theorem all_cons {α : Type} {p : α → Prop} {a : α} {l : List α} (h : p a) (r : ∀ x ∈ l, p x) : ∀ x ∈ a :: l, p x := List.forall_mem_cons.mpr ⟨h, r⟩
def clsB : Stmt → List Stmt
  | .ClassDef (body := b) .. => b
  | _ => []
/-- the j-th def of a class -/
def inC (s : Stmt) (j : Nat) : Stmt := (clsB s).getD j (.Pass ⟨0, 0, 0, 0⟩)
end DL
namespace DL
open PySem PySem.Spec PyProof.Rows L2
theorem mt_truK {X : Cx} {E : Wh} {e : Expr} {t : TE} {m : Env → R D} (K : PySem.W.Frag) (h : ME X E e t m) (he : ∀ whole, isTrue e X.env whole = (do let v ← whole; standAt e.pos; holding [v] (truthy v)) := by intro _; rfl) (hK : X.K = K := by rfl) : MT X E e (fun σ H Q => t σ H fun x H' => ∃ k, TruV K x H' k ∧ Q k H') (fun ρ => tru (m ρ)) := by
  subst hK
  exact mt_truth h he
end DL
namespace PySem
open Sem (wp)
set_option maxHeartbeats 1000000 in
theorem dl_meets_enumerate_newB {v : Value} {o : Obj} {H : Heap → Prop} (B : Begins v o H) :
    Meets (Builtin.«enumerate.__new__» ⟨[.type "enumerate", v], []⟩) (fun _ R s => H s.heap ∧
      R (.ok (.ret (.ref (s.heap.push o).objs.size))) { s with heap := (s.heap.push o).push { cls := .type "enumerate", data := .fields #[.none, .bool false, .ref s.heap.objs.size, rawInt 0, .none, .none] } }) :=
  .of_wp fun prog w A R s h => by
    obtain ⟨hp, g, d, tk, os⟩ := s; obtain ⟨h1, h⟩ := h
    have hsub := sub_enumerate
    have q1 : ∀ {A' : Around} {E : Value → Shared → Prop} {Q : Value → Shared → Prop}, Q (.ref hp.objs.size) ⟨hp.push o, g, d, tk, os⟩ → wpAny (model prog w) A' (pyIter v) Q E ⟨hp, g, d, tk, os⟩ :=
      fun q => B.iter prog w _ _ ⟨hp, g, d, tk, os⟩ _ h1 q
    wp_walk using q1
    refine wpAny_stack_any fun st => wpAny_pure ?_
    split
    · rename_i c _ _ _ _ _
      cases (c == Value.type "enumerate")
      · wp_walk using q1
        exact ⟨_, rfl, h⟩
      · wp_walk using q1
        exact ⟨_, rfl, h⟩
    · wp_walk using q1
      exact ⟨_, rfl, h⟩
theorem dl_call_enumerate {prog : Program} {w : World} {A : Around} {E : Value → Shared → Prop} {s : Shared} {v : Value} {o : Obj} {H : Heap → Prop} {Q : Value → Shared → Prop} (B : Begins v o H) (h1 : H s.heap)
    (h : ∀ h', IsEnum h' (s.heap.objs.size + 1) s.heap.objs.size 0 .none → h'.get? s.heap.objs.size = some o → h'.objs.size = s.heap.objs.size + 2 →
      (∀ b o, s.heap.get? b = some o → h'.get? b = some o) → Q (.ref (s.heap.objs.size + 1)) { s with heap := h' }) :
    wpAny (model prog w) A (call (.type "enumerate") [v]) Q E s := by
  refine callType_new F.called_enumerate (by decide) (F.typeCall_enumerate_1 _) (F.newCall_enumerate_1 _) (fun obj => F.args_object_init_2 obj _) F.entry_enumerate_new
    (dl_meets_enumerate_newB B) ⟨h1, ?_⟩
  have hz : (s.heap.push o).objs.size = s.heap.objs.size + 1 := Heap.size_push ..
  show _ ∧ _
  rw [hz]
  have he : IsEnum ((s.heap.push o).push { cls := .type "enumerate", data := .fields #[.none, .bool false, .ref s.heap.objs.size, rawInt 0, .none, .none] }) (s.heap.objs.size + 1) s.heap.objs.size 0 .none := by
    have := Heap.get?_push_size (s.heap.push o) (o := { cls := .type "enumerate", data := .fields #[.none, .bool false, .ref s.heap.objs.size, rawInt 0, .none, .none] }) rfl
    rw [hz] at this; exact this
  refine ⟨⟨_, he, rfl⟩, h _ he (Heap.get?_push_of_some _ (Heap.get?_push_size _ B.free)) (by rw [Heap.size_push, hz]) fun b o x => Heap.get?_push_of_some _ (Heap.get?_push_of_some _ x)⟩
theorem dl_enum_endT {prog : Program} {w : World} {A : Around} {E : Value → Shared → Prop} {s : Shared} {e it t : Addr} {items : Array Value} {i : Nat} {k : Int} {old : Value} {Q : Option Value → Shared → Prop}
    (hh : A.in1.handled = none) (he : IsEnum s.heap e it k old) (hit : s.heap.IsTupleIter it t i) (ht : s.heap.IsTuple t items) (hx : items[i]? = none)
    (hQ : ∀ h', Heap.ExtBut it s.heap h' → Q none { s with heap := h' }) : wpAny (model prog w) A (pyNext (.ref e)) Q E s := by
  have hT : s.TypeIs (.ref e) "enumerate" := ⟨_, he, rfl⟩
  unfold pyNext
  refine wpAny_bind (wpAny_attempt (wpAny_callSpecial?_slot (name := Str.ofString "__next__") hT F.slot_enumerate_next
    (wpAny_call_entry F.slot_enumerate_next hT F.entry_enumerate_next ?_ (F.args_enumerate_next_1 _))))
  show wpAny _ _ (field (.ref e) 2 >>= _) _ _ _
  refine wpAny_bind (wpAny_field he rfl (x := .ref it) rfl ?_)
  refine wpAny_bind (wpAny_nextOf_tuple_end hh hit ht hx fun h' x he' hx' => ?_)
  obtain ⟨o, ho, hc⟩ := hx'
  refine wpAny_bind (wpAny_isInstance (T := "StopIteration") (b := true) ⟨o, ho, hc⟩ isSubtype_stop ?_)
  exact wpAny_pure (hQ _ he')
end PySem
namespace DL
open PySem PySem.Spec PyProof.Rows L2
/-- the tuple at a, each item in a new pair -/
def IteT (K : PySem.W.Frag) (a : Addr) : It :=
  ⟨fun i H => ∃ (xs : List V) (x : V), SqT K H a xs ∧ xs[i]? = some x, fun i H v H' => ∃ T x, v = .ref T ∧ H T = none ∧ H' = upd H T (.tup [.int (i : Nat), x]) ∧ ∀ xs, SqT K H a xs → xs[i]? = some x, fun i H => ∃ xs : List V, SqT K H a xs ∧ xs.length ≤ i⟩
theorem turn_enumT {P : Program} {w : World} {K : PySem.W.Frag} {elts : List Expr} {kk : Nat} {tpos : Pos} (a e it : Addr) :
    Turn P w K (.Tuple elts kk tpos) (IteT K a) [e, it] e (fun i h => (∃ old, IsEnum h e it ((i : Nat) : Int) old) ∧ h.IsTupleIter it a i ∧ e ≠ it) where
  mem := by simp
  obj := fun i h st b hb => by
    obtain ⟨⟨old, he⟩, ⟨o, ho, hc, hd⟩, _⟩ := st
    have e' : b = e ∨ b = it := by simpa using hb
    rcases e' with z | z
    · rw [z]; exact ⟨_, he, fun v q => nomatch q⟩
    · rw [z]; exact ⟨o, ho, fun v q => by rw [hd] at q; cases q⟩
  keep := fun i h h' st k => let ⟨⟨old, he⟩, hi, hne⟩ := st; ⟨⟨old, k e (by simp) _ he⟩, hi.at fun o q => k it (by simp) o q, hne⟩
  item := by
    intro X hP hw hK hc i pins s σ H E I hf st hg
    subst hP hw hK
    obtain ⟨⟨old, he⟩, hit, hne⟩ := st
    obtain ⟨xs, x, hq, hx⟩ := hg
    obtain ⟨its, rv, p, hz⟩ := I.tuple hq
    obtain ⟨u, hu, ru⟩ := rv.get hx
    have hel : e < s.heap.objs.size := Heap.lt_size he
    have hil : it < s.heap.objs.size := by obtain ⟨_, q, _⟩ := hit; exact Heap.lt_size q
    have hea : e ≠ a := fun z => by
      obtain ⟨o, ho, hcl, _⟩ := p
      rw [← z] at ho
      cases he.symm.trans ho
      injection hcl with z
      exact absurd z (by decide)
    have hta : a ≠ it := fun z => by
      obtain ⟨o, ho, hcl, _⟩ := p
      obtain ⟨o', ho', hcl', _⟩ := hit
      rw [z] at ho
      cases ho.symm.trans ho'
      rw [hcl] at hcl'
      injection hcl' with z
      exact absurd z (by decide)
    have hlt : i < its.toArray.size := by
      have := (List.getElem?_eq_some_iff.mp hu).1
      simpa using this
    refine wpAny_pyNext_enum_itemD (Draws.tuple (A := X.A.in1) (I.ok.hd hc) it a hta its.toArray) he ⟨hit, p⟩ hlt hne (by simp [hne, hea]) fun x' h' tk hP ho hit' hT hsz hk => ?_
    have hxu : x' = u := by
      have hP : its.toArray[i]? = some x' := hP
      rw [List.getElem?_toArray, hu] at hP
      exact (Option.some.inj hP).symm
    subst hxu
    refine ⟨_, rfl, wpAny_letOwnedTupleGo_enum (s := { s with heap := h', toks := tk + 1 }) ho fun h'' he' sb => ?_⟩
    have hT2 : h''.get? s.heap.objs.size = some { cls := .type "tuple", data := .seq #[.int i tk, x'] } := (sb.2 _ (Nat.ne_of_gt hel)).trans hT
    have new : ObjOk X.prog X.w (upd H s.heap.objs.size (.tup [.int (i : Nat), x])) h'' s.heap.objs.size (.tup [.int (i : Nat), x]) :=
      ⟨by show 2 ≤ sizeLine; decide, [.int i tk, x'], .cons ⟨_, rfl⟩ (.cons ru .nil), ⟨_, hT2, rfl, _, rfl⟩⟩
    have I1 : Inv X pins σ (upd H s.heap.objs.size (.tup [.int (i : Nat), x])) { s with heap := h'', toks := tk + 1 } :=
      I.turnedNew (ch := [e, it]) (fun b ob hb q => (sb.2 b (fun z => hb (by simp [z]))).trans (hk b ob (fun z => hb (by simp [z])) (fun z => hb (by simp [z])) q)) hf (Nat.le_refl _) new
    refine ⟨.ref s.heap.objs.size, _, I1, rfl, ⟨_, x, rfl, I.hok.fresh (Nat.le_refl _), rfl, fun ys hy => by rw [I.tuple_inj hy hq]; exact hx⟩, ⟨⟨x', ?_⟩, hit'.1.at fun o q => (sb.2 it (Ne.symm hne)).trans q, hne⟩, fun b hb => ?_⟩
    · have e1 : ((i + 1 : Nat) : Int) = (i : Int) + 1 := by omega
      rw [e1]; exact he'
    · have hb' : b < s.heap.objs.size := by
        have e' : b = e ∨ b = it := by simpa using hb
        rcases e' with z | z
        · rw [z]; exact hel
        · rw [z]; exact hil
      rw [upd_ne (Nat.ne_of_lt hb')]
      exact (hf b hb).1
  done := by
    intro X hP hw hK hc i pins s σ H E I hf st hg
    subst hP hw hK
    obtain ⟨⟨old, he⟩, hit, hne⟩ := st
    obtain ⟨xs, hq, hx⟩ := hg
    obtain ⟨its, rv, p, hz⟩ := I.tuple hq
    obtain ⟨f0, f1, f2, f3, f4, f5⟩ := hf it (by simp)
    have hl := rv.length
    have hta : a ≠ it := fun z => by
      obtain ⟨o, ho, hcl, _⟩ := p
      obtain ⟨o', ho', hcl', _⟩ := hit
      rw [z] at ho
      cases ho.symm.trans ho'
      rw [hcl] at hcl'
      injection hcl' with z
      exact absurd z (by decide)
    exact dl_enum_endT (I.ok.hd hc) he hit p (by simp; omega) fun h' eb => ⟨rfl, I.turned (t' := s.toks) (fun b o hb q => eb b o hb q) f0 f1 f3 f4 f5⟩
  self := fun A i s Q E st h => let ⟨⟨_, he⟩, _⟩ := st; wpAny_pyIter_enum he h
def iEnumT (K : PySem.W.Frag) (ta : TA) : TI := fun σ H R => ta σ H fun vs H1 => ∃ a xs, vs = [.ref a] ∧ SqT K H1 a xs ∧ R (IteT K a) H1
theorem pi_enumT {X : Cx} {e : Expr} {ta : TA} {p pos tpos : Pos} {elts : List Expr} {kk : Nat} (hg : Gl X "enumerate") (hm : X.mg "enumerate" = none) (ha : PA X [e] ta) (hs : starEach [e] X.env = [(false, eval e X.env)] := by rfl) :
    PI X (.Tuple elts kk tpos) (.Call (.Name "enumerate" p) [e] [] pos) (iEnumT X.K ta) := by
  refine ⟨fun pins s σ H R I h => ?_⟩
  refine Call_ (ld_blt I hg hm boot_enumerate (PyProof.Rows.callWith_type1 (thn (ha.run pos pins s σ H _ I h) fun us s1 ⟨vs, H1, I1, r1, q1⟩ => ?_) hs rfl))
  obtain ⟨a, xs, ex, hq, q⟩ := q1
  subst ex
  cases r1 with
  | cons r rr =>
    cases rr
    cases r
    obtain ⟨its, rv, p', hz⟩ := I1.tuple hq
    refine dl_call_enumerate (begins_tuple a its.toArray) p' fun h' he hit hsz hk => wpAny_pyIter_enum he ?_
    have I2 : L2.Inv X pins σ H1 { s1 with heap := h' } := I1.kept (t' := s1.toks) hk
    refine ⟨s1.heap.objs.size + 1, [s1.heap.objs.size + 1, s1.heap.objs.size], _, _, H1, rfl, I2, turn_enumT a (s1.heap.objs.size + 1) s1.heap.objs.size, ⟨⟨.none, he⟩, ⟨_, hit, rfl, rfl⟩, Nat.succ_ne_self _⟩, fun b hb => ?_, q⟩
    have e' : b = s1.heap.objs.size + 1 ∨ b = s1.heap.objs.size := by simpa using hb
    have hle : s1.heap.objs.size ≤ b := by
      rcases e' with z | z
      · rw [z]; exact Nat.le_add_right _ _
      · rw [z]; exact Nat.le_refl _
    exact I1.fpOk hle (I1.hok.fresh hle)
section
variable {X : Cx} {E : Wh} {K : PySem.W.Frag} {mg : Gm} {I I' H H' : Hp} {σ : L2.St} {ρ : Env} {a b c e tg : Expr} {es : List Expr} {pos p tpos : Pos} {m : Env → R D} {ms : Env → R (List D)} {t : TE} {tas : TA}
theorem it_enumT {a : Addr} {vs : List V} {ds : List D} (h : SqT K I a vs) (r : Reps K mg I vs ds) : ItOk K mg I (IteT K a) (enumD 0 ds) := fun I1 H e1 e2 => ⟨fun i d hd => by
    obtain ⟨d', hd', rfl⟩ := enumD_get 0 ds i hd
    obtain ⟨v, hv, rv⟩ := r.get hd'
    refine ⟨⟨vs, v, same_t (e1.trans e2) h, hv⟩, fun x H' y => ?_⟩
    obtain ⟨T, x', rfl, hn, rfl, hx⟩ := y
    have e := hx vs (same_t (e1.trans e2) h)
    rw [hv] at e
    cases e
    refine ⟨_, .new e2 hn, ?_⟩
    rw [Nat.zero_add]
    exact new_tup e2 hn (.cons (.int _) (.cons (rv.mono e1) .nil)), ⟨vs, same_t (e1.trans e2) h, by rw [enumD_len]; exact Nat.le_of_eq r.len⟩⟩
def enumA : List D → R (List D)
  | [.lst ds] => .ok (enumD 0 ds)
  | [.scr ns] => .ok (enumD 0 (ns.map D.int))
  | [.tup ds] => .ok (enumD 0 ds)
  | _ => .stuck
theorem mi_enumA (K : PySem.W.Frag) {elts : List Expr} {kk : Nat} (hg : Gl X "enumerate") (hm : X.mg "enumerate" = none) (ha : MA X E [e] tas ms) (hs : starEach [e] X.env = [(false, eval e X.env)] := by rfl) (hK : X.K = K := by rfl) :
    MI X E (.Tuple elts kk tpos) (.Call (.Name "enumerate" p) [e] [] pos) (fun σ H Rr => iEnum K tas σ H Rr ∨ iEnumT K tas σ H Rr) (fun ρ => dsp enumA (ms ρ)) := by
  subst hK
  obtain ⟨pt, st⟩ := ha
  refine ⟨PI.or (pi_enum hg hm pt hs) (pi_enumT hg hm pt hs), fun σ I H ρ Q re ex h => ?_⟩
  have h : Out X.K (gm X E) (E.e σ) (ItOk X.K (gm X E)) I H (ms ρ >>= enumA) Q := h
  have go1 : (∀ ds, ms ρ = .ok ds → ∀ es, ds ≠ [.tup es]) → iEnum X.K tas σ H Q := fun hd => by
    refine st.run re ex h fun ds vs I1 H1 e s1 rs h => ?_
    unfold enumA at h
    split at h
    · obtain ⟨v, rfl, r⟩ := reps1 rs
      cases r with
      | lst hh ra => exact ⟨_, _, rfl, SqL.of (s1.e _ _ hh), h.here s1.e (it_enum (SqL.of hh) ra)⟩
    · obtain ⟨v, rfl, r⟩ := reps1 rs
      cases r with
      | scr hh => exact ⟨_, _, rfl, s1.e.seq hh, h.here s1.e (it_enum hh .ints)⟩
    · exact absurd rfl (hd _ e _)
    · exact h.elim
  by_cases hd : ∃ es, ms ρ = .ok [.tup es]
  · obtain ⟨es, hd⟩ := hd
    refine .inr ?_
    refine st.run re ex h fun ds vs I1 H1 e s1 rs h => ?_
    rw [hd] at e
    cases e
    obtain ⟨v, rfl, r⟩ := reps1 rs
    cases r with
    | tup hh ra => exact ⟨_, _, rfl, SqT.of (s1.e _ _ hh), h.here s1.e (it_enumT (SqT.of hh) ra)⟩
  · exact .inl (go1 fun ds e es z => hd ⟨es, by rw [e, z]⟩)
end
end DL
namespace DL
open PySem PySem.Spec PyProof.Rows L2

/-! ### sorted of rows of ints -/
def lexL : List Int → List Int → Bool
  | [], [] => false
  | [], _ :: _ => true
  | _ :: _, [] => false
  | x :: xs, y :: ys => if x = y then lexL xs ys else decide (x < y)
def lexF (fin : Bool) : List Int → List Int → Bool
  | x :: xs, y :: ys => if x = y then lexF fin xs ys else decide (x < y)
  | _, _ => fin
theorem lexF_len : ∀ xs ys : List Int, lexF (decide (xs.length < ys.length)) xs ys = lexL xs ys
  | [], [] => rfl
  | [], _ :: _ => by simp [lexF, lexL]
  | _ :: _, [] => by simp [lexF, lexL]
  | x :: xs, y :: ys => by
    unfold lexF lexL
    rw [show decide ((x :: xs).length < (y :: ys).length) = decide (xs.length < ys.length) from by simp, lexF_len xs ys]
theorem lexL_irr : ∀ xs : List Int, lexL xs xs = false
  | [] => rfl
  | x :: xs => by
    unfold lexL
    rw [if_pos rfl]
    exact lexL_irr xs
theorem lexL_asym : ∀ xs ys : List Int, lexL xs ys = true → lexL ys xs = false
  | [], [], h => by cases h
  | [], _ :: _, _ => rfl
  | _ :: _, [], h => by cases h
  | x :: xs, y :: ys, h => by
    unfold lexL at h ⊢
    by_cases e : x = y
    · rw [if_pos e] at h
      rw [if_pos e.symm]
      exact lexL_asym xs ys h
    · rw [if_neg e] at h
      rw [if_neg (Ne.symm e)]
      have := of_decide_eq_true h
      exact decide_eq_false (by omega)
theorem lexL_tr : ∀ xs ys zs : List Int, lexL ys xs = false → lexL zs ys = false → lexL zs xs = false
  | [], [], zs, _, h => h
  | [], _ :: _, [], _, h => by cases h
  | [], _ :: _, _ :: _, _, _ => rfl
  | _ :: _, [], _, h, _ => by cases h
  | _ :: _, _ :: _, [], _, h => by cases h
  | x :: xs, y :: ys, z :: zs, h1, h2 => by
    unfold lexL at h1 h2 ⊢
    by_cases e1 : y = x
    · rw [if_pos e1] at h1
      by_cases e2 : z = y
      · rw [if_pos e2] at h2
        rw [if_pos (e2.trans e1)]
        exact lexL_tr xs ys zs h1 h2
      · rw [if_neg e2] at h2
        have := of_decide_eq_false h2
        rw [if_neg (by omega)]
        exact decide_eq_false (by omega)
    · rw [if_neg e1] at h1
      have h1 := of_decide_eq_false h1
      by_cases e2 : z = y
      · rw [if_neg (by omega)]
        exact decide_eq_false (by omega)
      · rw [if_neg e2] at h2
        have h2 := of_decide_eq_false h2
        rw [if_neg (by omega)]
        exact decide_eq_false (by omega)
theorem lexL_eq : ∀ xs ys : List Int, lexL xs ys = false → lexL ys xs = false → xs = ys
  | [], [], _, _ => rfl
  | [], _ :: _, h, _ => by cases h
  | _ :: _, [], _, h => by cases h
  | x :: xs, y :: ys, h1, h2 => by
    unfold lexL at h1 h2
    by_cases e : x = y
    · subst e
      rw [if_pos rfl] at h1 h2
      rw [lexL_eq xs ys h1 h2]
    · rw [if_neg e] at h1
      rw [if_neg (Ne.symm e)] at h2
      have h1 := of_decide_eq_false h1
      have h2 := of_decide_eq_false h2
      omega
def insR (x : List Int) : List (List Int) → List (List Int)
  | [] => [x]
  | y :: ys => if lexL y x = true then y :: insR x ys else x :: y :: ys
def sortR : List (List Int) → List (List Int)
  | [] => []
  | x :: xs => insR x (sortR xs)
theorem insR_perm (x : List Int) : ∀ ys : List (List Int), (insR x ys).Perm (x :: ys)
  | [] => .refl _
  | y :: ys => by
    unfold insR
    split
    · exact (List.Perm.cons y (insR_perm x ys)).trans (List.Perm.swap x y ys)
    · exact .refl _
theorem sortR_perm : ∀ xs : List (List Int), (sortR xs).Perm xs
  | [] => .refl _
  | x :: xs => (insR_perm x _).trans ((sortR_perm xs).cons x)
theorem insR_srt (x : List Int) : ∀ ys : List (List Int), ys.Pairwise (fun a b => lexL b a = false) → (insR x ys).Pairwise (fun a b => lexL b a = false)
  | [], _ => List.pairwise_singleton _ _
  | y :: ys, h => by
    obtain ⟨h1, h2⟩ := List.pairwise_cons.mp h
    unfold insR
    split
    · rename_i e
      refine List.pairwise_cons.mpr ⟨fun z hz => ?_, insR_srt x ys h2⟩
      rcases List.mem_cons.mp ((insR_perm x ys).mem_iff.mp hz) with rfl | hz
      · exact lexL_asym _ _ e
      · exact h1 z hz
    · rename_i e
      have e : lexL y x = false := by simpa using e
      refine List.pairwise_cons.mpr ⟨fun z hz => ?_, h⟩
      rcases List.mem_cons.mp hz with rfl | hz
      · exact e
      · exact lexL_tr _ _ _ e (h1 z hz)
theorem sortR_srt : ∀ xs : List (List Int), (sortR xs).Pairwise (fun a b => lexL b a = false)
  | [] => .nil
  | x :: xs => insR_srt x _ (sortR_srt xs)
theorem srtR_uniq : ∀ {xs ys : List (List Int)}, xs.Perm ys → xs.Pairwise (fun a b => lexL b a = false) → ys.Pairwise (fun a b => lexL b a = false) → xs = ys
  | [], ys, p, _, _ => (List.Perm.nil_eq p)
  | x :: xs, [], p, _, _ => (List.Perm.eq_nil p)
  | x :: xs, y :: ys, p, hx, hy => by
    have e : x = y := by
      have h1 : x ∈ y :: ys := p.mem_iff.mp List.mem_cons_self
      have h2 : y ∈ x :: xs := p.mem_iff.mpr List.mem_cons_self
      rcases List.mem_cons.mp h1 with e | h1
      · exact e
      · rcases List.mem_cons.mp h2 with e | h2
        · exact e.symm
        · exact lexL_eq _ _ ((List.pairwise_cons.mp hy).1 x h1) ((List.pairwise_cons.mp hx).1 y h2)
    subst e
    rw [srtR_uniq (List.perm_cons x |>.mp p) (List.pairwise_cons.mp hx).2 (List.pairwise_cons.mp hy).2]

/-- v is a tuple of the ints ns -/
def IsRow (h : Heap) (v : Value) (ns : List Int) : Prop := ∃ a o vs n, v = .ref a ∧ h.get? a = some o ∧ o.cls = .type "tuple" ∧ o.data = .seq (List.toArray vs) n ∧ IntsAre vs ns
theorem IsRow.keeps {h h' : Heap} {v : Value} {ns : List Int} (p : IsRow h v ns) (k : ∀ b o, h.get? b = some o → o.cls = .type "tuple" → h'.get? b = some o) : IsRow h' v ns := by
  obtain ⟨a, o, vs, n, e, ho, hc, hd, hi⟩ := p
  exact ⟨a, o, vs, n, e, k _ _ ho hc, hc, hd, hi⟩
section
variable {prog : Program} {w : World} {A : Around} {s : Shared}
theorem kat_row {fin : Bool} : ∀ {vs us : List Value} {ns ms : List Int} (i : Nat), IntsAre vs ns → IntsAre us ms → PySem.W.KatLex prog w A true fin (fun r s' => s' = s ∧ r = lexF fin ns ms) (vs.zip us) i s
  | _, _, _, _, i, .nil, .nil => PySem.W.kat_nil ⟨rfl, rfl⟩
  | _, _, _, _, i, .nil, .cons _ _ _ => PySem.W.kat_nil ⟨rfl, rfl⟩
  | _, _, _, _, i, .cons _ _ _, .nil => PySem.W.kat_nil ⟨rfl, rfl⟩
  | _, _, _, _, i, .cons (vs := vs) (ns := ns) x t h1, .cons (vs := us) (ns := ms) y u h2 => by
    show PySem.W.KatLex prog w A true fin (fun r s' => s' = s ∧ r = lexF fin (x :: ns) (y :: ms)) ((.int x t, .int y u) :: vs.zip us) i s
    refine PySem.W.kat_cons (SeqAt.EqAt.int_int x t y u prog w _ _ ?_)
    unfold lexF
    refine PySem.W.kat_go (fun e => ?_) (fun e => ?_)
    · have ex : x = y := by simpa using e
      refine PySem.W.kat_yes ?_
      rw [if_pos ex]
      exact kat_row (i + 1) h1 h2
    · have ex : ¬ x = y := by simpa using e
      refine PySem.W.kat_no ?_
      rw [if_neg ex]
      cases hb : (true && i == 0) with
      | true => exact oneLt_int ⟨rfl, rfl⟩
      | false => exact PySem.W.kat_one _ _ (PyProof.Rows.lt_int ⟨rfl, rfl⟩)
theorem row_cmp {vs : List Value} {k : Value → List Int} (hp : ∀ v ∈ vs, IsRow s.heap v (k v)) : SrtO.Cmp prog w A s (tuples' true) (fun p => p.1 ∈ vs) (SrtO.lt2 fun v u => lexL (k v) (k u)) := by
  intro p q hm hm'
  obtain ⟨a, o, us, n, e, ho, hc, hd, hi⟩ := hp _ hm
  obtain ⟨a', o', us', n', e', ho', hc', hd', hi'⟩ := hp _ hm'
  show wpAny (model prog w) A (keyLt' (tuples' true) p.1 q.1) (fun r s' => s' = s ∧ r = lexL (k p.1) (k q.1)) (fun _ _ => False) s
  rw [← lexF_len]
  generalize k p.1 = ns at hi ⊢
  generalize k q.1 = ms at hi' ⊢
  rw [e, e']
  refine PySem.W.kat_lt ho hd ho' hd' ?_
  have l1 := hi.length
  have l2 := hi'.length
  rw [show decide ((List.toArray us).size < (List.toArray us').size) = decide (ns.length < ms.length) from by simp [l1, l2]]
  exact kat_row 0 hi hi'
theorem row_firsts {h : Heap} : ∀ {vs : List Value}, (∀ v ∈ vs, ∃ ns, ns ≠ [] ∧ IsRow h v ns) → ∃ fs : List Value, PySem.W.KatTups h vs fs ∧ fs.length = vs.length ∧ ∀ f ∈ fs, ∃ x t, f = Value.int x t
  | [], _ => ⟨[], PySem.W.KatTups.nil, rfl, fun _ hm => by simp at hm⟩
  | v :: vs, hp => by
    obtain ⟨fs, h1, h2, h3⟩ := row_firsts (vs := vs) fun v' hm => hp v' (List.mem_cons_of_mem _ hm)
    obtain ⟨ns, hne, a, o, us, n, e, ho, hc, hd, hi⟩ := hp v (List.mem_cons_self ..)
    subst e
    cases hi with
    | nil => exact absurd rfl hne
    | cons x t r =>
      refine ⟨.int x t :: fs, PySem.W.KatTups.cons ho hc hd rfl h1, by rw [List.length_cons, List.length_cons, h2], fun f hm => ?_⟩
      rcases List.mem_cons.mp hm with rfl | hm
      · exact ⟨x, t, rfl⟩
      · exact h3 f hm
theorem rows_sortable {a : Addr} {vs : List Value} {k : Value → List Int} (h0 : 0 < vs.length) (hp : ∀ v ∈ vs, k v ≠ [] ∧ IsRow s.heap v (k v)) (ha : ∀ o, s.heap.get? a = some o → o.cls ≠ .type "tuple") : SrtO.SortableO prog w A s a vs fun v u => lexL (k v) (k u) := by
  intro h' keep
  have hp' : ∀ v ∈ vs, IsRow h' v (k v) := fun v hm => (hp v hm).2.keeps fun b o e c => keep b o (fun z => by subst z; exact ha o e c) e
  obtain ⟨fs, h1, h2, h3⟩ := row_firsts fun v hm => ⟨_, (hp v hm).1, hp' v hm⟩
  refine ⟨tuples' true, fun Q E hq => ?_, row_cmp hp'⟩
  refine PySem.W.kat_kind (T := .type "int") h1 (by omega) (fun f hm => ?_) (by rfl) ?_
  · obtain ⟨x, t, rfl⟩ := h3 f hm
    exact PySem.W.Looks.now
  · have e : (Value.type "int" != Value.type "tuple") = true := by first | decide +kernel | rfl | decide
    rw [e]
    exact hq
end
theorem swo_row (k : Value → List Int) : SrtO.Swo fun v u => lexL (k v) (k u) := ⟨fun x y h => lexL_asym _ _ h, fun x y z h1 h2 => lexL_tr _ _ _ h1 h2⟩
def kV' (k : V → List Int) : Value → List Int
  | .ref t => k (.ref t)
  | _ => []
def rSortedR (K : PySem.W.Frag) : List V → Hp → VK → Prop := fun vs H Q => ∃ (a : Addr) (xs : List V) (k : V → List Int), vs = [V.ref a] ∧ (SqL K H a xs ∨ SqT K H a xs) ∧ (∀ x ∈ xs, (2 ≤ xs.length → k x ≠ []) ∧ ∃ t, x = .ref t ∧ H t = some (.tup ((k x).map V.int))) ∧
  ∀ (zs : List V) (p : Addr), zs.Perm xs → zs.Pairwise (fun x y => lexL (k y) (k x) = false) → H p = none → Q (.ref p) (upd H p (.lst zs))
theorem refs_vals : ∀ {xs : List V} {us : List Value}, Vals xs us → (∀ x ∈ xs, ∃ t, x = V.ref t) → us = xs.map (fun x => match x with | .ref t => Value.ref t | _ => Value.none)
  | _, _, .nil, _ => rfl
  | _, _, .cons r h, hx => by
    obtain ⟨t, e⟩ := hx _ List.mem_cons_self
    subst e
    have r' : _ = Value.ref t := r
    subst r'
    rw [List.map_cons, refs_vals h fun x hm => hx x (List.mem_cons_of_mem _ hm)]
theorem vals_refs : ∀ {xs : List V}, (∀ x ∈ xs, ∃ t, x = V.ref t) → Vals xs (xs.map (fun x => match x with | .ref t => Value.ref t | _ => Value.none))
  | [], _ => .nil
  | x :: xs, hx => by
    obtain ⟨t, e⟩ := hx _ List.mem_cons_self
    subst e
    exact .cons rfl (vals_refs fun x hm => hx x (List.mem_cons_of_mem _ hm))
def refV : Value → V
  | .ref t => .ref t
  | _ => .non
theorem cr_sortedR {X : Cx} : CallR X (.builtin "sorted") (rSortedR X.K) := by
  intro pins s σ H vs us Q I r h
  obtain ⟨a, xs, k, rfl, hs, hk, q⟩ := h
  have hx : ∃ (T : String) (o : Obj) (its : List Value) (n : Nat), (T = "list" ∨ T = "tuple") ∧ s.heap.get? a = some o ∧ o.cls = .type T ∧ o.data = .seq its.toArray n ∧ Vals xs its ∧ xs.length ≤ sizeLine := by
    rcases hs with hs | hs
    · obtain ⟨its, rv, ⟨o, n, ho, hc, _, hd⟩, hz⟩ := I.list hs
      exact ⟨_, o, its, n, .inl rfl, ho, hc, hd, rv, hz⟩
    · obtain ⟨its, rv, ⟨o, ho, hc, n, hd⟩, hz⟩ := I.tuple hs
      exact ⟨_, o, its, n, .inr rfl, ho, hc, hd, rv, hz⟩
  obtain ⟨T, o, its, n, hT, ho, hc, hd, rv, hz⟩ := hx
  rw [Vals.ref1 r]
  have hrf : ∀ x ∈ xs, ∃ t, x = V.ref t := fun x hm => let ⟨_, t, e, _⟩ := hk x hm; ⟨t, e⟩
  have hits := refs_vals rv hrf
  have hrow : ∀ v ∈ its, (2 ≤ its.length → kV' k v ≠ []) ∧ IsRow s.heap v (kV' k v) := fun v hv => by
    have hil := rv.length
    rw [hits] at hv
    obtain ⟨x, hm, e⟩ := List.mem_map.mp hv
    obtain ⟨hne, t, ex, ht⟩ := hk x hm
    subst ex
    subst e
    refine ⟨fun h2 => hne (by rw [hil]; exact h2), ?_⟩
    obtain ⟨us, rv', ⟨o', ho', hc', n', hd'⟩, hz'⟩ := I.tuple (SqT.of ht)
    exact ⟨t, o', us, n', rfl, ho', hc', hd', rv'.ints⟩
  refine sorted_seqO (swo_row (kV' k)) hT ho hc hd (by rw [← rv.length]; exact hz) (fun h2 h₁ a' ha' kk => ?_) fun h' out hk1 h1 h2 => ?_
  · refine rows_sortable (s := { s with heap := h₁ }) (by omega) (fun v hm => ⟨(hrow v hm).1 h2, (hrow v hm).2.keeps fun b o e _ => (kk b o e).2⟩) fun o e => ?_
    have e' : some o = some (seqObj "list" its.toArray 0) := e.symm.trans ha'
    cases e'
    intro c
    exact absurd (Value.type.inj c) (by decide)
  have I' : L2.Inv X pins σ H { s with heap := h' } := I.kept (t' := s.toks) hk1
  have hp : out.Perm its := h2.perm
  have hperm : (out.map refV).Perm xs := by
    have q1 := hp.map refV
    have e : its.map refV = xs := by
      rw [hits, List.map_map]
      conv => rhs; rw [← List.map_id xs]
      refine List.map_congr_left fun x hm => ?_
      obtain ⟨t, e⟩ := hrf x hm
      subst e
      rfl
    rw [e] at q1
    exact q1
  have hrf2 : ∀ x ∈ out.map refV, ∃ t, x = V.ref t := fun x hm => hrf x (hperm.mem_iff.mp hm)
  have hout : ∀ v ∈ out, ∃ t, v = Value.ref t := fun v hv => by
    obtain ⟨_, a, o, us, n, e, _⟩ := hrow v (hp.mem_iff.mp hv)
    exact ⟨a, e⟩
  have hvals : Vals (out.map refV) out := by
    have q1 := vals_refs hrf2
    have e : (out.map refV).map (fun x => match x with | .ref t => Value.ref t | _ => Value.none) = out := by
      rw [List.map_map]
      conv => rhs; rw [← List.map_id out]
      refine List.map_congr_left fun v hv => ?_
      obtain ⟨t, e⟩ := hout v hv
      subst e
      rfl
    rw [e] at q1
    exact q1
  have hlen : (out.map refV).length ≤ sizeLine := by
    rw [hperm.length_eq]
    exact hz
  have hsrt : (out.map refV).Pairwise (fun x y => lexL (k y) (k x) = false) := by
    refine List.pairwise_map.mpr ?_
    have h1 : out.Pairwise (fun x y => lexL (kV' k y) (kV' k x) = false) := h1
    refine (List.Pairwise.and_mem.mp h1).imp ?_
    rintro x y ⟨hx, hy, h⟩
    obtain ⟨t, rfl⟩ := hout x hx
    obtain ⟨u, rfl⟩ := hout y hy
    exact h
  obtain ⟨ep, he'⟩ := PyProof.Rows.sortedHeap_at (vs := its) (out := out.toArray) (n := 0) (h := h'.push (PyProof.Rows.seqObj "list" its.toArray 0)) (a := h'.objs.size) (Heap.get?_push_size _ rfl)
  refine ⟨.ref _, upd H h'.objs.size (.lst (out.map refV)), I'.laid (t' := s.toks) (fun b u e => ?_) (Nat.le_refl _) ⟨hlen, out, ep, hvals, he'⟩, rfl, q _ _ hperm hsrt (I'.hok.fresh (Nat.le_refl _))⟩
  have hlt : b < h'.objs.size := Heap.lt_size e
  rw [PyProof.Rows.sortedHeap_old (Nat.ne_of_lt hlt) (by rw [PyProof.Rows.size_push']; exact Nat.lt_succ_of_lt hlt)]
  exact Heap.get?_push_of_some _ e

/-! #### the reading -/
def rowsOf : List D → Option (List (List Int))
  | [] => some []
  | .tup es :: ds => match intsOf es with
    | some (n :: ns) => (rowsOf ds).map ((n :: ns) :: ·)
    | _ => none
  | _ :: _ => none
def rowD (ns : List Int) : D := .tup (ns.map D.int)
/-- one row alone, empty or not -/
def one_ : List D → R D
  | [.tup es] => match intsOf es with
    | some ns => .ok (.lst [rowD ns])
    | none => .stuck
  | _ => .stuck
def sortedX (ds : List D) : R D := match intsOf ds with
  | some ns => .ok (.lst ((sortI ns).map D.int))
  | none => match rowsOf ds with
    | some rs => .ok (.lst ((sortR rs).map rowD))
    | none => one_ ds
def sortedA : List D → R D
  | [.lst ds] => sortedX ds
  | [.tup ds] => sortedX ds
  | _ => .stuck
def rSortedA (K : PySem.W.Frag) : List V → Hp → VK → Prop := fun vs H Q => rSortedX K vs H Q ∨ rSortedR K vs H Q
theorem cr_sortedA {X : Cx} : CallR X (.builtin "sorted") (rSortedA X.K) := by
  intro pins s σ H vs us Q I r h
  rcases h with h | h
  · exact cr_sortedX pins s σ H vs us Q I r h
  · exact cr_sortedR pins s σ H vs us Q I r h
def vI : V → Int
  | .int i => i
  | _ => 0
def keyH (I : Hp) : V → List Int
  | .ref t => match I t with
    | some (.tup xs) => xs.map vI
    | _ => []
  | _ => []
theorem rows_key {K : PySem.W.Frag} {mg : Gm} {I : Hp} : ∀ {vs : List V} {ds : List D} {rs : List (List Int)}, Reps K mg I vs ds → rowsOf ds = some rs → vs.map (keyH I) = rs ∧ ∀ x ∈ vs, keyH I x ≠ [] ∧ (∃ t, x = .ref t ∧ I t = some (.tup ((keyH I x).map V.int)))
  | _, _, _, .nil, h => by
    cases h
    exact ⟨rfl, fun x hm => by cases hm⟩
  | _, _, rs, .cons (d := d) (ds := ds) a r, h => by
    cases a with
    | @tup t ws es hh ra =>
      unfold rowsOf at h
      split at h
      · rename_i n ns e
        cases e2 : rowsOf ds with
        | none =>
          rw [e2] at h
          cases h
        | some rs' =>
          rw [e2] at h
          cases h
          obtain ⟨h1, h2⟩ := rows_key r e2
          obtain ⟨ew, _⟩ := reps_ints ra e
          subst ew
          have ek : keyH I (.ref t) = n :: ns := by
            show (match I t with | some (HO.tup xs) => xs.map vI | _ => []) = n :: ns
            rw [hh]
            show ((n :: ns).map V.int).map vI = n :: ns
            rw [List.map_map]
            conv => rhs; rw [← List.map_id (n :: ns)]
            rfl
          refine ⟨by rw [List.map_cons, ek, h1], fun x hm => ?_⟩
          rcases List.mem_cons.mp hm with rfl | hm
          · rw [ek]
            exact ⟨by simp, t, rfl, hh⟩
          · exact h2 x hm
      · cases h
    | _ => cases h
theorem keys_reps {K : PySem.W.Frag} {mg : Gm} {I : Hp} : ∀ {zs : List V}, (∀ x ∈ zs, ∃ t, x = .ref t ∧ I t = some (.tup ((keyH I x).map V.int))) → Reps K mg I zs ((zs.map (keyH I)).map rowD)
  | [], _ => .nil
  | z :: zs, h => by
    obtain ⟨t, e, ht⟩ := h z List.mem_cons_self
    rw [List.map_cons, List.map_cons]
    refine .cons ?_ (keys_reps fun x hm => h x (List.mem_cons_of_mem _ hm))
    generalize keyH I z = ns at ht ⊢
    subst e
    exact .tup ht .ints
theorem cs_sortedA {K : PySem.W.Frag} {mg : Gm} : CSn K mg (rSortedA K) sortedA := by
  intro xs I H ds d Q ex rs h q
  have fin : ∀ (a : Addr) (es : List D) (vs : List V), Reps K mg I vs es → (SqL K H a vs ∨ SqT K H a vs) → sortedX es = .ok d → rSortedA K [.ref a] H Q := fun a es vs r hs h => by
    unfold sortedX at h
    cases e : intsOf es with
    | some ns =>
      rw [e] at h
      cases h
      obtain ⟨rfl, _⟩ := reps_ints r e
      refine .inl ⟨a, ns, rfl, hs, fun ns' p hp hs' hn => ?_⟩
      have e2 : ns' = sortI ns := srt_uniq (hp.trans (sortI_perm ns).symm) hs' (sortI_srt ns)
      subst e2
      exact q _ _ _ (.new ex hn) (new_lst ex hn .ints)
    | none =>
      rw [e] at h
      have h : (match rowsOf es with | some rs => R.ok (.lst ((sortR rs).map rowD)) | none => one_ es) = R.ok d := h
      cases e2 : rowsOf es with
      | none =>
        rw [e2] at h
        have h : one_ es = R.ok d := h
        unfold one_ at h
        split at h
        · rename_i es' _ _
          cases e3 : intsOf es' with
          | none =>
            rw [e3] at h
            cases h
          | some ns =>
            rw [e3] at h
            cases h
            obtain ⟨v, rfl, rv⟩ := reps1 r
            cases rv with
            | @tup t ws _ hh ra =>
              obtain ⟨ew, _⟩ := reps_ints ra e3
              subst ew
              have ek : keyH I (.ref t) = ns := by
                show (match I t with | some (HO.tup xs) => xs.map vI | _ => []) = ns
                rw [hh]
                show (ns.map V.int).map vI = ns
                rw [List.map_map]
                conv => rhs; rw [← List.map_id ns]
                rfl
              refine .inr ⟨a, [.ref t], keyH I, rfl, hs, fun x hm => ?_, fun zs p hp hs' hn => ?_⟩
              · rw [List.mem_singleton.mp hm]
                exact ⟨fun h => absurd h (by simp), t, rfl, by rw [ek]; exact ex _ _ hh⟩
              · have e4 : zs = [.ref t] := List.perm_singleton.mp hp
                subst e4
                exact q _ _ _ (.new ex hn) (new_lst ex hn (.cons (.tup hh .ints) .nil))
        · cases h
      | some rs =>
        rw [e2] at h
        cases h
        obtain ⟨h1, h2⟩ := rows_key r e2
        refine .inr ⟨a, vs, keyH I, rfl, hs, fun x hm => ?_, fun zs p hp hs' hn => ?_⟩
        · obtain ⟨hne, t, e, ht⟩ := h2 x hm
          exact ⟨fun _ => hne, t, e, ex _ _ ht⟩
        · have e3 : zs.map (keyH I) = sortR rs := srtR_uniq ((hp.map _).trans (by rw [h1]; exact (sortR_perm rs).symm)) (List.pairwise_map.mpr hs') (sortR_srt rs)
          rw [← e3] at q
          exact q _ _ _ (.new ex hn) (new_lst ex hn (keys_reps fun x hm => (h2 x (hp.mem_iff.mp hm)).2))
  unfold sortedA at h
  split at h
  · obtain ⟨v, rfl, r⟩ := reps1 rs
    cases r with
    | lst hh ra => exact fin _ _ _ ra (.inl (SqL.of (ex _ _ hh))) h
  · obtain ⟨v, rfl, r⟩ := reps1 rs
    cases r with
    | tup hh ra => exact fin _ _ _ ra (.inr (SqT.of (ex _ _ hh))) h
  · cases h
end DL
namespace DL
open PySem PySem.Spec PyProof.Rows L2

/-! ### membership by deep equality -/
theorem hu65 {k : Nat} {A : Around} (hr : Room k A) : A.units + 65 < cLine := by have := hr.un; omega
def rInP (K : PySem.W.Frag) : R2 := fun x y H Q => ∃ d ds, Dp K H x d ∧ (Dp K H y (.list ds) ∧ SeqAt.shaped (.list ds) = true ∨ Dp K H y (.tuple ds) ∧ SeqAt.shaped (.tuple ds) = true) ∧ SeqAt.shaped d = true ∧ Q (.bl (ds.any fun z => PyData.eqv z d)) H
def rNinP (K : PySem.W.Frag) : R2 := fun x y H Q => ∃ d ds, Dp K H x d ∧ (Dp K H y (.list ds) ∧ SeqAt.shaped (.list ds) = true ∨ Dp K H y (.tuple ds) ∧ SeqAt.shaped (.tuple ds) = true) ∧ SeqAt.shaped d = true ∧ Q (.bl (!ds.any fun z => PyData.eqv z d)) H
theorem op_inP {X : Cx} (hu : X.A.units + 65 < cLine) : OpR X (compareOp .In) (rInP X.K) := by
  intro pins s σ H x y v u Q I rx ry h
  obtain ⟨d, ds, hd, he, sd, q⟩ := h
  obtain ⟨as, r1⟩ := Dp.reads I d x v hd rx
  rcases he with ⟨he, se⟩ | ⟨he, se⟩
  · obtain ⟨bs, r2⟩ := Dp.reads I (.list ds) y u he ry
    exact SeqAt.in_list_reads r2 r1 (SeqAt.canLay_of_shaped se) (SeqAt.canLay_of_shaped sd) (room_in_shaped sd hu) ⟨.bl _, H, I, rfl, q⟩
  · obtain ⟨bs, r2⟩ := Dp.reads I (.tuple ds) y u he ry
    exact SeqAt.in_tuple_reads r2 r1 (SeqAt.canLay_of_shaped se) (SeqAt.canLay_of_shaped sd) (room_in_shaped sd hu) ⟨.bl _, H, I, rfl, q⟩
theorem op_ninP {X : Cx} (hu : X.A.units + 65 < cLine) : OpR X (compareOp .NotIn) (rNinP X.K) := by
  intro pins s σ H x y v u Q I rx ry h
  obtain ⟨d, ds, hd, he, sd, q⟩ := h
  obtain ⟨as, r1⟩ := Dp.reads I d x v hd rx
  rcases he with ⟨he, se⟩ | ⟨he, se⟩
  · obtain ⟨bs, r2⟩ := Dp.reads I (.list ds) y u he ry
    exact SeqAt.notIn_list_reads r2 r1 (SeqAt.canLay_of_shaped se) (SeqAt.canLay_of_shaped sd) (room_in_shaped sd hu) ⟨.bl _, H, I, rfl, q⟩
  · obtain ⟨bs, r2⟩ := Dp.reads I (.tuple ds) y u he ry
    exact SeqAt.notIn_tuple_reads r2 r1 (SeqAt.canLay_of_shaped se) (SeqAt.canLay_of_shaped sd) (room_in_shaped sd hu) ⟨.bl _, H, I, rfl, q⟩
def inP : D → D → R D
  | x, .lst ds => gd (x.fine 60 = true ∧ (D.lst ds).fine 60 = true) (.bl ((D.pys ds).any fun z => PyData.eqv z x.py))
  | x, .tup ds => gd (x.fine 60 = true ∧ (D.tup ds).fine 60 = true) (.bl ((D.pys ds).any fun z => PyData.eqv z x.py))
  | _, _ => .stuck
def ninP (x y : D) : R D := notD (inP x y)
theorem inP_of {x y r : D} (h : inP x y = .ok r) : ∃ ds, (y = .lst ds ∨ y = .tup ds) ∧ x.fine 60 = true ∧ y.fine 60 = true ∧ r = .bl ((D.pys ds).any fun z => PyData.eqv z x.py) := by
  unfold inP at h
  split at h
  · obtain ⟨⟨a, b⟩, rfl⟩ := gd_of h
    exact ⟨_, .inl rfl, a, b, rfl⟩
  · obtain ⟨⟨a, b⟩, rfl⟩ := gd_of h
    exact ⟨_, .inr rfl, a, b, rfl⟩
  · cases h
theorem rs_inP {K : PySem.W.Frag} {mg : Gm} : RSn K mg (rInP K) inP := by
  intro x y I H dx dy d Q ex rx ry h q
  obtain ⟨ds, e, a, b, rfl⟩ := inP_of h
  have k1 := (ry.mono ex).dp _ b
  have k2 := D.fine_shaped b
  refine ⟨_, D.pys ds, (rx.mono ex).dp _ a, ?_, D.fine_shaped a, q _ _ _ (.refl ex) (.bl _)⟩
  rcases e with rfl | rfl
  · exact .inl ⟨k1, k2⟩
  · exact .inr ⟨k1, k2⟩
theorem rs_ninP {K : PySem.W.Frag} {mg : Gm} : RSn K mg (rNinP K) ninP := by
  intro x y I H dx dy d Q ex rx ry h q
  unfold ninP at h
  cases e : inP dx dy with
  | ok r =>
    obtain ⟨ds, e2, a, b, rfl⟩ := inP_of e
    rw [e] at h
    cases h
    have k1 := (ry.mono ex).dp _ b
    have k2 := D.fine_shaped b
    refine ⟨_, D.pys ds, (rx.mono ex).dp _ a, ?_, D.fine_shaped a, q _ _ _ (.refl ex) (.bl _)⟩
    rcases e2 with rfl | rfl
    · exact .inl ⟨k1, k2⟩
    · exact .inr ⟨k1, k2⟩
  | err _ _ =>
    rw [e] at h
    cases h
  | stuck =>
    rw [e] at h
    cases h
/-- the plain way where the items are plain, else the deep one -/
def flatIn (x y : D) : Bool := match y with
  | .lst ds => x.flat && ds.all D.flat
  | .tup ds => x.flat && ds.all D.flat
  | _ => true
def inG (x y : D) : R D := if flatIn x y = true then inA x y else inP x y
def ninG (x y : D) : R D := if flatIn x y = true then ninA x y else ninP x y
theorem o2_b {f g h : D → D → R D} (hf : ∀ x y, f x y = g x y ∨ f x y = h x y) (a b : R D) : o2 f a b = o2 g a b ∨ o2 f a b = o2 h a b := by
  cases a with
  | ok x =>
    cases b with
    | ok y =>
      rcases hf x y with e | e
      · refine .inl ?_
        show calm (f x y) = calm (g x y)
        rw [e]
      · refine .inr ?_
        show calm (f x y) = calm (h x y)
        rw [e]
    | err _ _ => exact .inl rfl
    | stuck => exact .inl rfl
  | err _ _ => exact .inl rfl
  | stuck => exact .inl rfl
theorem inG_or (x y : D) : inG x y = inA x y ∨ inG x y = inP x y := by
  unfold inG
  split
  · exact .inl rfl
  · exact .inr rfl
theorem ninG_or (x y : D) : ninG x y = ninA x y ∨ ninG x y = ninP x y := by
  unfold ninG
  split
  · exact .inl rfl
  · exact .inr rfl
section
variable {X : Cx} {E : Wh} {a b : Expr} {ta tb : TE} {ma mb : Env → R D} {pos : Pos}
theorem me_inG (K : PySem.W.Frag) (hu : X.A.units + 65 < cLine) (ha : ME X E a ta ma) (hb : ME X E b tb mb) (hm : behindInMarks .In b = false := by rfl) (hK : X.K = K := by rfl) : ME X E (.Compare a [.In] [b] pos) (fun σ H Q => (tDIn ta tb σ H Q ∨ tOp (rInX K) ta tb σ H Q) ∨ tOp (rInP K) ta tb σ H Q) (fun ρ => o2 inG (ma ρ) (mb ρ)) := by
  have h1 : ME X E (.Compare a [.In] [b] pos) _ _ := me_inA K (by omega) ha hb hm hK
  subst hK
  have h2 : ME X E (.Compare a [.In] [b] pos) _ _ := me_cmp (r := rInP X.K) (op_inP hu) rs_inP ha hb hm
  exact ⟨PE.or h1.pe h2.pe, sn_or h1.sn h2.sn fun ρ => o2_b inG_or _ _⟩
theorem mt_inG (K : PySem.W.Frag) (hu : X.A.units + 65 < cLine) (ha : ME X E a ta ma) (hb : ME X E b tb mb) (hm : behindInMarks .In b = false := by rfl) (hK : X.K = K := by rfl) : MT X E (.Compare a [.In] [b] pos) (fun σ H Q => (tB (tDIn ta tb) σ H Q ∨ tTest (tOp (rInX K) ta tb) σ H Q) ∨ tTest (tOp (rInP K) ta tb) σ H Q) (fun ρ => tst (o2 inG (ma ρ) (mb ρ))) := by
  have h1 : MT X E (.Compare a [.In] [b] pos) _ _ := mt_inA K (by omega) ha hb hm hK
  subst hK
  have h2 : MT X E (.Compare a [.In] [b] pos) _ _ := mt_cmp (r := rInP X.K) (op_inP hu) rs_inP ha hb hm
  exact ⟨PT.or h1.pe h2.pe, sn_or h1.sn h2.sn fun ρ => tst_or (o2_b inG_or _ _)⟩
theorem mt_ninG (K : PySem.W.Frag) (hu : X.A.units + 65 < cLine) (ha : ME X E a ta ma) (hb : ME X E b tb mb) (hm : behindInMarks .NotIn b = false := by rfl) (hK : X.K = K := by rfl) : MT X E (.Compare a [.NotIn] [b] pos) (fun σ H Q => (tB (tDNotIn ta tb) σ H Q ∨ tTest (tOp (rNinX K) ta tb) σ H Q) ∨ tTest (tOp (rNinP K) ta tb) σ H Q) (fun ρ => tst (o2 ninG (ma ρ) (mb ρ))) := by
  have h1 : MT X E (.Compare a [.NotIn] [b] pos) _ _ := mt_ninA K (by omega) ha hb hm hK
  subst hK
  have h2 : MT X E (.Compare a [.NotIn] [b] pos) _ _ := mt_cmp (r := rNinP X.K) (op_ninP hu) rs_ninP ha hb hm
  exact ⟨PT.or h1.pe h2.pe, sn_or h1.sn h2.sn fun ρ => tst_or (o2_b ninG_or _ _)⟩
end
end DL
namespace DL
open PySem PySem.Spec PyProof.Rows L2

section
variable {X : Cx} {E : XK} {elt tg iter : Expr} {ifs : List Expr} {scope : Scope} {own : List (Str × Nat)} {pos : Pos} {wi : TI} {g : TG} {tt : TT} {te : TE} {mi : Env → R (List D)} {ag : D → R As} {mt : Env → R Bool} {me : Env → R D}
end

/-! ### new lists from calls -/
def spFr (K : PySem.W.Frag) (mg : Str → Option Value) (n : Nat) (g : List D → R (List D)) : Sp := fun vs H Q E => ∃ I ds, ds.length = n ∧ Same I H ∧ Reps K (g0 mg) I vs ds ∧ OutN K (g0 mg) E I H (g ds) Q
def endF : Fl → R (List D)
  | .rf ds => .ok ds
  | _ => .stuck
def runFr (n : Nat) (ms : Env → R Fl) (ds : List D) : R (List D) := ms (startE n ds) >>= endF
theorem fn_mirF {P : Program} {w : World} {K : PySem.W.Frag} {mg : Str → Option Value} {base : Heap} {x qual : Str} {st : Stmt} {f : Addr} {fd : FuncData} {N ps : List Str} {k : Nat} {M M' : List Nat} {ms : Env → R Fl} (F : Fun K x qual st f fd) (S : FnScope N ps (defScope st)) (hM : ∀ i ∈ M, ps.length ≤ i)
    (hb : ∀ (cdv : Value) (A : Around) (outer : List PySem.Env) (s : Shared) (H : Hp) (E : XK), Room k (A.deeper (PyProof.Rows.envOfC qual (defScope st) s.heap.objs.size f cdv)) →
      ∃ ts, MSs (cxOf (L2N.CX P w) P w K mg base N qual (defScope st) f cdv A outer s H E) E [] M M' (defBody st) ts ms) : FnOk P w K mg base (L2N.CX P w) (k + 1) f fd ps (spFr K mg ps.length (runFr N.length ms)) := by
  refine okXN F S (fun vs H Q E h => ?_) (fun cdv A outer s H vs Q E hr h => ?_)
  · obtain ⟨I, ds, hl, _, r, _⟩ := h
    exact r.len.trans hl
  obtain ⟨I, ds, hl, ex, rs, h⟩ := h
  obtain ⟨ts, hp⟩ := hb cdv A outer s H E hr
  refine ⟨ts, hp.pe, hp.sn (I, 0) H _ I H _ _ (start_SE ex rs (by rw [hl]; exact hM)) ?_⟩
  unfold runFr at h
  cases e : ms (startE N.length ds) with
  | err nm es =>
    rw [e] at h
    exact h
  | stuck =>
    rw [e] at h
    exact h.elim
  | ok fl =>
    rw [e] at h
    cases fl with
    | rf es => exact fun p vs I1 H1 s1 n1 n2 hp r => h p vs I1 H1 s1 n1 n2 hp r
    | rd es => exact h.elim
    | nx ρ => exact h.elim
    | rt d => exact h.elim
    | bk ρ => exact h.elim
    | ct ρ => exact h.elim
structure KnF (P : Program) (w : World) (K : PySem.W.Frag) (mg : Str → Option Value) (base : Heap) (x : Str) (k n : Nat) (g : List D → R (List D)) : Prop where
  ex : ∃ f fd ps, FnOk P w K mg base (L2N.CX P w) k f fd ps (spFr K mg n g) ∧ mg x = some (.ref f) ∧ PySem.W.keepIn K (.ref f) = true ∧ Binds K fd ps []
theorem KnF.mk' {P : Program} {w : World} {K : PySem.W.Frag} {mg : Str → Option Value} {base : Heap} {x : Str} {st : Stmt} {N ps : List Str} {k : Nat} {M M' : List Nat} {ms : Env → R Fl} (F : FnAt K mg x st ps) (S : FnScope N ps (defScope st)) (hM : ∀ i ∈ M, ps.length ≤ i)
    (hb : ∀ (f : Addr) (cdv : Value) (A : Around) (outer : List PySem.Env) (s : Shared) (H : Hp) (E : XK), Room k (A.deeper (PyProof.Rows.envOfC x (defScope st) s.heap.objs.size f cdv)) →
      ∃ ts, MSs (cxOf (L2N.CX P w) P w K mg base N x (defScope st) f cdv A outer s H E) E [] M M' (defBody st) ts ms) : KnF P w K mg base x (k + 1) ps.length (runFr N.length ms) := by
  obtain ⟨f, fd, F, g, b⟩ := F.ex
  exact ⟨f, fd, ps, fn_mirF F S hM (hb f), g, F.kp, b⟩
def callF (n : Nat) (g : List D → R (List D)) (a : R (List D)) : R (List D) := a >>= fun ds => if ds.length = n then g ds else .stuck
/-! #### handing a new list back -/
section
variable {X : Cx} {E : XK} {Mb M M' : List Nat} {e : Expr} {te : TE} {m : Env → R (List D)} {pos px : Pos} {x : Str}
end
end DL
namespace DL
open PySem PySem.Spec PyProof.Rows L2

/-! ### new lists by operators and slices -/
def NewL (K : PySem.W.Frag) (mg : Gm) (I H : Hp) (ds : List D) (Q : VK) : Prop := ∀ p vs I' H', Stp I H I' H' → I' p = none → H p = none → H' p = some (.lst vs) → Reps K mg I' vs ds → Q (.ref p) H'
theorem NewL.at {K : PySem.W.Frag} {mg : Gm} {I H : Hp} {ds : List D} {Q : VK} {p : Addr} {vs : List V} (h : NewL K mg I H ds Q) (ex : Same I H) (hp : H p = none) (r : Reps K mg I vs ds) : Q (.ref p) (upd H p (.lst vs)) :=
  h p vs I _ (Stp.side ex hp) (ex.free hp) hp upd_same r
section
variable {X : Cx} {E : XK} {a b : Expr} {ta tb : TE} {ma mb : Env → R D} {pos : Pos}
end
end DL
namespace DL
open PySem PySem.Spec PyProof.Rows L2

/-! ### new lists that read what is one's own -/
section
variable {K : PySem.W.Frag} {mg : Gm} {E : XK} {Mb M M' M1 : List Nat} {Ie : Hp × Addr} {He I H I' H' : Hp} {σ : L2.St} {ρ : Env} {D0 : Ends} {I0 : Hp}
theorem Reps.lessA {J I : Hp} {bad : Nat → Prop} (l : Less J I bad) : ∀ {vs : List V} {ds : List D}, Reps K mg I vs ds → (∀ d ∈ ds, ∀ k, bad k → D.has k d = false) → Reps K mg J vs ds
  | _, _, .nil, _ => .nil
  | _, _, .cons h r, q => .cons (h.less l (q _ List.mem_cons_self)) (Reps.lessA l r fun d hd => q d (List.mem_cons_of_mem _ hd))
theorem SnN.mild {te : L2.St → Hp → (V → Hp → Prop) → Prop} {m : Env → R (List D)} {k : List D → R Fl} {P : V → Hp → Prop} (h : SnN K mg E te m) (s : SE K mg M Ie He σ I H ρ) (hq : OutS K mg E Mb M' Ie He I0 D0 (m ρ >>= fun ds => if ds.all (keepOk M ρ) = true then k ds else .stuck))
    (hk : ∀ ds p vs I' H', SE K mg M Ie He σ I' H' ρ → Stp I H I' H' → I' p = none → H p = none → H' p = some (.lst vs) → Reps K mg I' vs ds → OutS K mg E Mb M' Ie He I0 D0 (k ds) → P (.ref p) H') : te σ H P := by
  obtain ⟨I1, k1, s1, f1⟩ := s.all2
  refine h σ I1 H _ P (RE.of s1) s1.st.e ?_
  cases e : m ρ with
  | err nm es =>
    rw [e] at hq
    exact fun C od I2 H2 t x => hq C od I2 H2 (s1.st.trans t) x
  | stuck =>
    rw [e] at hq
    exact hq.elim
  | ok ds =>
  rw [e] at hq
  have q : OutS K mg E Mb M' Ie He I0 D0 (if ds.all (keepOk M ρ) = true then k ds else .stuck) := hq
  intro p vs I2 H2 t n1 n2 hp r
  by_cases hd : ds.all (keepOk M ρ) = true
  · rw [if_pos hd] at q
    classical
    let J : Hp := fun a => if I a = none ∧ I1 a ≠ none then none else I2 a
    have ji : Same I J := fun a o z => by
      show (if I a = none ∧ I1 a ≠ none then none else I2 a) = some o
      rw [if_neg (fun w => by rw [z] at w; cases w.1)]
      exact t.i _ _ (k1 _ _ z)
    have jh : Same J H2 := fun a o z => by
      have z : (if I a = none ∧ I1 a ≠ none then none else I2 a) = some o := z
      split at z
      · cases z
      · exact t.e _ _ z
    have jf : ∀ a o, J a = some o → I a = some o ∨ Fr H a o := fun a o z => by
      have z : (if I a = none ∧ I1 a ≠ none then none else I2 a) = some o := z
      split at z
      · cases z
      · rename_i w
        rcases t.f _ _ z with y | y
        · cases e : I a with
          | none => exact absurd ⟨e, by rw [y]; exact fun w => by cases w⟩ w
          | some o' =>
            have := k1 _ _ e
            rw [y] at this
            cases this
            exact .inl rfl
        · exact .inr y
    have st : Stp I H J H2 := ⟨ji, t.h, jh, jf⟩
    have less : Less J I2 (fun kd => ∃ i ∈ M, ∃ d0, ρ[i]? = some (some d0) ∧ (kd = d0.kind ∨ (deep M i = true ∧ kd = 0))) := ⟨fun a o z => by
      by_cases w : I a = none ∧ I1 a ≠ none
      · cases e : I1 a with
        | none => exact absurd e w.2
        | some o' =>
          have z2 := t.i _ _ e
          rw [z] at z2
          cases z2
          rcases f1 a o e with y | ⟨i, hi, d0, q1, q2, q3⟩
          · rw [w.1] at y
            cases y
          · exact .inr ⟨⟨i, hi, d0, q1, q2⟩, q3⟩
      · refine .inl ?_
        show (if I a = none ∧ I1 a ≠ none then none else I2 a) = some o
        rw [if_neg w]
        exact z⟩
    have jp : J p = none := by
      show (if I p = none ∧ I1 p ≠ none then none else I2 p) = none
      split
      · rfl
      · exact n1
    refine hk ds p vs J H2 (s.step st) st jp n2 hp (r.lessA less fun d hm kd ⟨i, hi, d0, q1, q2⟩ => ?_) q
    obtain ⟨k1, k2⟩ := keepOk_of (List.all_eq_true.mp hd d hm) hi q1
    rcases q2 with rfl | ⟨y, rfl⟩
    · exact k1
    · exact k2 y
  · rw [if_neg hd] at q
    exact q.elim
end
section
variable {X : Cx} {E : XK} {Mb M M' M1 : List Nat} {e : Expr} {te : TE} {m : Env → R D} {ml : Env → R (List D)} {pos : Pos} {x : Str}
def appSV (M : List Nat) (i : Nat) (ρ : Env) (a : R D) : R Fl := calm (ownD ρ i) >>= fun ds => a >>= fun d => if keepOk M ρ d = true then (if ds.length < LIM then .ok (.nx (ρ.set i (some (.lst (ds ++ [d]))))) else .stuck) else .stuck
theorem ms_appV (i : Nat) {px pa pc : Pos} (he : ME X (kE E) e te m) (hi : X.N[i]? = some x := by rfl) (hv : Vis X.env.scope x := by first | exact Or.inl rfl | exact Or.inr (Or.inl rfl)) (hM : i ∈ M := by decide) (hD : deep M i = false := by decide)
    (hp : PE X e te → PE X (.Call (.Attribute (.Name x px) "append" pa) [e] [] pc) (tBM X.K "list" rAppend (tVar i) (tCons te tNil))) (hs : swapsWith (.Call (.Attribute (.Name x px) "append" pa) [e] [] pc) none pos.line X.env = pure false := by rfl) :
    MS X E Mb M M (.Expr (.Call (.Attribute (.Name x px) "append" pa) [e] [] pc) pos) (tDrop (tBM X.K "list" rAppend (tVar i) (tCons te tNil))) (fun ρ => appSV M i ρ (m ρ)) :=
  ⟨ps_expr (hp he.pe) hs, fun Ie He σ I H ρ D0 s h => by
    obtain ⟨ds, ho, h⟩ := outS_calm h
    have q := ownD_of ho
    obtain ⟨p, vs, ds', e1, h2, h3, h4, h5, h6⟩ := s.ownL i _ hM hD q
    cases e1
    refine ⟨_, h2, .inl ⟨rfl, vs, SqL.of h5⟩, he.sn.mild s h fun d v I1 H1 s1 t r k => ?_⟩
    obtain ⟨hl, k⟩ := outS_if k
    obtain ⟨p', vs', ds', e1, g2, g3, g4, g5, g6⟩ := s1.ownL i _ hM hD q
    cases e1
    rw [h2] at g2
    cases g2
    refine ⟨p, vs', v, rfl, rfl, g5, lim_lt (by rw [g6.len]; omega), k _ I1 _ (s1.put hM q h2 (g6.app (.cons r .nil)) hD) t.i⟩⟩
end
end DL
namespace DL
open PySem PySem.Spec PyProof.Rows L2

/-! ### {k: v for x in d if ..}, d a dict -/
section
variable {X : Cx} {E : Wh} {kx vx tg iter : Expr} {ifs : List Expr} {scope : Scope} {own : List (Str × Nat)} {pos : Pos} {wi : TI} {g : TG} {tt : TT} {tk tv : TE} {mi : Env → R (List D)} {ag : D → R As} {mt : Env → R Bool} {mk mv : Env → R D}
end
section
variable {X : Cx} {E : Wh} {kx vx tg : Expr} {ifs : List Expr} {scope : Scope} {own : List (Str × Nat)} {pos p : Pos} {g : TG} {tt : TT} {tk tv : TE} {ag : D → R As} {mt : Env → R Bool} {mk mv : Env → R D} {x : Str}
end
end DL
namespace DL
open PySem PySem.Spec PyProof.Rows L2
/-! ### the same rules, the fragment given by name (for comprehensions) -/
section
variable {X : Cx} {E : Wh} {a : Expr} {ta : TE} {ma : Env → R D} {pos p p2 q : Pos}
theorem me_fldK (K : PySem.W.Frag) (ns : List Str) {g : Str} (hT : ClF X.K (gm X E) ns g) (ha : ME X E a ta ma) (hb : attributeBase a g X.env (eval a X.env) = eval a X.env := by rfl) (hK : X.K = K := by rfl) : ME X E (.Attribute a g pos) (tFld K ta g) (fun ρ => o1 (fldD ns g) (ma ρ)) := by
  subst hK
  exact me_fld ns hT ha hb
theorem me_lenSetK (K : PySem.W.Frag) (hc : X.calm = true) (hg : Gl X "len") (hm : X.mg "len" = none) (hg2 : Gl X "set") (hm2 : X.mg "set" = none) (ha : ME X E a ta ma) (na : starEach [a] X.env = [(false, eval a X.env)] := by rfl) (hK : X.K = K := by rfl) :
    ME X E (.Call (.Name "len" p) [.Call (.Name "set" p2) [a] [] q] [] pos) (tLenSetA K ta) (fun ρ => o1 lenSetD (ma ρ)) := by
  subst hK
  exact me_lenSet hc hg hm hg2 hm2 ha na
end
end DL
namespace DL
open PySem PySem.Spec L2

/-! ### reckoning with what a text makes -/
@[simp] theorem get_zero (d : D) (ρ : Env) : get (some d :: ρ) 0 = .ok d := rfl
@[simp] theorem get_none (ρ : Env) : get (none :: ρ) 0 = .stuck := rfl
@[simp] theorem get_succ (o : Option D) (ρ : Env) (n : Nat) : get (o :: ρ) (n + 1) = get ρ n := rfl
@[simp] theorem wipeE_nil (ρ : Env) : wipeE ρ [] = ρ := rfl
@[simp] theorem wipeE_cons (ρ : Env) (v : Nat) (vs : List Nat) : wipeE ρ (v :: vs) = (wipeE ρ vs).set v none := rfl
@[simp] theorem setE_nil (ρ : Env) : setE ρ [] = ρ := rfl
@[simp] theorem setE_cons (ρ : Env) (i : Nat) (d : D) (as : As) : setE ρ ((i, d) :: as) = setE (ρ.set i (some d)) as := rfl
@[simp] theorem calm_calm {α : Type} (r : R α) : calm (calm r) = calm r := by cases r <;> rfl
@[simp] theorem endD_rt (d : D) : endD (.rt d) = .ok d := rfl
@[simp] theorem endD_nx (ρ : Env) : endD (.nx ρ) = .ok .non := rfl
@[simp] theorem agV_ (i : Nat) (d : D) : agV i d = .ok [(i, d)] := rfl
@[simp] theorem agN_ : agN [] = .ok [] := rfl
@[simp] theorem agC_ (ag : D → R As) (bg : List D → R As) (d : D) (ds : List D) : agC ag bg (d :: ds) = (ag d >>= fun as => bg ds >>= fun bs => .ok (as ++ bs)) := rfl
@[simp] theorem tupAs_ (n : Nat) (ag : List D → R As) (ds : List D) : tupAs n ag (.tup ds) = if ds.length = n then ag ds else .stuck := rfl
@[simp] theorem addD_int (i j : Int) : addD (.int i) (.int j) = .ok (.int (i + j)) := rfl
@[simp] theorem subD_int (i j : Int) : subD (.int i) (.int j) = .ok (.int (i - j)) := rfl
@[simp] theorem negD_int (i : Int) : negD (.int i) = .ok (.int (-i)) := rfl
@[simp] theorem leD_int (i j : Int) : leD (.int i) (.int j) = .ok (.bl (decide (i ≤ j))) := rfl
@[simp] theorem ltD_int (i j : Int) : ltD (.int i) (.int j) = .ok (.bl (decide (i < j))) := rfl
@[simp] theorem gtD_int (i j : Int) : gtD (.int i) (.int j) = .ok (.bl (decide (j < i))) := rfl
@[simp] theorem geX_int (i j : Int) : geX (.int i) (.int j) = .ok (.bl (decide (j ≤ i))) := rfl
@[simp] theorem eqD_int (i j : Int) : eqD (.int i) (.int j) = .ok (.bl (decide (i = j))) := rfl
@[simp] theorem neD_int (i j : Int) : neD (.int i) (.int j) = .ok (.bl (!decide (i = j))) := rfl
@[simp] theorem notD_bl (b : Bool) : notD (.ok (.bl b)) = .ok (.bl !b) := rfl
@[simp] theorem asI_int (i : Int) : asI (.int i) = .ok (some i) := rfl
@[simp] theorem intD_int (i : Int) : intD [.int i] = .ok (.int i) := rfl
@[simp] theorem lenD_lst (ds : List D) : lenD [.lst ds] = .ok (.int ds.length) := rfl
@[simp] theorem lenD_tup (ds : List D) : lenD [.tup ds] = .ok (.int ds.length) := rfl
@[simp] theorem lenD_scr (ns : List Int) : lenD [.scr ns] = .ok (.int ns.length) := rfl
@[simp] theorem itemsD_lst (ds : List D) : itemsD (.lst ds) = .ok ds := rfl
@[simp] theorem itemsD_tup (ds : List D) : itemsD (.tup ds) = .ok ds := rfl
@[simp] theorem tupleD_lst (ds : List D) : tupleD [.lst ds] = .ok (.tup ds) := rfl
@[simp] theorem tupleD_tup (ds : List D) : tupleD [.tup ds] = .ok (.tup ds) := rfl
@[simp] theorem listD_lst (ds : List D) : listD [.lst ds] = .ok (.lst ds) := rfl
@[simp] theorem listL_lst (ds : List D) : listL [.lst ds] = .ok ds := rfl
@[simp] theorem listL_tup (ds : List D) : listL [.tup ds] = .ok ds := rfl
@[simp] theorem sliceD_lst (ds : List D) (l u : Option Int) : sliceD (.lst ds) l u = .ok (.lst (cutD ds l u)) := rfl
@[simp] theorem sliceD_tup (ds : List D) (l u : Option Int) : sliceD (.tup ds) l u = .ok (.tup (cutD ds l u)) := rfl
@[simp] theorem sortedD_lst (ns : List Int) : sortedD [.lst (ns.map D.int)] = .ok (.lst ((sortI ns).map D.int)) := by
  show (match intsOf (ns.map D.int) with | some ns => R.ok (D.lst ((sortI ns).map D.int)) | none => .stuck) = _
  rw [intsOf_map]
@[simp] theorem sortedD_tup (ns : List Int) : sortedD [.tup (ns.map D.int)] = .ok (.lst ((sortI ns).map D.int)) := by
  show (match intsOf (ns.map D.int) with | some ns => R.ok (D.lst ((sortI ns).map D.int)) | none => .stuck) = _
  rw [intsOf_map]
@[simp] theorem anyD_ (bs : List Bool) : anyD [.lst (bs.map D.bl)] = .ok (.bl (bs.any id)) := by
  show (match blsOf (bs.map D.bl) with | some bs => R.ok (D.bl (bs.any id)) | none => .stuck) = _
  rw [blsOf_map]
@[simp] theorem allD_ (bs : List Bool) : allD [.lst (bs.map D.bl)] = .ok (.bl (bs.all id)) := by
  show (match blsOf (bs.map D.bl) with | some bs => R.ok (D.bl (bs.all id)) | none => .stuck) = _
  rw [blsOf_map]
theorem modD_int {i j : Int} (h : 0 < j) : modD (.int i) (.int j) = .ok (.int (i % j)) := gd_ok h
theorem fdivD_int {i j : Int} (h : 0 < j ∧ j < 1073741824) : fdivD (.int i) (.int j) = .ok (.int (i / j)) := gd_ok h
theorem mulD_int {i j : Int} (h : (-(2 ^ 64) < i ∧ i < 2 ^ 64) ∨ (-(2 ^ 64) < j ∧ j < 2 ^ 64)) : mulD (.int i) (.int j) = .ok (.int (i * j)) := gd_ok (.inl h)
theorem addD_lst {xs ys : List D} (h : xs.length + ys.length ≤ LIM) : addD (.lst xs) (.lst ys) = .ok (.lst (xs ++ ys)) := gd_ok h
@[simp] theorem lstD_nil : lstD [] = .ok (.lst []) := rfl
@[simp] theorem tupD_nil : tupD [] = .ok (.tup []) := rfl
@[simp] theorem tupD_1 (a : D) : tupD [a] = .ok (.tup [a]) := rfl
@[simp] theorem tupD_2 (a b : D) : tupD [a, b] = .ok (.tup [a, b]) := rfl
@[simp] theorem lstD_1 (a : D) : lstD [a] = .ok (.lst [a]) := rfl
@[simp] theorem lenOk_nil : lenOk [] = .ok [] := rfl
theorem lim63 {n : Nat} (h : n ≤ 100000) : n ≤ LIM := Nat.le_trans h (by decide)
theorem all_flat (ns : List Int) : (ns.map D.int).all D.flat = true := by
  induction ns with
  | nil => rfl
  | cons n ns ih => rw [List.map_cons, List.all_cons, ih]; rfl
theorem inB_int (x : Int) (ns : List Int) : inB (.int x) (ns.map D.int) = decide (x ∈ ns) := by
  induction ns with
  | nil => rfl
  | cons n ns ih =>
    show (eqF (.int n) (.int x) || inB (.int x) (ns.map D.int)) = _
    rw [ih]
    show ((n == x) || decide (x ∈ ns)) = decide (x ∈ n :: ns)
    by_cases h : n = x
    · subst h
      simp
    · have h2 : ¬ x = n := fun e => h e.symm
      simp [h, h2]
@[simp] theorem inD_tup (x : Int) (ns : List Int) : inD (.int x) (.tup (ns.map D.int)) = .ok (.bl (decide (x ∈ ns))) := by
  rw [← inB_int]
  exact gd_ok ⟨rfl, all_flat ns⟩
@[simp] theorem inD_lst (x : Int) (ns : List Int) : inD (.int x) (.lst (ns.map D.int)) = .ok (.bl (decide (x ∈ ns))) := by
  rw [← inB_int]
  exact gd_ok ⟨rfl, all_flat ns⟩
@[simp] theorem notInD_tup (x : Int) (ns : List Int) : notInD (.int x) (.tup (ns.map D.int)) = .ok (.bl (!decide (x ∈ ns))) := by
  unfold notInD
  rw [inD_tup]
  rfl
@[simp] theorem notInD_lst (x : Int) (ns : List Int) : notInD (.int x) (.lst (ns.map D.int)) = .ok (.bl (!decide (x ∈ ns))) := by
  unfold notInD
  rw [inD_lst]
  rfl
theorem cutD_map {α : Type} (f : α → D) (xs : List α) (l u : Option Int) : cutD (xs.map f) l u = (((xs.drop (HT.sIx xs.length 0 l)).take (HT.sIx xs.length xs.length u - HT.sIx xs.length 0 l)).map f) := by
  unfold cutD
  rw [List.length_map, List.map_take, List.map_drop]
/-- xs[:k], xs[k:] -/
theorem cutD_to {α : Type} (f : α → D) (xs : List α) (k : Nat) : cutD (xs.map f) none (some (k : Int)) = (xs.take k).map f := by
  rw [cutD_map, HT.sIx_none, HT.sIx_nat, Nat.sub_zero, List.drop_zero]
  by_cases h : k ≤ xs.length
  · rw [Nat.min_eq_left h]
  · rw [Nat.min_eq_right (by omega), List.take_of_length_le (by omega), List.take_of_length_le (by omega)]
theorem cutD_from {α : Type} (f : α → D) (xs : List α) (k : Nat) : cutD (xs.map f) (some (k : Int)) none = (xs.drop k).map f := by
  rw [cutD_map, HT.sIx_none, HT.sIx_nat]
  by_cases h : k ≤ xs.length
  · rw [Nat.min_eq_left h, List.take_of_length_le (by rw [List.length_drop]; omega)]
  · rw [Nat.min_eq_right (by omega), List.take_of_length_le (by rw [List.length_drop]; omega), List.drop_of_length_le (by omega), List.drop_of_length_le (by omega)]
theorem ixD_lst {α : Type} (f : α → D) (xs : List α) (k : Nat) {x : α} (h : xs[k]? = some x) : ixD (.lst (xs.map f)) (.int (k : Int)) = .ok (f x) := by
  show (match atI (xs.map f) (k : Int) with | some d => R.ok d | none => .stuck) = _
  rw [atI_nat (j := k) (v := f x) (by rw [List.getElem?_map, h]; rfl)]
theorem ixD_scr (xs : List Int) (k : Nat) {x : Int} (h : xs[k]? = some x) : ixD (.scr xs) (.int (k : Int)) = .ok (.int x) := by
  show (match atI xs (k : Int) with | some n => R.ok (D.int n) | none => .stuck) = _
  rw [atI_nat (j := k) (v := x) h]
theorem rangeD_01 (n : Nat) : rangeD 0 1 n = (List.range n).map fun (i : Nat) => D.int (i : Int) := by
  unfold rangeD
  congr 1
  funext i
  rw [Int.mul_one, Int.zero_add]
theorem rg1_nat {n : Nat} (h : n ≤ LIM) : rg1 [.int (n : Int)] = .ok ((List.range n).map fun (i : Nat) => D.int (i : Int)) := by
  have h : n ≤ 1000000 := h
  have hc : -(2 ^ 62) ≤ (n : Int) ∧ (n : Int) < 2 ^ 62 := ⟨by omega, by omega⟩
  simp only [rg1]
  rw [if_pos hc, rangeD_01, Int.toNat_natCast]
/-! #### comprehensions and loops -/
theorem lcGo_map {α : Type} {ag : D → R As} {mt : Env → R Bool} {me : Env → R D} {ρ : Env} (emb : α → D) (f : α → Bool) (v : α → D) : ∀ (xs : List α), (∀ x ∈ xs, ∃ as, ag (emb x) = .ok as ∧ mt (setE ρ as) = .ok (f x) ∧ (f x = true → me (setE ρ as) = .ok (v x))) →
    lcGo ag mt me ρ (xs.map emb) = .ok ((xs.filter f).map v)
  | [], _ => rfl
  | x :: xs, h => by
    obtain ⟨as, h1, h2, h3⟩ := h x List.mem_cons_self
    have ih := lcGo_map emb f v xs fun y hy => h y (List.mem_cons_of_mem _ hy)
    rw [List.map_cons]
    unfold lcGo
    rw [h1, calm_ok, ok_bind, h2, calm_ok, ok_bind, ih, List.filter_cons]
    cases hf : f x with
    | true => rw [if_pos rfl, if_pos rfl, h3 hf, calm_ok, ok_bind, ok_bind]; rfl
    | false => rw [if_neg (by decide), if_neg (by decide)]
/-- every item is kept -/
theorem lcGo_all {α : Type} {ag : D → R As} {mt : Env → R Bool} {me : Env → R D} {ρ : Env} (emb : α → D) (v : α → D) (xs : List α) (h : ∀ x ∈ xs, ∃ as, ag (emb x) = .ok as ∧ mt (setE ρ as) = .ok true ∧ me (setE ρ as) = .ok (v x)) :
    lcGo ag mt me ρ (xs.map emb) = .ok (xs.map v) := by
  rw [lcGo_map emb (fun _ => true) v xs fun x hx => by
    obtain ⟨as, a, b, c⟩ := h x hx
    exact ⟨as, a, b, fun _ => c⟩, List.filter_eq_self.mpr (fun _ _ => rfl)]
theorem lcM_map {α : Type} {vs : List Nat} {mi : Env → R (List D)} {ag : D → R As} {mt : Env → R Bool} {me : Env → R D} {ρ : Env} (emb : α → D) (f : α → Bool) (v : α → D) (xs : List α) (hi : mi ρ = .ok (xs.map emb)) (hl : xs.length ≤ LIM)
    (h : ∀ x ∈ xs, ∃ as, ag (emb x) = .ok as ∧ mt (setE (wipeE ρ vs) as) = .ok (f x) ∧ (f x = true → me (setE (wipeE ρ vs) as) = .ok (v x))) : lcM vs mi ag mt me ρ = .ok (.lst ((xs.filter f).map v)) := by
  unfold lcM
  rw [hi, ok_bind, if_pos (by rw [List.length_map]; exact hl), lcGo_map emb f v xs h, calm_ok, ok_bind]
theorem lcM_all {α : Type} {vs : List Nat} {mi : Env → R (List D)} {ag : D → R As} {mt : Env → R Bool} {me : Env → R D} {ρ : Env} (emb : α → D) (v : α → D) (xs : List α) (hi : mi ρ = .ok (xs.map emb)) (hl : xs.length ≤ LIM)
    (h : ∀ x ∈ xs, ∃ as, ag (emb x) = .ok as ∧ mt (setE (wipeE ρ vs) as) = .ok true ∧ me (setE (wipeE ρ vs) as) = .ok (v x)) : lcM vs mi ag mt me ρ = .ok (.lst (xs.map v)) := by
  unfold lcM
  rw [hi, ok_bind, if_pos (by rw [List.length_map]; exact hl), lcGo_all emb v xs h, calm_ok, ok_bind]
theorem loopGo_inv {α : Type} {ag : D → R As} {mb : Env → R Fl} (emb : α → D) (xs : List α) (P : Nat → Env → Prop) {ρ : Env} (h0 : P 0 ρ) (hs : ∀ i x ρ, xs[i]? = some x → P i ρ → ∃ as ρ', ag (emb x) = .ok as ∧ (mb (setE ρ as) = .ok (.nx ρ') ∨ mb (setE ρ as) = .ok (.ct ρ')) ∧ P (i + 1) ρ') :
    ∃ ρ', loopGo ag mb (xs.map emb) ρ = .ok (.nx ρ') ∧ P xs.length ρ' := by
  induction xs generalizing ρ P with
  | nil => exact ⟨ρ, rfl, h0⟩
  | cons x xs ih =>
    obtain ⟨as, ρ1, h1, h2, h3⟩ := hs 0 x ρ rfl h0
    obtain ⟨ρ2, h4, h5⟩ := ih (fun i => P (i + 1)) h3 fun i y ρ hy hp => hs (i + 1) y ρ hy hp
    refine ⟨ρ2, ?_, h5⟩
    rw [List.map_cons]
    unfold loopGo
    rw [h1, calm_ok, ok_bind]
    rcases h2 with h2 | h2
    · rw [h2, ok_bind]
      exact h4
    · rw [h2, ok_bind]
      exact h4
def isT : R D → Bool
  | .ok (.bl true) => true
  | _ => false
theorem isT_of {r : R D} (h : isT r = true) : r = .ok (.bl true) := by
  unfold isT at h
  split at h
  · rfl
  · cases h
end DL
namespace DL
open PySem PySem.Spec L2

/-! ### one statement after the other -/
theorem th_asg {i : Nat} {ρ : Env} {a : R D} {d : D} {k : Env → R Fl} {out : R Fl} (h : a = .ok d) (h2 : k (ρ.set i (some d)) = out) : then_ (asg i ρ a) k = out := by
  subst h
  exact h2
theorem th_own {i : Nat} {ρ : Env} {a : R (List D)} {ds : List D} {k : Env → R Fl} {out : R Fl} (h : a = .ok ds) (h2 : k (ρ.set i (some (.lst ds))) = out) : then_ (ownS i ρ a) k = out := by
  subst h
  exact h2
theorem th_skip {c : R Bool} {a : R Fl} {ρ : Env} {k : Env → R Fl} {out : R Fl} (h : c = .ok false) (h2 : k ρ = out) : then_ (ifv c a (.ok (.nx ρ))) k = out := by
  subst h
  exact h2
theorem th_if {c : R Bool} {b : Bool} {x y : R Fl} {k : Env → R Fl} {out : R Fl} (h : c = .ok b) (h1 : b = true → then_ x k = out) (h2 : b = false → then_ y k = out) : then_ (ifv c x y) k = out := by
  subst h
  cases b with
  | true => exact h1 rfl
  | false => exact h2 rfl
theorem ifv_of {α : Type} {c : R Bool} {b : Bool} {x y : R α} {out : R α} (h : c = .ok b) (h1 : b = true → x = out) (h2 : b = false → y = out) : ifv c x y = out := by
  subst h
  cases b with
  | true => exact h1 rfl
  | false => exact h2 rfl
theorem th_nx {x : R Fl} {ρ : Env} {k : Env → R Fl} {out : R Fl} (h : x = .ok (.nx ρ)) (h2 : k ρ = out) : then_ x k = out := by
  subst h
  exact h2
theorem fors_inv {α : Type} {ag : D → R As} {mb : Env → R Fl} {ρ : Env} {r : R (List D)} (emb : α → D) (xs : List α) (P : Nat → Env → Prop) (hr : r = .ok (xs.map emb)) (h0 : P 0 ρ)
    (hs : ∀ i x ρ, xs[i]? = some x → P i ρ → ∃ as ρ', ag (emb x) = .ok as ∧ (mb (setE ρ as) = .ok (.nx ρ') ∨ mb (setE ρ as) = .ok (.ct ρ')) ∧ P (i + 1) ρ') :
    ∃ ρ', forS ag mb ρ r = .ok (.nx ρ') ∧ P xs.length ρ' := by
  subst hr
  exact loopGo_inv emb xs P h0 hs
theorem th_fors {α : Type} {ag : D → R As} {mb : Env → R Fl} {ρ : Env} {r : R (List D)} {k : Env → R Fl} {out : R Fl} (emb : α → D) (xs : List α) (P : Nat → Env → Prop) (hr : r = .ok (xs.map emb)) (h0 : P 0 ρ)
    (hs : ∀ i x ρ, xs[i]? = some x → P i ρ → ∃ as ρ', ag (emb x) = .ok as ∧ (mb (setE ρ as) = .ok (.nx ρ') ∨ mb (setE ρ as) = .ok (.ct ρ')) ∧ P (i + 1) ρ')
    (hk : ∀ ρ', P xs.length ρ' → k ρ' = out) : then_ (forS ag mb ρ r) k = out := by
  obtain ⟨ρ', h1, h2⟩ := fors_inv emb xs P hr h0 hs
  rw [h1]
  exact hk _ h2
theorem seqIx_nat {n k : Nat} (h : k < n) : seqIndex? (k : Int) n = some k := by
  unfold seqIndex?
  simp
  omega
theorem ownD_of' {ρ : Env} {i : Nat} {ds : List D} (h : ρ[i]? = some (some (.lst ds))) : ownD ρ i = .ok ds := by
  unfold ownD
  rw [h]
theorem appPop_a1 {k n : Nat} (hl : k < n) (h1 : n ≤ LIM) : -(2 ^ 63) ≤ (k : Int) ∧ (k : Int) < 2 ^ 63 := by
  have h1 : n ≤ 1000000 := h1
  exact ⟨by omega, by omega⟩
theorem appPop_a2 {i j : Nat} {ρ : Env} {k : Nat} {ds es : List D} {d : D} (hk : es[k]? = some d) (hc : -(2 ^ 63) ≤ (k : Int) ∧ (k : Int) < 2 ^ 63 ∧ ds.length < LIM) (hs : seqIndex? (k : Int) es.length = some k) : appPopG i j ρ ds es (.int (k : Int)) = .ok (.nx ((ρ.set j (some (.lst (es.eraseIdx k)))).set i (some (.lst (ds ++ [d]))))) := by
  rw [appPopG]
  rw [if_pos hc]
  rw [hs]
  dsimp only
  rw [hk]
theorem appPopS_nat {i j : Nat} {ρ : Env} {a : R D} {k : Nat} {ds es : List D} {d : D} (hi : ρ[i]? = some (some (.lst ds))) (hj : ρ[j]? = some (some (.lst es))) (ha : a = .ok (.int (k : Int))) (hk : es[k]? = some d) (h1 : es.length ≤ LIM) (h2 : ds.length < LIM) :
    appPopS i j ρ a = .ok (.nx ((ρ.set j (some (.lst (es.eraseIdx k)))).set i (some (.lst (ds ++ [d]))))) := by
  have hl : k < es.length := (List.getElem?_eq_some_iff.mp hk).1
  obtain ⟨c1, c2⟩ := appPop_a1 hl h1
  unfold appPopS
  rw [ownD_of' hi, ownD_of' hj, ha, calm_ok, calm_ok, ok_bind, ok_bind, ok_bind]
  exact appPop_a2 hk ⟨c1, c2, h2⟩ (seqIx_nat hl)
theorem rgL1_nat {n : Nat} (h : n ≤ LIM) : rgL1 [.int (n : Int)] = .ok ((List.range n).map fun (i : Nat) => D.int (i : Int)) := by
  have h : n ≤ 1000000 := h
  show rgL 0 (n : Int) = _
  unfold rgL
  rw [if_pos ⟨by omega, by omega, by omega, by omega, by show ((n : Int) - 0).toNat ≤ 1000000; omega⟩, Int.sub_zero, Int.toNat_natCast, rangeD_01]
end DL
namespace DL
open PySem PySem.Spec L2

/-! ### what a def gives is reckoned: rows of ints, pairs, dicts by rows -/
mutual
theorem eqv_refl : ∀ d : D, PyData.eqv d.py d.py = true
  | .non => by simp [D.py, PyData.eqv]
  | .bl b => by simp [D.py, PyData.eqv]
  | .int i => by simp [D.py, PyData.eqv]
  | .str x => by simp [D.py, PyData.eqv]
  | .lst ds => by simp only [D.py, PyData.eqv]; exact eqvs_refl ds
  | .tup ds => by simp only [D.py, PyData.eqv]; exact eqvs_refl ds
  | .scr _ => by simp [D.py, PyData.eqv]
  | .rng _ _ => by simp [D.py, PyData.eqv]
  | .ty _ => by simp [D.py, PyData.eqv]
  | .cls _ => by simp [D.py, PyData.eqv]
  | .obj _ _ _ => by simp [D.py, PyData.eqv]
  | .dk _ _ => by simp [D.py, PyData.eqv]
  | .dt _ _ => by simp [D.py, PyData.eqv]
  | .exc _ _ _ => by simp [D.py, PyData.eqv]
theorem eqvs_refl : ∀ ds : List D, PyData.eqvAll (D.pys ds) (D.pys ds) = true
  | [] => by simp [D.pys, PyData.eqvAll]
  | d :: ds => by simp only [D.pys, PyData.eqvAll]; rw [eqv_refl d, eqvs_refl ds]; rfl
end
/-- a == a -/
theorem eqD_refl {d : D} (h : d.fine 60 = true) : eqD d d = .ok (.bl true) := by
  unfold eqD
  split
  · simp
  · rfl
  · rw [eqv_refl]
    exact gd_ok ⟨h, h⟩
theorem neD_refl {d : D} (h : d.fine 60 = true) : neD d d = .ok (.bl false) := by
  unfold neD
  rw [eqD_refl h]
  rfl
def rowL (r : List Int) : D := .lst (r.map D.int)
theorem eqv_rows : ∀ (r q : List Int), PyData.eqvAll (D.pys (r.map D.int)) (D.pys (q.map D.int)) = decide (r = q)
  | [], [] => by simp [D.pys, PyData.eqvAll]
  | [], _ :: _ => by simp [D.pys, PyData.eqvAll]
  | _ :: _, [] => by simp [D.pys, PyData.eqvAll]
  | x :: r, y :: q => by
    simp only [List.map_cons, D.pys, PyData.eqvAll, D.py, PyData.eqv]
    rw [eqv_rows r q]
    by_cases h : x = y
    · subst h
      simp
    · simp [h]
theorem fine_ints (n : Nat) (r : List Int) : (r.map D.int).all (D.fine n) = true := by
  rw [List.all_eq_true]
  intro d hd
  obtain ⟨i, _, rfl⟩ := List.mem_map.mp hd
  cases n <;> simp [D.fine]
theorem fine_rowL (n : Nat) (r : List Int) : (rowL r).fine (n + 1) = true := by
  simp only [rowL, D.fine]
  exact fine_ints n r
theorem fine_rowD (n : Nat) (r : List Int) : (rowD r).fine (n + 1) = true := by
  simp only [rowD, D.fine]
  exact fine_ints n r
theorem fine_rowsL (n : Nat) (R : List (List Int)) : (D.lst (R.map rowL)).fine (n + 2) = true := by
  simp only [D.fine]
  rw [List.all_eq_true]
  intro d hd
  obtain ⟨i, _, rfl⟩ := List.mem_map.mp hd
  exact fine_rowL n i
theorem fine_rowsD (n : Nat) (R : List (List Int)) : (D.lst (R.map rowD)).fine (n + 2) = true := by
  simp only [D.fine]
  rw [List.all_eq_true]
  intro d hd
  obtain ⟨i, _, rfl⟩ := List.mem_map.mp hd
  exact fine_rowD n i
theorem eqv_rowL (r q : List Int) : PyData.eqv (rowL r).py (rowL q).py = decide (r = q) := by
  simp only [rowL, D.py, PyData.eqv]
  exact eqv_rows r q
theorem any_rowsL (r : List Int) (S : List (List Int)) : ((D.pys (S.map rowL)).any fun z => PyData.eqv z (rowL r).py) = decide (r ∈ S) := by
  induction S with
  | nil => simp [D.pys]
  | cons x S ih =>
    simp only [List.map_cons, D.pys, List.any_cons]
    rw [ih, eqv_rowL]
    by_cases h : x = r
    · subst h
      simp
    · have h2 : ¬ r = x := fun e => h e.symm
      simp [h, h2]
/-- row in rows -/
theorem inG_rowsL (r : List Int) (S : List (List Int)) : inG (rowL r) (.lst (S.map rowL)) = .ok (.bl (decide (r ∈ S))) := by
  have hf : flatIn (rowL r) (.lst (S.map rowL)) = false := by simp [flatIn, rowL, D.flat]
  unfold inG
  rw [hf, if_neg (by decide)]
  show gd ((rowL r).fine 60 = true ∧ (D.lst (S.map rowL)).fine 60 = true) _ = _
  rw [gd_ok ⟨fine_rowL 59 r, fine_rowsL 58 S⟩, any_rowsL]
def kyI (r : List Int) : List Key := r.map Sum.inl
theorem kyI_inj {r q : List Int} : kyI r = kyI q ↔ r = q := by
  constructor
  · intro h
    induction r generalizing q with
    | nil => cases q with
      | nil => rfl
      | cons => simp [kyI] at h
    | cons x r ih => cases q with
      | nil => simp [kyI] at h
      | cons y q =>
        simp only [kyI, List.map_cons, List.cons.injEq, Sum.inl.injEq] at h
        rw [h.1, ih h.2]
  · intro h
    rw [h]
theorem mem_kyI (r : List Int) (S : List (List Int)) : kyI r ∈ S.map kyI ↔ r ∈ S := by
  rw [List.mem_map]
  constructor
  · rintro ⟨q, h1, h2⟩
    rw [← kyI_inj.mp h2]
    exact h1
  · intro h
    exact ⟨r, h, rfl⟩
theorem keysD_ints : ∀ r : List Int, keysD (r.map D.int) = some (kyI r)
  | [] => rfl
  | x :: r => by
    simp only [List.map_cons, keysD, keyD, keysD_ints r, kyI]
theorem getK_some {κ : Type} [DecidableEq κ] {k : κ} : ∀ {ks : List κ} {ds : List D}, k ∈ ks → ks.length = ds.length → ∃ d, getK k ks ds = some d
  | k' :: ks, d :: ds, h, hl => by
    by_cases e : k' = k
    · exact ⟨d, by simp [getK, e]⟩
    · have h2 : k ∈ ks := by
        cases h with
        | head => exact absurd rfl e
        | tail _ h => exact h
      obtain ⟨d2, h3⟩ := getK_some (ds := ds) h2 (by simpa using hl)
      exact ⟨d2, by simp [getK, e, h3]⟩
/-- row in dict -/
theorem inG_dt (r : List Int) (S : List (List Int)) (ds : List D) (hl : ds.length = S.length) : inG (rowD r) (.dt (S.map kyI) ds) = .ok (.bl (decide (r ∈ S))) := by
  have hg : (getK (kyI r) (S.map kyI) ds).isSome = decide (r ∈ S) := by
    by_cases h : r ∈ S
    · obtain ⟨d, hd⟩ := getK_some (ds := ds) ((mem_kyI r S).mpr h) (by simp [hl])
      rw [hd]
      simp [h]
    · rw [getK_none fun e => h ((mem_kyI r S).mp e)]
      simp [h]
  have hk : lookD (.dt (S.map kyI) ds) (rowD r) = some (getK (kyI r) (S.map kyI) ds) := by
    show (keysD (r.map D.int)).map _ = _
    rw [keysD_ints]
    rfl
  show dinD (rowD r) (.dt (S.map kyI) ds) = _
  unfold dinD
  rw [hk]
  show R.ok (D.bl (getK (kyI r) (S.map kyI) ds).isSome) = _
  rw [hg]
theorem putKs_new (r : List Int) (S : List (List Int)) (h : r ∉ S) : putKs (kyI r) (S.map kyI) = (S ++ [r]).map kyI := by
  unfold putKs
  rw [if_neg fun e => h ((mem_kyI r S).mp e), List.map_append]
  rfl
theorem putKd_new (r : List Int) (S : List (List Int)) (d : D) (ds : List D) (h : r ∉ S) : putKd (kyI r) d (S.map kyI) ds = ds ++ [d] := by
  unfold putKd
  rw [if_neg fun e => h ((mem_kyI r S).mp e)]
theorem rowsOf_map : ∀ R : List (List Int), (∀ r ∈ R, r ≠ []) → rowsOf (R.map rowD) = some R
  | [], _ => rfl
  | [] :: R, h => absurd rfl (h [] List.mem_cons_self)
  | (x :: r) :: R, h => by
    have ih := rowsOf_map R fun q hq => h q (List.mem_cons_of_mem _ hq)
    show (match intsOf ((x :: r).map D.int) with
      | some (n :: ns) => (rowsOf (R.map rowD)).map ((n :: ns) :: ·)
      | _ => none) = _
    rw [intsOf_map, ih]
    rfl
/-- sorted of rows: tuples -/
theorem sortedA_rows (R : List (List Int)) (h : ∀ r ∈ R, r ≠ []) : sortedA [.lst (R.map rowD)] = .ok (.lst ((sortR R).map rowD)) := by
  show sortedX (R.map rowD) = _
  cases R with
  | nil => rfl
  | cons x R =>
    have hi : intsOf ((x :: R).map rowD) = none := rfl
    unfold sortedX
    rw [hi, rowsOf_map _ h]
theorem sortedA_ints (r : List Int) : sortedA [.lst (r.map D.int)] = .ok (.lst ((sortI r).map D.int)) := by
  show sortedX (r.map D.int) = _
  unfold sortedX
  rw [intsOf_map]
theorem sortedA_intsT (r : List Int) : sortedA [.tup (r.map D.int)] = .ok (.lst ((sortI r).map D.int)) := by
  show sortedX (r.map D.int) = _
  unfold sortedX
  rw [intsOf_map]
/-! #### statements -/
theorem appS_nx {i : Nat} {ρ : Env} {a : R D} {ds : List D} {d : D} (h : ρ[i]? = some (some (.lst ds))) (ha : a = .ok d) (hl : ds.length < LIM) : appS i ρ a = .ok (.nx (ρ.set i (some (.lst (ds ++ [d]))))) := by
  unfold appS
  rw [ownD_of' h, ha, calm_ok, ok_bind, ok_bind, if_pos hl]
theorem nd_t {p : Prop} [Decidable p] (h : (!decide p) = true) : ¬ p := by simpa using h
theorem nd_f {p : Prop} [Decidable p] (h : (!decide p) = false) : p := by simpa using h
theorem lim_le {n : Nat} (h : n ≤ 100000) : n ≤ LIM := lim63 h
theorem lim_lt' {n : Nat} (h : n ≤ 100000) : n < LIM := Nat.lt_of_le_of_lt h (by decide)
theorem dputS_dt {M : List Nat} {i : Nat} {ρ : Env} {a k : R D} {d : D} {r : List Int} {S : List (List Int)} {ds : List D} (ha : a = .ok d) (hk : keepOk M ρ d = true) (hg : get ρ i = .ok (.dt (S.map kyI) ds)) (hr : k = .ok (rowD r)) (hl : S.length < LIM) (hn : r ∉ S) :
    dputS M i ρ a k = .ok (.nx (ρ.set i (some (.dt ((S ++ [r]).map kyI) (ds ++ [d]))))) := by
  unfold dputS
  rw [ha, ok_bind, if_pos hk, hg, calm_ok, ok_bind, hr, ok_bind]
  show (match keysD (r.map D.int) with
    | some k => if (S.map kyI).length < LIM then R.ok (Fl.nx (ρ.set i (some (.dt (putKs k (S.map kyI)) (putKd k d (S.map kyI) ds))))) else .stuck
    | none => .stuck) = _
  rw [keysD_ints]
  show (if (S.map kyI).length < LIM then R.ok (Fl.nx (ρ.set i (some (.dt (putKs (kyI r) (S.map kyI)) (putKd (kyI r) d (S.map kyI) ds))))) else .stuck) = _
  rw [if_pos (by rw [List.length_map]; exact hl), putKs_new r S hn, putKd_new r S d ds hn]
theorem enumD_map {α : Type} (emb : α → D) (xs : List α) (d0 : α) : ∀ k, enumD k (xs.map emb) = (List.range xs.length).map fun j => .tup [.int ((k + j : Nat) : Int), emb (xs.getD j d0)] := by
  induction xs with
  | nil => intro k; rfl
  | cons x xs ih =>
    intro k
    rw [List.map_cons]
    show D.tup [.int (k : Int), emb x] :: enumD (k + 1) (xs.map emb) = _
    rw [ih (k + 1), List.length_cons, List.range_succ_eq_map, List.map_cons, List.map_map]
    congr 1
    refine List.map_congr_left fun j _ => ?_
    show D.tup [.int ((k + 1 + j : Nat) : Int), emb (xs.getD j d0)] = D.tup [.int ((k + (j + 1) : Nat) : Int), emb ((x :: xs).getD (j + 1) d0)]
    rw [show k + 1 + j = k + (j + 1) from by omega, List.getD_cons_succ]
/-! #### what may be kept -/
theorem has_map {α : Type} {k : Nat} (f : α → D) (xs : List α) (h : ∀ x ∈ xs, (f x).has k = false) : D.hasAny k (xs.map f) = false := by
  induction xs with
  | nil => simp [D.hasAny]
  | cons x xs ih =>
    simp only [List.map_cons, D.hasAny]
    rw [h x List.mem_cons_self, ih fun y hy => h y (List.mem_cons_of_mem _ hy)]
    rfl
theorem has_rowD (k : Nat) (r : List Int) : (rowD r).has k = false := by
  simp only [rowD, D.has]
  exact has_map _ _ fun x _ => by simp [D.has]
theorem has_rowsT (k : Nat) (R : List (List Int)) : (D.tup (R.map rowD)).has k = false := by
  simp only [D.has]
  exact has_map _ _ fun x _ => has_rowD k x
theorem tkey_row (r : List Int) : tkey (rowD r) = .ok (kyI r) := by
  unfold tkey
  show (match keysD (r.map D.int) with
    | some k => DL.R.ok k
    | none => .stuck) = _
  rw [keysD_ints]
/-- a dict from rows -/
theorem dcGo_rows {ag : D → R As} {mt : Env → R Bool} {mk mv : Env → R D} {ρ : Env} (v : List Int → D) : ∀ (Q S : List (List Int)) (ds : List D), (S ++ Q).Nodup → (∀ q ∈ Q, ∃ as, ag (rowD q) = .ok as ∧ mt (setE ρ as) = .ok true ∧ mk (setE ρ as) = .ok (rowD q) ∧ mv (setE ρ as) = .ok (v q)) →
    dcGo ag mt mk mv ρ (Q.map rowD) (S.map kyI) ds = .ok (.dt ((S ++ Q).map kyI) (ds ++ Q.map v))
  | [], S, ds, _, _ => by simp [dcGo]
  | q :: Q, S, ds, hn, h => by
    obtain ⟨as, h1, h2, h3, h4⟩ := h q List.mem_cons_self
    have hq : q ∉ S := fun e => by
      rw [List.nodup_append] at hn
      exact hn.2.2 q e q List.mem_cons_self rfl
    have ih := dcGo_rows (ρ := ρ) (ag := ag) (mt := mt) (mk := mk) (mv := mv) v Q (S ++ [q]) (ds ++ [v q]) (by rw [List.append_assoc]; exact hn) fun p hp => h p (List.mem_cons_of_mem _ hp)
    rw [List.map_cons]
    unfold dcGo
    rw [h1, calm_ok, ok_bind, h2, calm_ok, ok_bind, if_pos rfl, h3, calm_ok, ok_bind, tkey_row, calm_ok, ok_bind, h4, calm_ok, ok_bind, putKs_new q S hq, putKd_new q S _ ds hq, ih]
    simp [List.append_assoc]
theorem dcM_rows {vs : List Nat} {mi : Env → R (List D)} {ag : D → R As} {mt : Env → R Bool} {mk mv : Env → R D} {ρ : Env} (v : List Int → D) (Q : List (List Int)) (hi : mi ρ = .ok (Q.map rowD)) (hl : Q.length ≤ LIM) (hn : Q.Nodup)
    (h : ∀ q ∈ Q, ∃ as, ag (rowD q) = .ok as ∧ mt (setE (wipeE ρ vs) as) = .ok true ∧ mk (setE (wipeE ρ vs) as) = .ok (rowD q) ∧ mv (setE (wipeE ρ vs) as) = .ok (v q)) :
    dcM vs mi ag mt mk mv ρ = .ok (.dt (Q.map kyI) (Q.map v)) := by
  unfold dcM
  have h2 := dcGo_rows v Q [] [] (by simpa using hn) h
  simp only [List.map_nil, List.nil_append] at h2
  rw [hi, ok_bind, if_pos (by rw [List.length_map]; exact hl), h2, calm_ok]
end DL
namespace DL
open PySem PySem.Spec L2

/-! ### tables of faces, counts by rows -/
def facesP (r : List Int) : List (List Int) := (List.range r.length).map fun k => r.take k ++ r.drop (k + 1)
def sizes (T : List (List Int × List (List Int))) : List (List Int × Int) := T.map fun p => (p.1, (p.2.length : Int))
def getC (f : List Int) (C : List (List Int × Int)) : Option Int := (C.find? fun p => decide (p.1 = f)).map (·.2)
theorem find_self {β : Type} : ∀ (T : List (List Int × β)), (T.map fun p => p.1).Nodup → ∀ p ∈ T, (T.find? fun q => decide (q.1 = p.1)) = some p
  | q :: T, hn, p, hp => by
    rw [List.map_cons, List.nodup_cons] at hn
    rw [List.find?_cons]
    by_cases h : q.1 = p.1
    · rw [decide_eq_true h]
      rcases List.mem_cons.mp hp with rfl | hp
      · rfl
      · exact absurd (h ▸ List.mem_map.mpr ⟨p, hp, rfl⟩) hn.1
    · rw [decide_eq_false h]
      rcases List.mem_cons.mp hp with rfl | hp
      · exact absurd rfl h
      · exact find_self T hn.2 p hp
def bookI (n s : Int) (Q : List (List Int)) : D := .obj "Book" ["places", "size", "rooms", "_known"] [.int n, .int s, .tup (Q.map rowD), .dt (Q.map kyI) (Q.map fun _ => .bl true)]
end DL
namespace DL
open PySem PySem.Spec L2

/-! ### operators that a class of the text's own has -/
theorem inst_at {X : Cx} {pins : List (Addr × Obj)} {σ : L2.St} {H : Hp} {s : Shared} {a C dx : Addr} {fs : List (Str × V)} (I : L2.Inv X pins σ H s) (e : H a = some (.ins C dx fs)) : ∃ ox od, PySem.W.InstAt s.heap a ox C od := by
  obtain ⟨h1, _, _, h4, _⟩ := I.hok a _ e
  obtain ⟨o, h6⟩ := I.hok dx _ h1
  exact ⟨PySem.W.instObj C dx, some o, h4, rfl, rfl, h6⟩
theorem cmpBack_of {Q : Value → Shared → Prop} {v : V} {r : Value} {s' : Shared} (h : RelV v r) (hq : Q r s') : PySem.W.CmpBack Q r s' := by
  cases v with
  | non => obtain rfl : r = .none := h; exact hq
  | bl b => obtain rfl : r = .bool b := h; exact hq
  | int i => obtain ⟨t, rfl⟩ := h; exact hq
  | str i => obtain ⟨t, rfl⟩ := h; exact hq
  | byt i => obtain ⟨t, rfl⟩ := h; exact hq
  | flt i => obtain ⟨t, rfl⟩ := h; exact hq
  | ref a => obtain rfl : r = .ref a := h; exact hq
  | ty n => obtain rfl : r = .type n := h; exact hq
def opOf {α : Type} (n : Str) : List (Str × α) → Option α
  | [] => none
  | p :: t => if p.1 = n then some p.2 else opOf n t
structure OpsAt (P : Program) (w : World) (K : PySem.W.Frag) (mg : Str → Option Value) (base : Heap) (m : Str) (j na : Nat) (tab : List (Str × (List D → R D))) : Prop where
  at_ : ∀ n g, opOf n tab = some g → ∃ C k, k ≤ j ∧ MtAt P w K mg base n C m k na g ∧ PySem.W.selfFirst K C = true
section
variable {P : Program} {w : World} {K : PySem.W.Frag} {mg : Str → Option Value} {base : Heap} {m n : Str} {j k na : Nat} {tab : List (Str × (List D → R D))} {g : List D → R D} {C : Addr}
theorem OpsAt.nil : OpsAt P w K mg base m j na [] := ⟨fun n g h => by cases h⟩
theorem OpsAt.cons (F : MtAt P w K mg base n C m k na g) (sf : PySem.W.selfFirst K C = true) (hk : k ≤ j) (T : OpsAt P w K mg base m j na tab) : OpsAt P w K mg base m j na ((n, g) :: tab) := ⟨fun n' g' h => by
  have h : (if n = n' then some g else opOf n' tab) = some g' := h
  by_cases e : n = n'
  · rw [if_pos e] at h
    cases h
    subst e
    exact ⟨C, k, hk, F, sf⟩
  · rw [if_neg e] at h
    exact T.at_ n' g' h⟩
end
/-- a * b, a == b: both of one class -/
def o2G (tab : List (Str × (List D → R D))) : D → D → R D
  | .obj n ks ds, .obj n2 ls es => if n2 = n then (match opOf n tab with | some g => g [.obj n ks ds, .obj n2 ls es] | none => .stuck) else .stuck
  | _, _ => .stuck
def o2T (tab : List (Str × (List D → R D))) (a b : R D) : R D := a >>= fun x => b >>= fun y => o2G tab x y
def tOwn2 (K : PySem.W.Frag) (mg : Str → Option Value) (E : XS) (tab : List (Str × (List D → R D))) (ta tb : TE) : TE := fun σ H Q => ta σ H fun x H1 => tb σ H1 fun y H2 => ∃ n g C a b dx dy fs gs, opOf n tab = some g ∧ mg n = some (.ref C) ∧ x = .ref a ∧ y = .ref b ∧ H2 a = some (.ins C dx fs) ∧ H2 b = some (.ins C dy gs) ∧ spOf K (g0 mg) 2 g [x, y] H2 Q (E σ)
section
variable {X : Cx} {P : Program} {w : World} {K : PySem.W.Frag} {mg : Str → Option Value} {base : Heap} {m n : Str} {j na : Nat} {tab : List (Str × (List D → R D))} {a b : Expr} {pos : Pos} {ta tb : TE} {ma mb : Env → R D}
theorem own2_run {E : XS} {pins : List (Addr × Obj)} {σ : L2.St} {H2 : Hp} {s2 : Shared} {v u : Value} {x y : V} {Q : VK} {F : Value → Value → Sem Value} (T : OpsAt X.prog X.w X.K X.mg X.base m j 2 tab) (hr : Room j X.A) (hx : ∀ σ, PassesAt (L2N.CX X.prog X.w) X σ (E σ)) (I2 : L2.Inv X pins σ H2 s2) (rx : RelV x v) (ry : RelV y u)
    (q : ∃ n g C a b dx dy fs gs, opOf n tab = some g ∧ X.mg n = some (.ref C) ∧ x = .ref a ∧ y = .ref b ∧ H2 a = some (.ins C dx fs) ∧ H2 b = some (.ins C dy gs) ∧ spOf X.K (g0 X.mg) 2 g [x, y] H2 Q (E σ))
    (run : ∀ {C a b f : Addr} {ox oy : Obj} {od oe : Option Obj} {m' : Str → Option Value}, PyProof.Rows.Fr X.base X.env.locals s2.heap m' → X.K.In X.base → PySem.W.InstAt s2.heap a ox C od → PySem.W.InstAt s2.heap b oy C oe → PySem.W.selfFirst X.K C = true → PySem.W.findIn X.K (.ref C) m = some (some (.ref f)) → PySem.W.isFn X.K (.ref f) = true →
      wpAny (model X.prog X.w) X.A (call (.ref f) [.ref a, .ref b]) (PySem.W.CmpBack (EP X pins σ Q)) X.xe s2 → wpAny (model X.prog X.w) X.A (F (.ref a) (.ref b)) (EP X pins σ Q) X.xe s2) :
    wpAny (model X.prog X.w) X.A (F v u) (EP X pins σ Q) X.xe s2 := by
  obtain ⟨n, g, C, a', b', dx, dy, fs, gs, ho, hC, rfl, rfl, ha, hb, hs⟩ := q
  obtain rfl : v = .ref a' := rx
  obtain rfl : u = .ref b' := ry
  obtain ⟨C', k, hk, F1, sf⟩ := T.at_ n g ho
  obtain ⟨f, fd, ps, hC', c, hm, F2, hbd⟩ := F1.ex
  have e1 : C = C' := by
    have z := hC.symm.trans hC'
    cases z
    rfl
  subst e1
  obtain ⟨m', fr⟩ := I2.fr
  obtain ⟨ox, od, i1⟩ := inst_at I2 ha
  obtain ⟨oy, oe, i2⟩ := inst_at I2 hb
  exact run fr I2.ok.mod.kin i1 i2 sf hm.at_ hm.fn (thn (run_fnS F2 (hr.mono hk) hbd (hx σ) I2 (Paired.cons (show RelV (.ref a') (.ref a') from rfl) (Paired.cons (show RelV (.ref b') (.ref b') from rfl) .nil)) hs) fun r s' hh => by
    obtain ⟨v, H', I', rv, hq⟩ := hh
    exact cmpBack_of rv ⟨v, H', I', rv, hq⟩)
theorem pe_binO {op : Operator} {E : XS} (T : OpsAt X.prog X.w X.K X.mg X.base (dunder op.info.2) j 2 tab) (hr : Room j X.A) (hx : ∀ σ, PassesAt (L2N.CX X.prog X.w) X σ (E σ)) (pa : PE X a ta) (pb : PE X b tb) : PE X (.BinOp a op b pos) (tOwn2 X.K X.mg E tab ta tb) :=
  ⟨fun pins s σ H Q I h => wpAny_BinOp (binT pa pb I h fun v u s2 x y H2 I2 rx ry q => own2_run T hr hx I2 rx ry q fun fr kin i1 i2 sf ha hf h => PySem.W.binop_K fr kin i1 (PySem.W.InstAt.type i2) sf ha hf h)⟩
theorem own2_sn {E : Wh} (sa : Sn X.K (gm X E) E.e (Rep X.K (gm X E)) ta ma) (sb : Sn X.K (gm X E) E.e (Rep X.K (gm X E)) tb mb) (h0 : E.x = fun _ => none) : Sn X.K (gm X E) E.e (Rep X.K (gm X E)) (tOwn2 X.K X.mg E.e tab ta tb) (fun ρ => o2T tab (ma ρ) (mb ρ)) := by
  obtain ⟨E1, E2⟩ := E
  have h0 : E2 = fun _ => none := h0
  subst h0
  intro σ I H ρ Q re ex h
  refine sa.run re ex h fun d v I1 H1 _ s1 rx h => ?_
  refine sb.run (re.mono s1.i) s1.e h fun d2 v2 I2 H2 _ s2 ry h => ?_
  have rx := rx.mono s2.i
  cases rx with
  | @obj a C dx n fs ds ha hc ra =>
    cases ry with
    | @obj b C2 dy n2 gs es hb hc2 rb =>
      have h : Out X.K (g0 X.mg) (E1 σ) (Rep X.K (g0 X.mg)) I2 H2 (if n2 = n then (match opOf n tab with | some g => g [.obj n (fs.map (·.1)) ds, .obj n2 (gs.map (·.1)) es] | none => .stuck) else .stuck) Q := h
      obtain ⟨hn, h⟩ := out_if h
      subst hn
      cases ho : opOf n2 tab with
      | none =>
        rw [ho] at h
        exact h.elim
      | some g =>
        rw [ho] at h
        have e1 : C2 = C := by
          have z := hc2.symm.trans hc
          cases z
          rfl
        subst e1
        exact ⟨n2, g, C2, a, b, dx, dy, fs, gs, ho, hc, rfl, rfl, s2.e _ _ ha, s2.e _ _ hb, I2, [_, _], rfl, s2.e, .cons (Rep.obj ha hc ra) (.cons (Rep.obj hb hc2 rb) .nil), h⟩
    | _ => exact h.elim
  | _ => exact h.elim
theorem me_binO {op : Operator} {E : Wh} (T : OpsAt P w K mg base (dunder op.info.2) j 2 tab) (hr : Room j X.A) (hx : ∀ σ, PassesAt (L2N.CX X.prog X.w) X σ (E.e σ)) (ha : ME X E a ta ma) (hb : ME X E b tb mb) (h0 : E.x = fun _ => none := by rfl) (hP : X.prog = P := by rfl) (hw : X.w = w := by rfl) (hK : X.K = K := by rfl) (hmg : X.mg = mg := by rfl) (hbs : X.base = base := by rfl) :
    ME X E (.BinOp a op b pos) (tOwn2 K mg E.e tab ta tb) (fun ρ => o2T tab (ma ρ) (mb ρ)) := by
  subst hP hw hK hmg hbs
  exact ⟨pe_binO T hr hx ha.pe hb.pe, own2_sn ha.sn hb.sn h0⟩
end
end DL
namespace DL
open PySem PySem.Spec L2

/-! ### a def whose promise speaks of the state it is called in -/
def FnS (P : Program) (w : World) (K : PySem.W.Frag) (mg : Str → Option Value) (base : Heap) (CX : CXT) (k : Nat) (f : Addr) (fd : FuncData) (ps : List Str) (sp : Shared → Sp) : Prop :=
  ∀ (A : Around) (outer : List PySem.Env) (s : Shared) (H : Hp) (args : Args) (us : List Value) (vs : List V) (Q : VK) (E : XK), Room k A → Env0 P w K mg base A outer s H → BindsTo s fd args (ps.zip us) → Vals vs us → sp s vs H Q E → codeAny (model P w) A (Code.call (Value.ref f) args) (CR CX outer P w H s Q E) s
theorem fn_ofS {CX : CXT} {P : Program} {w : World} {K : PySem.W.Frag} {mg : Str → Option Value} {base : Heap} {k : Nat} {f : Addr} {name qual : Str} {params : Arguments} {body : List Stmt} {scope : Scope} {dV kV doc pm cdv ct oc : Value} {an od : Option Addr} {osl : Array (Option Value)} {N ps : List Str} {sp : Shared → Sp}
    (lk : List.lookup f K = some { cls := oc, dict := od, data := Data.func (PySem.W.fnOf name qual params body scope dV kV doc pm an cdv ct), slots := osl }) (hcd : PySem.W.codeIn K cdv qual = true) (S : FnScope N ps scope) (len : ∀ s vs H Q E, sp s vs H Q E → vs.length = ps.length)
    (hbody : ∀ (A : Around) (outer : List PySem.Env) (s : Shared) (H : Hp) (vs : List V) (Q : VK) (E : XK), Room k (A.deeper (PyProof.Rows.envOfC qual scope s.heap.objs.size f cdv)) → sp s vs H Q E → ∃ t, PSs (cxOf CX P w K mg base N qual scope f cdv A outer s H E) body t ∧ t { nx := fun x H' => Q V.non H', rt := Q } (L2.start N vs) H) :
    FnS P w K mg base CX (k + 1) f (PySem.W.fnOf name qual params body scope dV kV doc pm an cdv ct) ps sp := by
  intro A outer s H args us vs Q E hr e0 hb r hsp
  have hl := len s vs H Q E hsp
  have KX := PySem.W.Frag.In.keeps e0.mod.kin fun b o e => (e0.bs b o e).1
  have lim := Heap.NoLimit.keeps e0.mod.nolimit fun b o e => (e0.bs b o e).1
  refine codeAny_call_function (Room.depth hr) (KX f _ lk) rfl S.co S.gen rfl (PySem.W.codeRec_of KX hcd) (hb (model P w) A.in1 _ _ ?_)
  refine wpAny_newFunctionEnv_cells S.kind (fun x hy => by
    obtain ⟨n, v⟩ := x
    rcases S.par n (List.of_mem_zip hy).1 with q | q
    · exact .inl q
    · exact .inr ⟨q, PySem.W.cellsFrom_some scope.names (s.heap.objs.size + 1) [] (Or.inl q)⟩) fun env he s1 x => ?_
  subst he
  refine ⟨Heap.NoLimit.keeps lim x.toInCall.keep, codeAny_func ?_⟩
  obtain ⟨t, ht, hq⟩ := hbody A outer s H vs Q E (Room.deeper hr (PyProof.Rows.envOfC qual scope s.heap.objs.size f cdv)) hsp
  have I := inv_start (CX := CX) (E := E) S hr.hd e0 hl r x
  refine wpAny_mono (ht.run [] s1 (L2.start N vs) H { nx := fun x H' => Q V.non H', rt := Q } I hq) (fun fl s' hs => ?_) fun e s' hs => hs
  cases fl with
  | next =>
    obtain ⟨σ', H', J, q⟩ := hs
    exact ⟨V.non, H', J.os, J.bare, J.base, J.hok, rfl, q⟩
  | brk =>
    obtain ⟨_, _, _, q⟩ := hs
    exact q.elim
  | cont =>
    obtain ⟨_, _, _, q⟩ := hs
    exact q.elim
  | ret u =>
    obtain ⟨v, σ', H', J, rv, q⟩ := hs
    exact ⟨v, H', J.os, J.bare, J.base, J.hok, rv, q⟩
/-! ### objects of the text's own, walked by their __iter__ -/
abbrev tupIt (l : Addr) : Obj := { cls := Value.type "tuple_iterator", data := Data.fields #[Value.ref l, Value.int 0 0] }
def ItT (l it : Addr) : HO := .ext fun h => h.get? it = some (tupIt l)
theorem itT_ok {l it : Addr} {P : Program} {w : World} {H : Hp} {h : Heap} (e : h.get? it = some (tupIt l)) : ObjOk P w H h it (ItT l it) :=
  ⟨e, ⟨_, e⟩, fun h1 h2 e1 k => k _ e1⟩
theorem call_iter_tup {prog : Program} {w : World} {A : Around} {E : Value → Shared → Prop} {s : Shared} {l : Addr} {items : Array Value} {Q : Value → Shared → Prop} (ht : s.heap.IsTuple l items)
    (h : Q (Value.ref s.heap.objs.size) { heap := s.heap.push (tupIt l), gens := s.gens, drawn := s.drawn, toks := s.toks, os := s.os }) : wpAny (model prog w) A (call (Value.builtin "iter") [Value.ref l]) Q E s :=
  Calls.call_function_entry (by decide +kernel) (by decide +kernel) PySem.W.kdk_entry_iter (PySem.W.kdk_args_iter (Value.ref l))
    (id (wpAny_bind (wpAny_of_eq (Eq.refl (someArgs "iter" 1 2 { pos := [Value.ref l] })) (id (wpAny_bind (wpAny_pyIter_tuple ht (wpAny_pure ⟨_, rfl, h⟩)))))))
def rIterT (K : PySem.W.Frag) (n : Nat) : List V → Hp → VK → Prop := fun xs H Q => ∃ (l : Addr) (zs : List V), xs = [.ref l] ∧ SqT K H l zs ∧ ∀ it, H it = none → n ≤ it → Q (.ref it) (upd H it (ItT l it))
theorem call_iterT {X : Cx} : CallR X (Value.builtin "iter") (rIterT X.K X.s_0.heap.objs.size) := by
  intro pins s σ H xs us Q I r h
  obtain ⟨l, zs, rfl, hq, q⟩ := h
  obtain rfl := Vals.ref1 r
  obtain ⟨its, rv, pl, hz⟩ := Inv.tuple I hq
  refine call_iter_tup (items := its.toArray) pl ?_
  exact ⟨V.ref s.heap.objs.size, upd H s.heap.objs.size (ItT l s.heap.objs.size), Inv.laid I (fun b u e => Heap.get?_push_of_some (tupIt l) e) (Nat.le_refl s.heap.objs.size) (itT_ok (Heap.get?_push_size s.heap rfl)), rfl, q s.heap.objs.size (HOk.fresh I.hok (Nat.le_refl s.heap.objs.size)) (Inv.sz I)⟩
/-- what __iter__ promises: the iterator of the field, new -/
def spIt (K : PySem.W.Frag) (C : Addr) (F : Str) (s : Shared) : Sp := fun vs H Q _ => ∃ a dx fs l zs, vs = [.ref a] ∧ H a = some (.ins C dx fs) ∧ fs.lookup F = some (.ref l) ∧ SqT K H l zs ∧ ∀ it, H it = none → s.heap.objs.size ≤ it → Q (.ref it) (upd H it (ItT l it))
structure ItAt (P : Program) (w : World) (K : PySem.W.Frag) (mg : Str → Option Value) (base : Heap) (n F : Str) (k : Nat) : Prop where
  ex : ∃ C f fd ps, mg n = some (.ref C) ∧ Meth K C "__iter__" f ∧ ps.length = 1 ∧ FnS P w K mg base (L2N.CX P w) k f fd ps (spIt K C F) ∧ Binds K fd ps []
structure ItsAt (P : Program) (w : World) (K : PySem.W.Frag) (mg : Str → Option Value) (base : Heap) (j : Nat) (tab : List (Str × Str)) : Prop where
  at_ : ∀ n F, opOf n tab = some F → ∃ k, k ≤ j ∧ ItAt P w K mg base n F k
def iOwn (K : PySem.W.Frag) (mg : Str → Option Value) (tab : List (Str × Str)) (t : TE) : TI := fun σ H R => t σ H fun x H1 => ∃ n F C a dx fs l zs, opOf n tab = some F ∧ mg n = some (.ref C) ∧ x = .ref a ∧ H1 a = some (.ins C dx fs) ∧ fs.lookup F = some (.ref l) ∧ SqT K H1 l zs ∧ R (Itt K l) H1
theorem it_run {X : Cx} {pins : List (Addr × Obj)} {σ : L2.St} {H : Hp} {s : Shared} {tab : List (Str × Str)} {tg : Expr} {R : It → Hp → Prop} {j : Nat} {n F : Str} {C a dx l : Addr} {fs : List (Str × V)} {zs : List V} (T : ItsAt X.prog X.w X.K X.mg X.base j tab) (hr : Room j X.A) (I : L2.Inv X pins σ H s)
    (ho : opOf n tab = some F) (hC : X.mg n = some (.ref C)) (ha : H a = some (.ins C dx fs)) (hl : fs.lookup F = some (.ref l)) (hz : SqT X.K H l zs) (hR : R (Itt X.K l) H) : wpAny (model X.prog X.w) X.A (pyIter (.ref a)) (PIE X pins σ tg R) X.xe s := by
  obtain ⟨k, hk, F1⟩ := T.at_ n F ho
  obtain ⟨C', f, fd, ps, hC', hm, hp1, F2, hb⟩ := F1.ex
  have e1 : C = C' := by
    have z := hC.symm.trans hC'
    cases z
    rfl
  subst e1
  obtain ⟨m', fr⟩ := I.fr
  obtain ⟨ox, od, i1⟩ := inst_at I ha
  refine PySem.W.owit_iter fr I.ok.mod.kin i1 hm.at_ hm.fn ?_
  have hsp : spIt X.K C F s [.ref a] H (fun v H' => ∃ it, v = .ref it ∧ H it = none ∧ s.heap.objs.size ≤ it ∧ H' = upd H it (ItT l it)) E0 := ⟨a, dx, fs, l, zs, rfl, ha, hl, hz, fun it hi hs => ⟨it, rfl, hi, hs, rfl⟩⟩
  have r : Vals [V.ref a] [Value.ref a] := Paired.cons (show RelV (.ref a) (.ref a) from rfl) .nil
  have b := hb s [Value.ref a] I.kIn (by rw [List.append_nil]; exact hp1.symm)
  rw [List.append_nil] at b
  refine wpAny_call (codeAny_mono (F2 X.A X.stack s H ⟨[Value.ref a], []⟩ [Value.ref a] _ _ E0 (hr.mono hk) I.env0 b r hsp) fun r s' hq => ?_)
  cases r with
  | error e => exact (cx_no hq).elim
  | ok fl =>
    cases fl with
    | ret u =>
      obtain ⟨v, H', I', rv, it, rfl, hi, hs, rfl⟩ := Inv.after I hq
      obtain rfl : u = .ref it := rv
      have hget : s'.heap.get? it = some (tupIt l) := (I'.hok it _ upd_same).1
      have hd : ItX.dropH (upd H it (ItT l it)) it = H := by
        funext b
        unfold ItX.dropH
        by_cases e : b = it
        · rw [if_pos e, e, hi]
        · rw [if_neg e, upd_ne e]
      have I2 : L2.Inv X pins σ H s' := by
        have := ItX.inv_drop I' (a := it) upd_same
        rwa [hd] at this
      have hfp : FpOk X pins H it := by
        have := ItX.inv_fp I' (a := it) upd_same (Nat.le_trans (Inv.sz I) hs)
        rwa [hd] at this
      refine wpAny_specialOf (T := "tuple_iterator") ⟨_, hget, rfl⟩ PySem.F.slot_tuple_iterator_next.lookup ?_
      exact ⟨it, [it], fun i h => h.IsTupleIter it l i, Itt X.K l, H, rfl, I2, turn_tuple l it, ⟨_, hget, rfl, rfl⟩, fun b hb => (by
        rw [List.mem_singleton] at hb
        subst hb
        exact hfp), hR⟩
    | _ => exact hq.elim
theorem pi_own {X : Cx} {tab : List (Str × Str)} {tg e : Expr} {t : TE} {j : Nat} (T : ItsAt X.prog X.w X.K X.mg X.base j tab) (hr : Room j X.A) (pt : PE X e t) : PI X tg e (iOwn X.K X.mg tab t) := ⟨fun pins s σ H R I h => thn (pt.run pins s σ H _ I h) fun u s1 hh => by
  obtain ⟨x, H1, I1, rx, n, F, C, a, dx, fs, l, zs, ho, hC, rfl, ha, hl, hz, hR⟩ := hh
  obtain rfl : u = .ref a := rx
  exact it_run T hr I1 ho hC ha hl hz hR⟩
def ownG (tab : List (Str × Str)) : D → R (List D)
  | .obj n ks ds => match opOf n tab with
    | some F => (match getF F ks ds with
      | some (.tup es) => .ok es
      | _ => .stuck)
    | none => .stuck
  | _ => .stuck
def ownIts (tab : List (Str × Str)) (a : R D) : R (List D) := a >>= ownG tab
theorem mi_own {X : Cx} {P : Program} {w : World} {K : PySem.W.Frag} {mg : Str → Option Value} {base : Heap} {E : Wh} {tab : List (Str × Str)} {tg e : Expr} {t : TE} {m : Env → R D} {j : Nat} (T : ItsAt P w K mg base j tab) (hr : Room j X.A) (h : ME X E e t m) (h0 : E.x = fun _ => none := by rfl) (hP : X.prog = P := by rfl) (hw : X.w = w := by rfl) (hK : X.K = K := by rfl) (hmg : X.mg = mg := by rfl) (hb : X.base = base := by rfl) :
    MI X E tg e (iOwn K mg tab t) (fun ρ => ownIts tab (m ρ)) := by
  subst hP hw hK hmg hb
  obtain ⟨E1, E2⟩ := E
  have h0 : E2 = fun _ => none := h0
  subst h0
  obtain ⟨pt, st⟩ := h
  refine ⟨pi_own T hr pt, fun σ I H ρ Q re ex h => ?_⟩
  refine st.run re ex h fun d v I1 H1 _ s1 rx h => ?_
  cases rx with
  | @obj a C dx n fs ds ha hc ra =>
    have h : Out X.K (g0 X.mg) (E1 σ) (ItOk X.K (g0 X.mg)) I1 H1 (match opOf n tab with
      | some F => (match getF F (fs.map (·.1)) ds with
        | some (.tup es) => R.ok es
        | _ => .stuck)
      | none => .stuck) Q := h
    cases ho : opOf n tab with
    | none =>
      rw [ho] at h
      exact h.elim
    | some F =>
      rw [ho] at h
      have h : Out X.K (g0 X.mg) (E1 σ) (ItOk X.K (g0 X.mg)) I1 H1 (match getF F (fs.map (·.1)) ds with
        | some (.tup es) => R.ok es
        | _ => .stuck) Q := h
      cases hf : getF F (fs.map (·.1)) ds with
      | none =>
        rw [hf] at h
        exact h.elim
      | some d' =>
        rw [hf] at h
        obtain ⟨v', hv, rv⟩ := getF_rep ra hf
        cases d' with
        | tup es =>
          cases rv with
          | tup hh ra2 => exact ⟨n, F, C, a, dx, fs, _, _, ho, hc, rfl, s1.e _ _ ha, hv, SqT.of (s1.e _ _ hh), h.here s1.e (it_tup (SqT.of hh) ra2)⟩
        | _ => exact h.elim
  | _ => exact h.elim
/-- of either kind -/
def itsO (tab : List (Str × Str)) (a : R D) : R (List D) := a >>= fun d => match d with
  | .obj n ks ds => ownG tab (.obj n ks ds)
  | d => itemsD d
theorem MI.or {X : Cx} {E : Wh} {tg e : Expr} {t t' : TI} {m m' mm : Env → R (List D)} (h : MI X E tg e t m) (h' : MI X E tg e t' m') (hc : ∀ ρ, mm ρ = m ρ ∨ mm ρ = m' ρ) : MI X E tg e (fun σ H R => t σ H R ∨ t' σ H R) mm :=
  ⟨PI.or h.pe h'.pe, sn_or h.sn h'.sn hc⟩
theorem mi_seqO {X : Cx} {P : Program} {w : World} (K : PySem.W.Frag) {mg : Str → Option Value} {base : Heap} {E : Wh} {tab : List (Str × Str)} {tg e : Expr} {t : TE} {m : Env → R D} {j k : Nat} (T : ItsAt P w K mg base j tab) (hr : Room k X.A) (h : ME X E e t m) (hj : j ≤ k := by first | decide | omega) (h0 : E.x = fun _ => none := by rfl) (hP : X.prog = P := by rfl) (hw : X.w = w := by rfl) (hK : X.K = K := by rfl) (hmg : X.mg = mg := by rfl) (hb : X.base = base := by rfl) :
    MI X E tg e (fun σ H R => iOwn K mg tab t σ H R ∨ (iList K t σ H R ∨ iTup K t σ H R)) (fun ρ => itsO tab (m ρ)) := by
  have h1 : MI X E tg e _ _ := mi_own T (hr.mono hj) h h0 hP hw hK hmg hb
  refine MI.or h1 (mi_seq K h hK) fun ρ => ?_
  unfold itsO ownIts its
  cases m ρ with
  | ok d => cases d <;> first | exact .inl rfl | exact .inr rfl
  | err _ _ => exact .inl rfl
  | stuck => exact .inl rfl
theorem ItsAt.nil {P : Program} {w : World} {K : PySem.W.Frag} {mg : Str → Option Value} {base : Heap} {j : Nat} : ItsAt P w K mg base j [] := ⟨fun n g h => by cases h⟩
theorem ItsAt.cons {P : Program} {w : World} {K : PySem.W.Frag} {mg : Str → Option Value} {base : Heap} {j k : Nat} {n F : Str} {tab : List (Str × Str)} (T1 : ItAt P w K mg base n F k) (hk : k ≤ j) (T : ItsAt P w K mg base j tab) : ItsAt P w K mg base j ((n, F) :: tab) := ⟨fun n' g' h => by
  have h : (if n = n' then some F else opOf n' tab) = some g' := h
  by_cases e : n = n'
  · rw [if_pos e] at h
    cases h
    subst e
    exact ⟨k, hk, T1⟩
  · rw [if_neg e] at h
    exact T.at_ n' g' h⟩
/-- def __iter__(self): return iter(self.F) -/
theorem ItAt.mk' {P : Program} {w : World} {K : PySem.W.Frag} {mg : Str → Option Value} {base : Heap} {n F : Str} {qual : Str} {st : Stmt} {f C : Addr} {fd : FuncData} {p p2 p3 p4 p5 : Pos} (F0 : Fun K "__iter__" qual st f fd) (hC : mg n = some (.ref C)) (hc : Cls K C) (no : NoAttr K C F) (hm : Meth K C "__iter__" f) (b : Binds K fd ["self"] [])
    (S : FnScope ["self"] ["self"] (defScope st)) (hbody : defBody st = [.Return (some (.Call (.Name "iter" p) [.Attribute (.Name "self" p2) F p3] [] p4)) p5]) (bi : mg "iter" = none)
    (hg : ∀ (cdv : Value) (A : Around) (outer : List PySem.Env) (s : Shared) (H : Hp) (E : XK), Gl (cxOf (L2N.CX P w) P w K mg base ["self"] qual (defScope st) f cdv A outer s H E) "iter") (hv : Vis (defScope st) "self")
    (ha : ∀ (cdv : Value) (A : Around) (outer : List PySem.Env) (s : Shared) (H : Hp) (E : XK), attributeBase (.Name "self" p2) F (cxOf (L2N.CX P w) P w K mg base ["self"] qual (defScope st) f cdv A outer s H E).env (eval (.Name "self" p2) (cxOf (L2N.CX P w) P w K mg base ["self"] qual (defScope st) f cdv A outer s H E).env) = eval (.Name "self" p2) (cxOf (L2N.CX P w) P w K mg base ["self"] qual (defScope st) f cdv A outer s H E).env) :
    ItAt P w K mg base n F 1 := by
  obtain ⟨⟨oc, od, kV, doc, pm, an, cdv, ct, osl, rfl, lk, hcd⟩, kp⟩ := F0
  refine ⟨C, f, _, ["self"], hC, hm, rfl, fn_ofS (k := 0) lk hcd S (fun s vs H Q E h => ?_) (fun A outer s H vs Q E hr h => ?_), b⟩
  · obtain ⟨_, _, _, _, _, rfl, _⟩ := h
    rfl
  · obtain ⟨a, dx, fs, l, zs, rfl, h1, h2, h3, h4⟩ := h
    rw [hbody]
    refine ⟨_, pss_one (ps_ret (pe_callB (call_iterT (X := cxOf (L2N.CX P w) P w K mg base ["self"] qual (defScope st) f cdv A outer s H E)) (hg cdv A outer s H E) bi (by decide +kernel) (pa_cons (pe_fld (pe_var (i := 0) rfl hv) (ha cdv A outer s H E)) pa_nil))), ?_⟩
    exact ⟨.ref a, rfl, a, C, dx, fs, .ref l, rfl, h1, hc, no, h2, l, zs, rfl, h3, h4⟩
end DL
namespace DL
open PySem PySem.Spec L2

/-! ### list(o), o an object of the text's own with __iter__ and __len__ -/
theorem hint_own {prog : Program} {w : World} {A : Around} {E : Value → Shared → Prop} {s : Shared} {K : PySem.W.Frag} {x C L f : Addr} {h₀ : Heap} {m : Str → Option Value} {ox : Obj} {od : Option Obj} {Q : Bool → Shared → Prop} (fr : PyProof.Rows.Fr h₀ L s.heap m) (kin : K.In h₀) (J : PySem.W.InstAt s.heap x ox C od)
    (hl : PySem.W.findIn K (.ref C) "__len__" = some (some (.ref f))) (hf : PySem.W.isFn K (.ref f) = true)
    (h : wpAny (model prog w) A.in1 (call (.ref f) [.ref x]) (fun v s' => ∃ (n : Int) (t : Tok), v = .int n t ∧ 0 ≤ n ∧ n ≤ 1000000 ∧ ∀ tk, Q (n != 0) { s' with toks := tk }) (fun _ _ => False) s) :
    wpAny (model prog w) A (Builtin.List.listLengthHint (.ref x)) Q E s := by
  have hK : K.In s.heap := PySem.W.Frag.In.keeps kin fr.keep
  refine id (wpAny_bind (wpAny_bind (PySem.W.Looks.here (PySem.W.InstAt.type J) (PySem.W.Looks.here (PySem.W.looks_findIn hK hl) (PySem.W.KFB.if_not rfl ?_)))))
  refine PySem.wpAny_ite_true (by rfl) ?_
  refine wpAny_bind (wpAny_rule (wpAny_bind (wpAny_attempt (PySem.W.len_K fr kin J hl hf ?_))))
  refine wpAny_mono h (fun v s' hv => ?_) (fun e s' he => he.elim)
  obtain ⟨n, t, rfl, h0, h1, hq⟩ := hv
  refine ⟨⟨h0, by omega⟩, ?_⟩
  refine id (wpAny_bind (wpAny_pure (PySem.W.KFB.if_not ?_ (wpAny_pure (hq _)))))
  unfold Builtin.List.listTooLong
  have h2 : n.toNat ≤ 1000000 := by omega
  exact decide_eq_false (Nat.not_lt.mpr (Nat.le_trans h2 (by decide)))
theorem unpin {X : Cx} {pins more : List (Addr × Obj)} {σ : L2.St} {H : Hp} {s : Shared} (I : L2.Inv X (pins ++ more) σ H s) : L2.Inv X pins σ H s :=
  { I with pin := fun p hp => I.pin p (by
      rw [← List.append_assoc]
      exact List.mem_append_left _ hp) }
theorem pinned_at {X : Cx} {pins more : List (Addr × Obj)} {σ : L2.St} {H : Hp} {s : Shared} {b : Addr} {o : Obj} (I : L2.Inv X (pins ++ more) σ H s) (h : (b, o) ∈ more) : s.heap.get? b = some o ∧ H b = none := by
  obtain ⟨h1, h2, _⟩ := I.pin (b, o) (List.mem_append_right _ (List.mem_append_right _ h))
  exact ⟨h1, h2⟩
theorem env_at {X : Cx} {A : Around} {pins : List (Addr × Obj)} {σ : L2.St} {H : Hp} {s : Shared} (hA : A.frames = X.A.frames) (I : L2.Inv X pins σ H s) : Env0 X.prog X.w X.K X.mg X.base A X.stack s H := by
  have e0 := I.env0
  exact ⟨hA.trans e0.frames, e0.mod, e0.bs, e0.bsz, e0.funs, e0.frf, e0.hok, e0.bare⟩
/-- o.__iter__() -/
theorem iter_call {X : Cx} {A : Around} {pins : List (Addr × Obj)} {σ : L2.St} {H : Hp} {s : Shared} {F : Str} {k : Nat} {C a dx l f : Addr} {fd : FuncData} {ps : List Str} {fs : List (Str × V)} {zs : List V} {Q : Value → Shared → Prop} {E : Value → Shared → Prop} (hA : A.frames = X.A.frames)
    (F2 : FnS X.prog X.w X.K X.mg X.base (L2N.CX X.prog X.w) k f fd ps (spIt X.K C F)) (hb : Binds X.K fd ps []) (hp1 : ps.length = 1) (hr : Room k A) (I : L2.Inv X pins σ H s) (ha : H a = some (.ins C dx fs)) (hl : fs.lookup F = some (.ref l)) (hz : SqT X.K H l zs)
    (hQ : ∀ (it : Addr) (s' : Shared), L2.Inv X pins σ H s' → FpOk X pins H it → s'.heap.get? it = some (tupIt l) → Q (.ref it) s') : wpAny (model X.prog X.w) A (call (.ref f) [.ref a]) (PySem.W.OwitIt (model X.prog X.w) A Q E) E s := by
  have hsp : spIt X.K C F s [.ref a] H (fun v H' => ∃ it, v = .ref it ∧ H it = none ∧ s.heap.objs.size ≤ it ∧ H' = upd H it (ItT l it)) E0 := ⟨a, dx, fs, l, zs, rfl, ha, hl, hz, fun it hi hs => ⟨it, rfl, hi, hs, rfl⟩⟩
  have r : Vals [V.ref a] [Value.ref a] := Paired.cons (show RelV (.ref a) (.ref a) from rfl) .nil
  have b := hb s [Value.ref a] I.kIn (by rw [List.append_nil]; exact hp1.symm)
  rw [List.append_nil] at b
  refine wpAny_call (codeAny_mono (F2 A X.stack s H ⟨[Value.ref a], []⟩ [Value.ref a] _ _ E0 hr (env_at hA I) b r hsp) fun r s' hq => ?_)
  cases r with
  | error e => exact (cx_no hq).elim
  | ok fl =>
    cases fl with
    | ret u =>
      obtain ⟨v, H', I', rv, it, rfl, hi, hs, rfl⟩ := Inv.after I hq
      obtain rfl : u = .ref it := rv
      have hget : s'.heap.get? it = some (tupIt l) := (I'.hok it _ upd_same).1
      have hd : ItX.dropH (upd H it (ItT l it)) it = H := by
        funext b
        unfold ItX.dropH
        by_cases e : b = it
        · rw [if_pos e, e, hi]
        · rw [if_neg e, upd_ne e]
      have I2 : L2.Inv X pins σ H s' := by
        have := ItX.inv_drop I' (a := it) upd_same
        rwa [hd] at this
      have hfp : FpOk X pins H it := by
        have := ItX.inv_fp I' (a := it) upd_same (Nat.le_trans (Inv.sz I) hs)
        rwa [hd] at this
      exact wpAny_specialOf (T := "tuple_iterator") ⟨_, hget, rfl⟩ PySem.F.slot_tuple_iterator_next.lookup (hQ it s' I2 hfp hget)
    | _ => exact hq.elim
/-- the items go into the list -/
theorem loop_tup {prog : Program} {w : World} {A : Around} {R : Result → Shared → Prop} {s : Shared} {S it l : Addr} {its : List Value} {c : Nat} {res : Value} (hh : A.handled = none) (h1 : S ≠ it) (h2 : s.heap.get? S = some { cls := Value.type "list", data := Data.seq #[] c }) (h3 : s.heap.get? it = some (tupIt l)) (h4 : PyProof.Rows.IsTup s.heap l its.toArray) (hl : its.length ≤ sizeLine)
    (hR : ∀ (s' : Shared) (c' : Nat), (∀ b o, b ≠ S → b ≠ it → s.heap.get? b = some o → s'.heap.get? b = some o) → s'.gens = s.gens → s'.drawn = s.drawn → s'.os = s.os → s'.heap.get? S = some { cls := Value.type "list", data := Data.seq its.toArray c' } → R (Except.ok (Flow.ret res)) s') :
    codeAny (model prog w) A (Code.builtin "list.extend.loop" { pos := [Value.ref S, Value.ref it, res] }) R s := by
  obtain ⟨o, g1, g2, n, g3⟩ := h4
  have hli : l ≠ it := fun e => by
    rw [e, h3] at g1
    cases g1
    injection g2 with g2
    exact absurd g2 (by decide)
  have hSl : S ≠ l := fun e => by
    rw [← e, h2] at g1
    cases g1
    injection g2 with g2
    exact absurd g2 (by decide)
  refine codeAny_extend_loopS (Walks.tuple (A := A.in1) hh it l hli its.toArray).toS (by simpa using hl) S (by simp [h1, hSl]) res _ 0 s #[] c rfl (Nat.zero_le _) ⟨⟨_, h3, rfl, rfl⟩, ⟨o, g1, g2, n, g3⟩⟩ h2 ⟨rfl, fun j v h => by simp at h⟩ fun s' acc' c' hm hS' hacc => ?_
  refine hR s' c' (fun b o hb hb2 e => hm.heap b o (by simp [hb, hb2]) e) hm.gens hm.drawn hm.os ?_
  have : acc' = its.toArray := by
    obtain ⟨hz, hi⟩ := hacc
    refine Array.ext hz fun i h1 h2 => ?_
    have this : its.toArray[i]? = some acc'[i] := hi i acc'[i] (Array.getElem?_eq_getElem h1)
    rw [Array.getElem?_eq_getElem h2] at this
    exact (Option.some.inj this).symm
  rw [this] at hS'
  exact hS'
def rListO (K : PySem.W.Frag) (mg : Str → Option Value) (itab : List (Str × Str)) (ltab : List (Str × (List D → R D))) : List V → Hp → VK → Prop := fun xs H Q => ∃ n F g C a dx fs l zs, opOf n itab = some F ∧ opOf n ltab = some g ∧ mg n = some (.ref C) ∧ xs = [.ref a] ∧ H a = some (.ins C dx fs) ∧ fs.lookup F = some (.ref l) ∧ SqT K H l zs ∧ zs.length ≤ LIM ∧
  spOf K (g0 mg) 1 g [.ref a] H (fun v H' => ∃ k : Int, v = .int k ∧ 0 ≤ k ∧ k ≤ 1000000 ∧ SqT K H' l zs ∧ ∀ p, H' p = none → Q (.ref p) (upd H' p (.lst zs))) E0
theorem wp_if {M : Model} {A : Around} {α : Type} {E : Value → Shared → Prop} {s : Shared} {Q : α → Shared → Prop} {c : Bool} {a b : Sem α} (h1 : wpAny M A a Q E s) (h2 : wpAny M A b Q E s) : wpAny M A (if c = true then a else b) Q E s := by
  cases c with
  | true => exact h1
  | false => exact h2
theorem call_listO {X : Cx} {itab : List (Str × Str)} {ltab : List (Str × (List D → R D))} {j : Nat} (T : ItsAt X.prog X.w X.K X.mg X.base j itab) (L : OpsAt X.prog X.w X.K X.mg X.base "__len__" j 1 ltab) (hr : Room (j + 3) X.A) : CallR X (.type "list") (rListO X.K X.mg itab ltab) := by
  intro pins s σ H xs us Q I rv h
  obtain ⟨n, F, g, C, a, dx, fs, l, zs, hoF, hog, hC, rfl, ha, hlF, hz, hzl, hsp⟩ := h
  obtain rfl := Vals.ref1 rv
  obtain ⟨kI, hkI, F1⟩ := T.at_ n F hoF
  obtain ⟨C', fI, fdI, psI, hC', hmI, hp1, FI, bI⟩ := F1.ex
  have e1 : C = C' := by
    have z := hC.symm.trans hC'
    cases z
    rfl
  subst e1
  obtain ⟨C2, kL, hkL, F2, sf⟩ := L.at_ n g hog
  obtain ⟨fL, fdL, psL, hC2, c, hmL, FL, bL⟩ := F2.ex
  have e2 : C = C2 := by
    have z := hC.symm.trans hC2
    cases z
    rfl
  subst e2
  have hr2 : Room (j + 1) X.A.in1.in1 := Room.in1 (Room.in1 hr)
  have hr3 : Room j X.A.in1.in1.in1 := Room.in1 hr2
  refine callType_codes PySem.F.called_list (PySem.F.typeCall_list_1 (.ref a)) PySem.F.entry_list_init (code_list_new (Q₁ := fun obj s₁ => obj = Value.ref s.heap.objs.size ∧ s₁ = { heap := s.heap.push { cls := Value.type "list", data := Data.seq #[] }, gens := s.gens, drawn := s.drawn, toks := s.toks, os := s.os }) (.ref a) ⟨rfl, rfl⟩) fun obj s₁ h₁ => ?_
  obtain ⟨e3, e4⟩ := h₁
  subst e3 e4
  have hS := Heap.get?_push_size (o := { cls := Value.type "list", data := Data.seq #[] }) s.heap rfl
  refine ⟨⟨_, hS, rfl⟩, PySem.F.args_list_init_2 _ _, ?_⟩
  refine id (wpAny_bind (id (wpAny_bind (wpAny_seqItems hS rfl (wpAny_pure (id (wpAny_bind (wpAny_updateSeq hS rfl (wpAny_bind (wpAny_letGo ?_)) (by simp) (by simp)))))))))
  have hfS : FpOk X pins H s.heap.objs.size := Inv.fpOk I (Nat.le_refl _) (HOk.fresh I.hok (Nat.le_refl _))
  have hS2 := Heap.get?_update_self (Obj.mapSeq fun x => #[]) hS rfl
  have I2 : L2.Inv X pins σ H { heap := (s.heap.push { cls := Value.type "list", data := Data.seq #[] }).update s.heap.objs.size (Obj.mapSeq fun x => #[]), gens := s.gens, drawn := s.drawn, toks := s.toks, os := s.os } := Inv.kept I fun b u e => by
    rw [Heap.get?_update_other _ _ (Nat.ne_of_gt (Heap.lt_size e))]
    exact Heap.get?_push_of_some _ e
  generalize hs2 : ({ heap := (s.heap.push { cls := Value.type "list", data := Data.seq #[] }).update s.heap.objs.size (Obj.mapSeq fun x => #[]), gens := s.gens, drawn := s.drawn, toks := s.toks, os := s.os } : Shared) = s2 at I2
  have hS2 : ∃ c0, s2.heap.get? s.heap.objs.size = some { cls := Value.type "list", data := Data.seq #[] c0 } := by
    subst hs2
    exact ⟨_, hS2⟩
  obtain ⟨c0, hS2⟩ := hS2
  clear hs2 hS
  generalize s.heap.objs.size = S at hfS hS2 ⊢
  show wpAny (model X.prog X.w) X.A.in1.in1 (Builtin.List.listExtendWith (Value.ref S) (Value.ref a) Value.none) _ _ s2
  have hnS : ∀ v : Option Value, ({ cls := Value.type "list", data := Data.seq #[] c0 } : Obj).data ≠ Data.cell v := fun v e => by cases e
  have I3 : L2.Inv X (pins ++ pinsAt [S] s2.heap) σ H s2 := Inv.pinned I2 (fp := [S]) (fun b hb => by
    rw [List.mem_singleton] at hb
    subst hb
    exact hfS) (fun b hb => by
    rw [List.mem_singleton] at hb
    subst hb
    exact ⟨_, hS2, hnS⟩)
  have hpS : (S, ({ cls := Value.type "list", data := Data.seq #[] c0 } : Obj)) ∈ pinsAt [S] s2.heap := by
    unfold pinsAt
    simp [hS2]
  generalize pinsAt [S] s2.heap = P1 at I3 hpS
  obtain ⟨m', fr⟩ := I2.fr
  obtain ⟨ox, od, J⟩ := inst_at I2 ha
  have hSa : S ≠ a := fun e => by
    have := hfS.1
    rw [e, ha] at this
    cases this
  refine id (wpAny_bind (PySem.W.Looks.here (PySem.W.InstAt.type J) (PySem.W.KFB.if_not ?_ ?_)))
  · have h1 : Builtin.List.listSameRef (Value.ref S) (Value.ref a) = false := by simp [Builtin.List.listSameRef, hSa]
    rw [h1]
    rfl
  refine wpAny_bind (PySem.W.owit_iter fr I2.ok.mod.kin J hmI.at_ hmI.fn ?_)
  refine iter_call (A := X.A.in1.in1) rfl FI bI hp1 (hr2.mono (by omega)) I3 ha hlF hz fun it s3 I4 hfp hit => ?_
  obtain ⟨gS, _⟩ := pinned_at I4 hpS
  have hnit : ∀ v : Option Value, (tupIt l).data ≠ Data.cell v := fun v e => by cases e
  have I5 : L2.Inv X ((pins ++ P1) ++ pinsAt [it] s3.heap) σ H s3 := Inv.pinned I4 (fp := [it]) (fun b hb => by
    rw [List.mem_singleton] at hb
    subst hb
    exact hfp) (fun b hb => by
    rw [List.mem_singleton] at hb
    subst hb
    exact ⟨_, hit, hnit⟩)
  have hpit : (it, tupIt l) ∈ pinsAt [it] s3.heap := by
    unfold pinsAt
    simp [hit]
  generalize pinsAt [it] s3.heap = P2 at I5 hpit
  obtain ⟨m3, fr3⟩ := I4.fr
  obtain ⟨ox3, od3, J3⟩ := inst_at I4 ha
  refine wpAny_bind (wpAny_holding (hint_own fr3 I4.ok.mod.kin J3 hmL.at_ hmL.fn ?_))
  have r : Vals [V.ref a] [Value.ref a] := Paired.cons (show RelV (.ref a) (.ref a) from rfl) .nil
  have hl2 : [Value.ref a].length = psL.length := (Vals.length r).symm.trans (FL.len _ H _ E0 hsp)
  have b := bL s3 [Value.ref a] I4.kIn (by rw [List.append_nil]; exact hl2)
  rw [List.append_nil] at b
  refine wpAny_call (codeAny_mono (FL.run X.A.in1.in1.in1 X.stack s3 H ⟨[Value.ref a], []⟩ [Value.ref a] _ _ E0 (hr3.mono hkL) (env_at rfl I5) b r hsp) fun r s4 hq => ?_)
  cases r with
  | error e => exact (cx_no hq).elim
  | ok fl =>
    cases fl with
    | ret u =>
      obtain ⟨v, H', I6, rv2, k, rfl, k0, k1, hz', hQ⟩ := Inv.after I5 hq
      obtain ⟨t, rfl⟩ := rv2
      obtain ⟨git, nit⟩ := pinned_at I6 hpit
      obtain ⟨gS4, nS4⟩ := pinned_at (unpin I6) hpS
      refine ⟨k, t, rfl, k0, k1, fun tk => ?_⟩
      have I7 : L2.Inv X pins σ H' s4 := unpin (unpin I6)
      have hfS' : FpOk X pins H' S := ⟨nS4, hfS.2⟩
      have hfit : FpOk X pins H' it := ⟨nit, hfp.2.1, hfp.2.2.1, hfp.2.2.2.1, hfp.2.2.2.2.1, fun p hp => hfp.2.2.2.2.2 p (by
        rw [← List.append_assoc]
        exact List.mem_append_left _ hp)⟩
      obtain ⟨its, rz, htup, hzl2⟩ := Inv.tuple I7 hz'
      have hSit : S ≠ it := fun e => by
        rw [e, git] at gS4
        have := congrArg (fun o => o.map (·.cls)) gS4
        injection this with this
        injection this with this
        exact absurd this (by decide)
      have hlS : l ≠ S := fun e => by
        obtain ⟨o, g1, g2, _⟩ := htup
        rw [e, gS4] at g1
        cases g1
        injection g2 with g2
        exact absurd g2 (by decide)
      have done : ∀ (s5 : Shared) (c1 : Nat), (∀ b o, b ≠ S → s4.heap.get? b = some o → s5.heap.get? b = some o) → s5.gens = s4.gens → s5.drawn = s4.drawn → s5.os = s4.os → s5.heap.get? S = some { cls := Value.type "list", data := Data.seq #[] c1 } →
          codeAny (model X.prog X.w) X.A.in1 (Code.builtin "list.extend.loop" { pos := [Value.ref S, Value.ref it, Value.none] }) (wants (fun r s₂ => r = Value.none ∧ EP X pins σ Q (Value.ref S) s₂) X.xe) s5 := by
        intro s5 c1 kp e1 e2 e3 g5
        obtain ⟨o, g1, g2, g3⟩ := htup
        refine loop_tup (A := X.A.in1) hr.hd hSit g5 (kp _ _ (Ne.symm hSit) git) ⟨o, kp _ _ hlS g1, g2, g3⟩ (by rw [← Vals.length rz]; exact hzl2) fun s' c' kp2 f1 f2 f3 g6 => ⟨rfl, ?_⟩
        have I8 : L2.Inv X pins σ H' { heap := s'.heap, gens := s4.gens, drawn := s4.drawn, toks := s'.toks, os := s4.os } := Inv.turnedL (ch := [S, it]) I7 (fun b o hb e => by
          simp only [List.mem_cons, List.not_mem_nil, or_false, not_or] at hb
          exact kp2 b o hb.1 hb.2 (kp b o hb.1 e)) (fun b hb => by
          simp only [List.mem_cons, List.not_mem_nil, or_false] at hb
          rcases hb with rfl | rfl
          · exact hfS'
          · exact hfit)
        have I9 := Inv.take (it := S) (o := HO.lst zs) (h' := s'.heap) (t' := s'.toks) I8 (fun b ob _ e => e) hfS' ⟨hzl2, its, c', rz, g6⟩
        have es : s' = { heap := s'.heap, gens := s4.gens, drawn := s4.drawn, toks := s'.toks, os := s4.os } := by
          rw [← e1, ← e2, ← e3, ← f1, ← f2, ← f3]
        rw [es]
        exact ⟨.ref S, _, I9, rfl, hQ S nS4⟩
      refine wp_if ?_ ?_
      · refine wpAny_bind (wpAny_rule (wpAny_bind (id (wpAny_bind (wpAny_updateSeq gS4 rfl ?_ (by simp) (by simp))))))
        have g7 := Heap.get?_update_self (Obj.mapSeq fun x => x.push Value.none) gS4 rfl
        refine wpAny_updateSeq g7 rfl ?_ (by simp; decide) (by simp)
        have g8 := Heap.get?_update_self (Obj.mapSeq fun x => x.pop) g7 rfl
        refine wpAny_pure ⟨Code.quiet_builtin _ (by decide +kernel), done _ _ (fun b o hb e => ?_) rfl rfl rfl g8⟩
        rw [Heap.get?_update_other _ _ (Ne.symm hb), Heap.get?_update_other _ _ (Ne.symm hb)]
        exact e
      · exact wpAny_pure ⟨Code.quiet_builtin _ (by decide +kernel), done _ c0 (fun b o _ e => e) rfl rfl rfl gS4⟩
    | _ => exact hq.elim
end DL
namespace DL
open PySem PySem.Spec L2

/-! ### len, list, in, ==, [] of objects of the text's own -/
section
variable {X : Cx} {m : Str} {j na : Nat} {tab ltab : List (Str × (List D → R D))} {itab : List (Str × Str)}
/-- a method found for an operator, called: nothing is let out -/
theorem own_call {A : Around} {pins : List (Addr × Obj)} {σ : L2.St} {H : Hp} {s : Shared} {Q : VK} {n : Str} {g : List D → R D} {C a dx : Addr} {fs : List (Str × V)} {vs : List V} {us : List Value} {G : Prop}
    (T : OpsAt X.prog X.w X.K X.mg X.base m j na tab) (hA : A.frames = X.A.frames) (hr : Room j A) (I : L2.Inv X pins σ H s) (hg : opOf n tab = some g) (hC : X.mg n = some (.ref C)) (ha : H a = some (.ins C dx fs)) (hv : Vals vs us) (hs : spOf X.K (g0 X.mg) na g (.ref a :: vs) H Q E0)
    (k : ∀ {f : Addr} {ox : Obj} {od : Option Obj} {m' : Str → Option Value}, PyProof.Rows.Fr X.base X.env.locals s.heap m' → X.K.In X.base → PySem.W.InstAt s.heap a ox C od → PySem.W.findIn X.K (.ref C) m = some (some (.ref f)) → PySem.W.isFn X.K (.ref f) = true → PySem.W.selfFirst X.K C = true →
      (∀ E, wpAny (model X.prog X.w) A (call (.ref f) (.ref a :: us)) (EP X pins σ Q) E s) → G) : G := by
  obtain ⟨C2, k2, hk, F1, sf⟩ := T.at_ n g hg
  obtain ⟨f, fd, ps, hC2, c, hm, F2, hb⟩ := F1.ex
  have e1 : C = C2 := by
    have z := hC.symm.trans hC2
    cases z
    rfl
  subst e1
  obtain ⟨m', fr⟩ := I.fr
  obtain ⟨ox, od, J⟩ := inst_at I ha
  refine k fr I.ok.mod.kin J hm.at_ hm.fn sf fun E => ?_
  have r : Vals (V.ref a :: vs) (Value.ref a :: us) := Paired.cons (show RelV (.ref a) (.ref a) from rfl) hv
  have hl : (Value.ref a :: us).length = ps.length := (Vals.length r).symm.trans (F2.len _ H _ E0 hs)
  have b := hb s (Value.ref a :: us) I.kIn (by rw [List.append_nil]; exact hl)
  rw [List.append_nil] at b
  refine wpAny_call (codeAny_mono (F2.run A X.stack s H ⟨Value.ref a :: us, []⟩ (Value.ref a :: us) _ _ E0 (hr.mono hk) (env_at hA I) b r hs) fun r s' hq => ?_)
  cases r with
  | error e => exact (cx_no hq).elim
  | ok fl =>
    cases fl with
    | ret u => exact Inv.after I hq
    | _ => exact hq.elim
/-- what a mirror of a method promises, no error let out -/
theorem sp_of {mg : Str → Option Value} {K : PySem.W.Frag} {n : Nat} {g : List D → R D} {vs : List V} {ds : List D} {I H : Hp} {d : D} {Q : VK} (e : Same I H) (r : Reps K (g0 mg) I vs ds) (hn : ds.length = n) (hd : g ds = .ok d) (h : ∀ v I' H', Stp I H I' H' → Rep K (g0 mg) I' v d → Q v H') : spOf K (g0 mg) n g vs H Q E0 :=
  ⟨I, ds, hn, e, r, by rw [hd]; exact h⟩
/-! #### len -/
def rLenO (K : PySem.W.Frag) (mg : Str → Option Value) (tab : List (Str × (List D → R D))) : List V → Hp → VK → Prop := fun xs H Q => ∃ n g C a dx fs, opOf n tab = some g ∧ mg n = some (.ref C) ∧ xs = [.ref a] ∧ H a = some (.ins C dx fs) ∧ spOf K (g0 mg) 1 g [.ref a] H (fun v H' => ∃ k : Int, v = .int k ∧ 0 ≤ k ∧ k ≤ 1000000 ∧ Q (.int k) H') E0
theorem cr_lenO (T : OpsAt X.prog X.w X.K X.mg X.base "__len__" j 1 tab) (hr : Room (j + 1) X.A) : CallR X (.builtin "len") (rLenO X.K X.mg tab) := by
  intro pins s σ H xs us Q I rv h
  obtain ⟨n, g, C, a, dx, fs, hg, hC, rfl, ha, hs⟩ := h
  obtain rfl := Vals.ref1 rv
  refine own_call (A := X.A.in1) (vs := []) (us := []) T rfl (Room.in1 hr) I hg hC ha .nil hs fun fr kin J hl hf sf h => PySem.W.len_K fr kin J hl hf (wpAny_mono (h X.xe) (fun r s' hh => ?_) fun _ _ he => he)
  obtain ⟨v, H', I', rv2, k, rfl, h0, h1, hq⟩ := hh
  obtain ⟨t, rfl⟩ := rv2
  exact ⟨⟨h0, by omega⟩, .int k, H', Inv.tok I' (s'.toks + 1), ⟨s'.toks, rfl⟩, hq⟩
def lenO (tab : List (Str × (List D → R D))) : List D → R D
  | [.obj n ks es] => match opOf n tab with
    | some g => (match g [.obj n ks es] with
      | .ok (.int k) => if 0 ≤ k ∧ k ≤ 1000000 then .ok (.int k) else .stuck
      | _ => .stuck)
    | none => .stuck
  | _ => .stuck
theorem cs_lenO : CSn X.K (g0 X.mg) (rLenO X.K X.mg tab) (lenO tab) := by
  intro xs I H ds d Q ex rs h q
  unfold lenO at h
  split at h
  · rename_i n ks es
    cases ho : opOf n tab with
    | none =>
      rw [ho] at h
      cases h
    | some g =>
      rw [ho] at h
      have h : (match g [.obj n ks es] with
        | .ok (.int k) => if 0 ≤ k ∧ k ≤ 1000000 then R.ok (D.int k) else .stuck
        | _ => .stuck) = .ok d := h
      split at h
      · rename_i k hk
        split at h
        · rename_i hb
          cases h
          obtain ⟨v, rfl, rv⟩ := reps1 rs
          cases rv with
          | @obj a C dx n fs ds2 ha hc ra =>
            exact ⟨n, g, C, a, dx, fs, ho, hc, rfl, ex _ _ ha, sp_of ex (.cons (Rep.obj ha hc ra) .nil) rfl hk fun v I' H' st rv => by
              cases rv
              exact ⟨k, rfl, hb.1, hb.2, q _ I' H' st (.int k)⟩⟩
        · cases h
      · cases h
  · cases h
/-! #### list -/
def listO (itab : List (Str × Str)) (ltab : List (Str × (List D → R D))) : List D → R D
  | [.obj n ks es] => match opOf n itab, opOf n ltab with
    | some F, some g => (match getF F ks es, g [.obj n ks es] with
      | some (.tup zs), .ok (.int k) => if (0 ≤ k ∧ k ≤ 1000000) ∧ zs.length ≤ LIM then .ok (.lst zs) else .stuck
      | _, _ => .stuck)
    | _, _ => .stuck
  | _ => .stuck
theorem cs_listO : CSn X.K (g0 X.mg) (rListO X.K X.mg itab ltab) (listO itab ltab) := by
  intro xs I H ds d Q ex rs h q
  unfold listO at h
  split at h
  · rename_i n ks es
    split at h
    · rename_i F g hF hg
      split at h
      · rename_i zs k hz hk
        split at h
        · rename_i hb
          cases h
          obtain ⟨v, rfl, rv⟩ := reps1 rs
          cases rv with
          | @obj a C dx n fs ds2 ha hc ra =>
            obtain ⟨v', hv, rv'⟩ := getF_rep ra hz
            cases rv' with
            | @tup l vs _ hh ra2 =>
              refine ⟨n, F, g, C, a, dx, fs, l, vs, hF, hg, hc, rfl, ex _ _ ha, hv, SqT.of (ex _ _ hh), ?_, sp_of ex (.cons (Rep.obj ha hc ra) .nil) rfl hk fun v I' H' st rv => ?_⟩
              · rw [ra2.len]
                exact hb.2
              · cases rv
                refine ⟨k, rfl, hb.1.1, hb.1.2, SqT.of (st.e _ _ (st.i _ _ hh)), fun p hp => ?_⟩
                exact q _ _ _ (st.trans (Stp.new st.e hp)) (new_lst st.e hp (ra2.mono st.i))
        · cases h
      · cases h
    · cases h
  · cases h
/-! #### in -/
def rInO (K : PySem.W.Frag) (mg : Str → Option Value) (tab : List (Str × (List D → R D))) : R2 := fun x y H Q => ∃ n g C a dx fs, opOf n tab = some g ∧ mg n = some (.ref C) ∧ y = .ref a ∧ H a = some (.ins C dx fs) ∧ spOf K (g0 mg) 2 g [.ref a, x] H (fun v H' => ∃ b : Bool, v = .bl b ∧ Q (.bl b) H') E0
theorem op_inO (T : OpsAt X.prog X.w X.K X.mg X.base "__contains__" j 2 tab) (hr : Room j X.A) : OpR X (compareOp .In) (rInO X.K X.mg tab) := by
  intro pins s σ H x y v u Q I rx ry h
  obtain ⟨n, g, C, a, dx, fs, hg, hC, rfl, ha, hs⟩ := h
  obtain rfl : u = .ref a := ry
  refine own_call (A := X.A) (vs := [x]) (us := [v]) T rfl hr I hg hC ha (Paired.cons rx .nil) hs fun fr kin J hl hf sf h => PySem.W.in_K fr kin J hl hf (wpAny_mono (h X.xe) (fun r s' hh => ?_) fun _ _ he => he)
  obtain ⟨v2, H', I', rv2, b, rfl, hq⟩ := hh
  obtain rfl : r = .bool b := rv2
  exact wpAny_truthy_bool ⟨.bl b, H', I', rfl, hq⟩
def inO (tab : List (Str × (List D → R D))) (x : D) : D → R D
  | .obj n ks es => match opOf n tab with
    | some g => (match g [.obj n ks es, x] with
      | .ok (.bl b) => .ok (.bl b)
      | _ => .stuck)
    | none => .stuck
  | _ => .stuck
theorem rs_inO : RSn X.K (g0 X.mg) (rInO X.K X.mg tab) (inO tab) := by
  intro x y I H dx dy d Q ex rx ry h q
  unfold inO at h
  split at h
  · rename_i n ks es
    split at h
    · rename_i g hg
      split at h
      · rename_i b hb
        cases h
        cases ry with
        | @obj a C dx2 n fs ds2 ha hc ra =>
          exact ⟨n, g, C, a, dx2, fs, hg, hc, rfl, ex _ _ ha, sp_of ex (.cons (Rep.obj ha hc ra) (.cons rx .nil)) rfl hb fun v I' H' st rv => by
            cases rv
            exact ⟨b, rfl, q _ I' H' st (.bl b)⟩⟩
      · cases h
    · cases h
  · cases h
theorem op_ninO (T : OpsAt X.prog X.w X.K X.mg X.base "__contains__" j 2 tab) (hr : Room j X.A) : OpR X (compareOp .NotIn) (fun x y H Q => rInO X.K X.mg tab x y H fun v H' => ∃ b : Bool, v = .bl b ∧ Q (.bl !b) H') := by
  intro pins s σ H x y v u Q I rx ry h
  obtain ⟨n, g, C, a, dx, fs, hg, hC, rfl, ha, hs⟩ := h
  obtain rfl : u = .ref a := ry
  refine own_call (A := X.A) (vs := [x]) (us := [v]) T rfl hr I hg hC ha (Paired.cons rx .nil) hs fun fr kin J hl hf sf h => PySem.W.notIn_K fr kin J hl hf (wpAny_mono (h X.xe) (fun r s' hh => ?_) fun _ _ he => he)
  obtain ⟨v2, H', I', rv2, b, rfl, b2, e, hq⟩ := hh
  cases e
  obtain rfl : r = .bool b := rv2
  exact wpAny_truthy_bool ⟨.bl !b, H', I', rfl, hq⟩
theorem rs_ninO : RSn X.K (g0 X.mg) (fun x y H Q => rInO X.K X.mg tab x y H fun v H' => ∃ b : Bool, v = .bl b ∧ Q (.bl !b) H') (fun x y => notD (inO tab x y)) := by
  intro x y I H dx dy d Q ex rx ry h q
  have h : notD (inO tab dx dy) = .ok d := h
  cases hi : inO tab dx dy with
  | ok e =>
    rw [hi] at h
    cases e with
    | bl b =>
      cases h
      exact rs_inO x y I H dx dy _ _ ex rx ry hi fun v I' H' st rv => by
        cases rv
        exact ⟨b, rfl, q _ I' H' st (.bl !b)⟩
    | _ => cases h
  | err _ _ =>
    rw [hi] at h
    cases h
  | stuck =>
    rw [hi] at h
    cases h
/-! #### == of two of one class -/
def rEqO (K : PySem.W.Frag) (mg : Str → Option Value) (tab : List (Str × (List D → R D))) : R2 := fun x y H Q => ∃ n g C a b dx dy fs gs, opOf n tab = some g ∧ mg n = some (.ref C) ∧ x = .ref a ∧ y = .ref b ∧ H a = some (.ins C dx fs) ∧ H b = some (.ins C dy gs) ∧ spOf K (g0 mg) 2 g [.ref a, .ref b] H Q E0
theorem op_eqO (T : OpsAt X.prog X.w X.K X.mg X.base "__eq__" j 2 tab) (hr : Room j X.A) : OpR X (compareOp .Eq) (rEqO X.K X.mg tab) := by
  intro pins s σ H x y v u Q I rx ry h
  obtain ⟨n, g, C, a, b, dx, dy, fs, gs, hg, hC, rfl, rfl, ha, hb, hs⟩ := h
  obtain rfl : v = .ref a := rx
  obtain rfl : u = .ref b := ry
  obtain ⟨oy, oe, J2⟩ := inst_at I hb
  refine own_call (A := X.A) (vs := [.ref b]) (us := [.ref b]) T rfl hr I hg hC ha (Paired.cons (show RelV (.ref b) (.ref b) from rfl) .nil) hs fun fr kin J hl hf sf h => PySem.W.cmp_K (op := .Eq) (by have := hr.un; omega) fr kin J (PySem.W.InstAt.type J2) (by simp [PySem.W.notFirst]) hl hf (wpAny_mono (h X.xe) (fun r s' hh => ?_) fun _ _ he => he)
  obtain ⟨v, H', I', rv, hq⟩ := hh
  exact cmpBack_of rv ⟨v, H', I', rv, hq⟩
def eqO (tab : List (Str × (List D → R D))) : D → D → R D
  | .obj n ks ds, .obj n2 ls es => if n2 = n then (match opOf n tab with
    | some g => (match g [.obj n ks ds, .obj n2 ls es] with
      | .ok d => .ok d
      | _ => .stuck)
    | none => .stuck) else .stuck
  | _, _ => .stuck
theorem rs_eqO : RSn X.K (g0 X.mg) (rEqO X.K X.mg tab) (eqO tab) := by
  intro x y I H dx dy d Q ex rx ry h q
  unfold eqO at h
  split at h
  · rename_i n ks ds n2 ls es
    split at h
    · rename_i hn
      subst hn
      split at h
      · rename_i g hg
        split at h
        · rename_i d2 hd
          cases h
          cases rx with
          | @obj a C dx2 n fs ds2 ha hc ra =>
            cases ry with
            | @obj b C2 dy2 n gs ds3 hb hc2 rb =>
              have e1 : C2 = C := by
                have z := hc2.symm.trans hc
                cases z
                rfl
              subst e1
              exact ⟨_, g, C2, a, b, dx2, dy2, fs, gs, hg, hc, rfl, rfl, ex _ _ ha, ex _ _ hb, sp_of ex (.cons (Rep.obj ha hc ra) (.cons (Rep.obj hb hc2 rb) .nil)) rfl hd q⟩
        · cases h
      · cases h
    · cases h
  · cases h
end
/-! #### of either kind -/
def isObj : D → Bool
  | .obj _ _ _ => true
  | _ => false
def orC (f g : List D → R D) : List D → R D
  | .obj n ks es :: r => f (.obj n ks es :: r)
  | ds => g ds
def orL (f g : D → D → R D) (x y : D) : R D := if isObj x = true then f x y else g x y
def orR (f g : D → D → R D) (x y : D) : R D := if isObj y = true then f x y else g x y
theorem CallR.or {X : Cx} {v : Value} {r r' : List V → Hp → VK → Prop} (h : CallR X v r) (h' : CallR X v r') : CallR X v (fun xs H Q => r xs H Q ∨ r' xs H Q) := by
  intro pins s σ H xs us Q I rv q
  rcases q with q | q
  · exact h pins s σ H xs us Q I rv q
  · exact h' pins s σ H xs us Q I rv q
theorem cs_or {K : PySem.W.Frag} {mg : Gm} {r r' : List V → Hp → VK → Prop} {f g : List D → R D} (h : CSn K mg r f) (h' : CSn K mg r' g) : CSn K mg (fun xs H Q => r xs H Q ∨ r' xs H Q) (orC f g) := by
  intro xs I H ds d Q ex rs e q
  unfold orC at e
  split at e
  · exact .inl (h xs I H _ d Q ex rs e q)
  · exact .inr (h' xs I H _ d Q ex rs e q)
theorem rs_orL {K : PySem.W.Frag} {mg : Gm} {r r' : R2} {f g : D → D → R D} (h : RSn K mg r f) (h' : RSn K mg r' g) : RSn K mg (fun x y H Q => r x y H Q ∨ r' x y H Q) (orL f g) := by
  intro x y I H dx dy d Q ex rx ry e q
  unfold orL at e
  split at e
  · exact .inl (h x y I H _ _ d Q ex rx ry e q)
  · exact .inr (h' x y I H _ _ d Q ex rx ry e q)
theorem o2_orR {f g : D → D → R D} (a b : R D) : o2 (orR f g) a b = o2 f a b ∨ o2 (orR f g) a b = o2 g a b :=
  o2_r (fun y => by
    by_cases h : isObj y = true
    · exact .inl fun x => if_pos h
    · exact .inr fun x => if_neg h) a b
section
variable {X : Cx} {P : Program} {w : World} {mg : Str → Option Value} {base : Heap} {j k : Nat} {tab ltab : List (Str × (List D → R D))} {itab : List (Str × Str)} {E : Wh} {e a b : Expr} {es : List Expr} {p pos : Pos} {tas : TA} {ta tb : TE} {ms : Env → R (List D)} {ma mb : Env → R D}
theorem me_lenA (K : PySem.W.Frag) (T : OpsAt P w K mg base "__len__" j 1 tab) (hr : Room k X.A) (hg : Gl X "len") (hm : X.mg "len" = none) (ha : MA X E (e :: es) tas ms) (hj : j + 1 ≤ k := by first | decide | omega) (h0 : E.x = fun _ => none := by rfl)
    (he : starEach (e :: es) X.env = (false, eval e X.env) :: starEach es X.env := by rfl) (hpl : (backTo pos (starEach es X.env)).any (·.1) = false := by rfl) (hP : X.prog = P := by rfl) (hw : X.w = w := by rfl) (hK : X.K = K := by rfl) (hmg : X.mg = mg := by rfl) (hbs : X.base = base := by rfl) :
    ME X E (.Call (.Name "len" p) (e :: es) [] pos) (tCB (fun xs H Q => rLenO K mg tab xs H Q ∨ rLenX K xs H Q) tas) (fun ρ => cbf (orC (lenO tab) lenD) (ms ρ)) := by
  subst hP hw hK hmg hbs
  obtain ⟨E1, E2⟩ := E
  have h0 : E2 = fun _ => none := h0
  subst h0
  exact me_callB (CallR.or (cr_lenO T (hr.mono hj)) cr_lenX) (cs_or cs_lenO cs_len) hg hm (by decide +kernel) ha (by decide) (by decide) he hpl
theorem me_listA (K : PySem.W.Frag) (T : ItsAt P w K mg base j itab) (L : OpsAt P w K mg base "__len__" j 1 ltab) (hr : Room k X.A) (hg : Gl X "list") (hm : X.mg "list" = none) (ha : MA X E (e :: es) tas ms) (hj : j + 3 ≤ k := by first | decide | omega) (h0 : E.x = fun _ => none := by rfl)
    (he : starEach (e :: es) X.env = (false, eval e X.env) :: starEach es X.env := by rfl) (hpl : (backTo pos (starEach es X.env)).any (·.1) = false := by rfl) (hP : X.prog = P := by rfl) (hw : X.w = w := by rfl) (hK : X.K = K := by rfl) (hmg : X.mg = mg := by rfl) (hbs : X.base = base := by rfl) :
    ME X E (.Call (.Name "list" p) (e :: es) [] pos) (tCB (fun xs H Q => rListO K mg itab ltab xs H Q ∨ rListOf K xs H Q) tas) (fun ρ => cbf (orC (listO itab ltab) listD) (ms ρ)) := by
  subst hP hw hK hmg hbs
  obtain ⟨E1, E2⟩ := E
  have h0 : E2 = fun _ => none := h0
  subst h0
  exact me_callTy (CallR.or (call_listO T L (hr.mono hj)) cr_listOf) (cs_or cs_listO cs_list) hg hm (by decide +kernel) ha (by decide) (by decide) he hpl
theorem me_eqA (K : PySem.W.Frag) (T : OpsAt P w K mg base "__eq__" j 2 tab) (hr : Room k X.A) (ha : ME X E a ta ma) (hb : ME X E b tb mb) (hj : j ≤ k := by first | decide | omega) (h0 : E.x = fun _ => none := by rfl) (hm : behindInMarks .Eq b = false := by first | exact nomark _ | rfl) (hP : X.prog = P := by rfl) (hw : X.w = w := by rfl) (hK : X.K = K := by rfl) (hmg : X.mg = mg := by rfl) (hbs : X.base = base := by rfl) :
    ME X E (.Compare a [.Eq] [b] pos) (tOp (fun x y H Q => rEqO K mg tab x y H Q ∨ rEqD K x y H Q) ta tb) (fun ρ => o2 (orL (eqO tab) eqD) (ma ρ) (mb ρ)) := by
  subst hP hw hK hmg hbs
  obtain ⟨E1, E2⟩ := E
  have h0 : E2 = fun _ => none := h0
  subst h0
  exact me_cmp (op := .Eq) (OpR.or (op_eqO T (hr.mono hj)) (op_eqD hr.units)) (rs_orL rs_eqO rs_eq) ha hb hm
end
section
variable {X : Cx} {P : Program} {w : World} {mg : Str → Option Value} {base : Heap} {j k : Nat} {tab ltab : List (Str × (List D → R D))} {E : Wh} {a b : Expr} {pos : Pos} {ta tb : TE} {ma mb : Env → R D}
theorem mt_inA' (K : PySem.W.Frag) (T : OpsAt P w K mg base "__contains__" j 2 tab) (hr : Room k X.A) (ha : ME X E a ta ma) (hb : ME X E b tb mb) (hj : j ≤ k := by first | decide | omega) (h0 : E.x = fun _ => none := by rfl) (hm : behindInMarks .In b = false := by rfl) (hP : X.prog = P := by rfl) (hw : X.w = w := by rfl) (hK : X.K = K := by rfl) (hmg : X.mg = mg := by rfl) (hbs : X.base = base := by rfl) :
    MT X E (.Compare a [.In] [b] pos) (fun σ H Q => tTest (tOp (rInO K mg tab) ta tb) σ H Q ∨ ((tB (tDIn ta tb) σ H Q ∨ tTest (tOp (rInX K) ta tb) σ H Q) ∨ tTest (tOp (rInP K) ta tb) σ H Q)) (fun ρ => tst (o2 (orR (inO tab) inG) (ma ρ) (mb ρ))) := by
  subst hP hw hK hmg hbs
  obtain ⟨E1, E2⟩ := E
  have h0 : E2 = fun _ => none := h0
  subst h0
  have h1 : MT X ⟨E1, fun _ => none⟩ (.Compare a [.In] [b] pos) _ _ := mt_cmp (op := .In) (op_inO T (hr.mono hj)) rs_inO ha hb hm
  have h2 : MT X ⟨E1, fun _ => none⟩ (.Compare a [.In] [b] pos) _ _ := mt_inG X.K (hu65 hr) ha hb hm
  exact ⟨PT.or h1.pe h2.pe, sn_or h1.sn h2.sn fun ρ => tst_or (o2_orR _ _)⟩
theorem mt_ninA' (K : PySem.W.Frag) (T : OpsAt P w K mg base "__contains__" j 2 tab) (hr : Room k X.A) (ha : ME X E a ta ma) (hb : ME X E b tb mb) (hj : j ≤ k := by first | decide | omega) (h0 : E.x = fun _ => none := by rfl) (hm : behindInMarks .NotIn b = false := by rfl) (hP : X.prog = P := by rfl) (hw : X.w = w := by rfl) (hK : X.K = K := by rfl) (hmg : X.mg = mg := by rfl) (hbs : X.base = base := by rfl) :
    MT X E (.Compare a [.NotIn] [b] pos) (fun σ H Q => tTest (tOp (fun x y H Q => rInO K mg tab x y H fun v H' => ∃ b : Bool, v = .bl b ∧ Q (.bl !b) H') ta tb) σ H Q ∨ ((tB (tDNotIn ta tb) σ H Q ∨ tTest (tOp (rNinX K) ta tb) σ H Q) ∨ tTest (tOp (rNinP K) ta tb) σ H Q)) (fun ρ => tst (o2 (orR (fun x y => notD (inO tab x y)) ninG) (ma ρ) (mb ρ))) := by
  subst hP hw hK hmg hbs
  obtain ⟨E1, E2⟩ := E
  have h0 : E2 = fun _ => none := h0
  subst h0
  have h1 : MT X ⟨E1, fun _ => none⟩ (.Compare a [.NotIn] [b] pos) _ _ := mt_cmp (op := .NotIn) (op_ninO T (hr.mono hj)) rs_ninO ha hb hm
  have h2 : MT X ⟨E1, fun _ => none⟩ (.Compare a [.NotIn] [b] pos) _ _ := mt_ninG X.K (hu65 hr) ha hb hm
  exact ⟨PT.or h1.pe h2.pe, sn_or h1.sn h2.sn fun ρ => tst_or (o2_orR _ _)⟩
theorem mt_eqA (K : PySem.W.Frag) (T : OpsAt P w K mg base "__eq__" j 2 tab) (hr : Room k X.A) (ha : ME X E a ta ma) (hb : ME X E b tb mb) (hj : j ≤ k := by first | decide | omega) (h0 : E.x = fun _ => none := by rfl) (hm : behindInMarks .Eq b = false := by first | exact nomark _ | rfl) (hP : X.prog = P := by rfl) (hw : X.w = w := by rfl) (hK : X.K = K := by rfl) (hmg : X.mg = mg := by rfl) (hbs : X.base = base := by rfl) :
    MT X E (.Compare a [.Eq] [b] pos) (tTest (tOp (fun x y H Q => rEqO K mg tab x y H Q ∨ rEqD K x y H Q) ta tb)) (fun ρ => tst (o2 (orL (eqO tab) eqD) (ma ρ) (mb ρ))) := by
  subst hP hw hK hmg hbs
  obtain ⟨E1, E2⟩ := E
  have h0 : E2 = fun _ => none := h0
  subst h0
  exact mt_cmp (op := .Eq) (OpR.or (op_eqO T (hr.mono hj)) (op_eqD hr.units)) (rs_orL rs_eqO rs_eq) ha hb hm
end
/-- what is not walked -/
theorem me_stuck {X : Cx} {E : Wh} {e : Expr} : ME X E e (fun _ _ _ => False) (fun _ => .stuck) := ⟨⟨fun _ _ _ _ _ _ h => h.elim⟩, fun _ _ _ _ _ _ _ h => h.elim⟩
end DL
namespace DL
open PySem PySem.Spec L2

section
variable {X : Cx} {E : Wh} {a b : Expr} {ta tb : TE} {ma mb : Env → R D} {p p2 pos pos2 : Pos}
end
end DL
namespace DL
open PySem PySem.Spec L2

/-! ### rows of some of the items, in order -/
def combI : Nat → List Int → List (List Int)
  | 0, _ => [[]]
  | _ + 1, [] => []
  | k + 1, x :: xs => (combI k xs).map (x :: ·) ++ combI (k + 1) xs
theorem mem_combI : ∀ (k : Nat) (xs r : List Int), r ∈ combI k xs ↔ r.Sublist xs ∧ r.length = k
  | 0, xs, r => by
    simp only [combI, List.mem_singleton]
    constructor
    · rintro rfl
      exact ⟨List.nil_sublist _, rfl⟩
    · rintro ⟨_, h⟩
      exact List.eq_nil_of_length_eq_zero h
  | k + 1, [], r => by
    simp only [combI, List.not_mem_nil, false_iff]
    rintro ⟨h, h2⟩
    rw [List.sublist_nil.mp h] at h2
    cases h2
  | k + 1, x :: xs, r => by
    simp only [combI, List.mem_append, List.mem_map, mem_combI k xs, mem_combI (k + 1) xs]
    constructor
    · rintro (⟨q, ⟨h1, h2⟩, rfl⟩ | ⟨h1, h2⟩)
      · exact ⟨h1.cons_cons x, by simp [h2]⟩
      · exact ⟨h1.cons x, h2⟩
    · rintro ⟨h1, h2⟩
      cases h1 with
      | cons _ h => exact .inr ⟨h, h2⟩
      | cons_cons _ h => exact .inl ⟨_, ⟨h, by simpa using h2⟩, rfl⟩
def Asc (r : List Int) : Prop := r.Pairwise (· < ·)
theorem Asc.nodup {r : List Int} (h : Asc r) : r.Nodup := h.imp fun h e => by omega
/-- rows in order, each once -/
def AscR (Q : List (List Int)) : Prop := Q.Pairwise fun a b => lexL a b = true
theorem AscR.nodup {Q : List (List Int)} (h : AscR Q) : Q.Nodup := h.imp fun h e => by
  rw [e, lexL_irr] at h
  cases h
theorem combI_ascR : ∀ (k : Nat) (xs : List Int), Asc xs → AscR (combI k xs)
  | 0, _, _ => by
    rw [combI]
    exact List.pairwise_singleton _ _
  | _ + 1, [], _ => .nil
  | k + 1, x :: xs, h => by
    obtain ⟨h1, h2⟩ := List.pairwise_cons.mp h
    simp only [combI]
    refine List.pairwise_append.mpr ⟨?_, combI_ascR (k + 1) xs h2, ?_⟩
    · refine List.pairwise_map.mpr ((combI_ascR k xs h2).imp fun {a b} hab => ?_)
      show lexL (x :: a) (x :: b) = true
      simp only [lexL, if_pos]
      exact hab
    · intro a ha b hb
      obtain ⟨q, _, rfl⟩ := List.mem_map.mp ha
      obtain ⟨hs, hl⟩ := (mem_combI (k + 1) xs b).mp hb
      cases b with
      | nil => cases hl
      | cons y b =>
        have hy : y ∈ xs := hs.subset List.mem_cons_self
        have := h1 y hy
        simp only [lexL]
        rw [if_neg (by omega)]
        exact decide_eq_true this
theorem lexL_tri : ∀ r q : List Int, lexL r q = false → lexL q r = false → r = q
  | [], [], _, _ => rfl
  | [], _ :: _, h, _ => by cases h
  | _ :: _, [], _, h => by cases h
  | x :: r, y :: q, h, h2 => by
    simp only [lexL] at h h2
    by_cases e : x = y
    · subst e
      rw [if_pos rfl] at h h2
      rw [lexL_tri r q h h2]
    · rw [if_neg e] at h
      rw [if_neg fun e2 => e e2.symm] at h2
      have := of_decide_eq_false h
      have := of_decide_eq_false h2
      omega
theorem sortR_ascR {Q : List (List Int)} (h : Q.Nodup) : AscR (sortR Q) := by
  have h1 := sortR_srt Q
  have h2 : (sortR Q).Nodup := (sortR_perm Q).nodup_iff.mpr h
  refine (h1.and h2).imp fun {a b} hab => ?_
  obtain ⟨h3, h4⟩ := hab
  cases e : lexL a b with
  | true => rfl
  | false => exact absurd (lexL_tri a b e h3) h4
theorem asc_le {r : List Int} (h : Asc r) : r.Pairwise (· ≤ ·) := h.imp fun h => by omega
theorem sorted_unique : ∀ {r q : List Int}, r.Pairwise (· ≤ ·) → q.Pairwise (· ≤ ·) → r.Perm q → r = q := by
  intro r q h1 h2 hp
  exact hp.eq_of_pairwise (fun a b _ _ h3 h4 => by omega) h1 h2
theorem sortI_asc {r : List Int} (h : Asc r) : sortI r = r := sorted_unique (sortI_srt r) (asc_le h) (sortI_perm r)
end DL
namespace DL
open PySem PySem.Spec L2
/-! ### mirrors on plain data where own classes are asked first -/
section
variable (f g : List D → R D) (p q : D → D → R D) (ds es : List D)
@[simp] theorem orC_lst : orC f g (.lst ds :: es) = g (.lst ds :: es) := rfl
@[simp] theorem orC_tup : orC f g (.tup ds :: es) = g (.tup ds :: es) := rfl
@[simp] theorem orC_scr (ns : List Int) : orC f g (.scr ns :: es) = g (.scr ns :: es) := rfl
@[simp] theorem orL_lst (y : D) : orL p q (.lst ds) y = q (.lst ds) y := rfl
@[simp] theorem orL_tup (y : D) : orL p q (.tup ds) y = q (.tup ds) y := rfl
@[simp] theorem orL_int (i : Int) (y : D) : orL p q (.int i) y = q (.int i) y := rfl
@[simp] theorem orR_lst (x : D) : orR p q x (.lst ds) = q x (.lst ds) := rfl
@[simp] theorem orR_tup (x : D) : orR p q x (.tup ds) = q x (.tup ds) := rfl
@[simp] theorem itsO_lst (t : List (Str × Str)) : itsO t (.ok (.lst ds)) = .ok ds := rfl
@[simp] theorem itsO_tup (t : List (Str × Str)) : itsO t (.ok (.tup ds)) = .ok ds := rfl
end
theorem call1 (g : List D → DL.R D) (a : D) : call_ 1 g (.ok [a]) = g [a] := rfl
theorem call2 (g : List D → DL.R D) (a b : D) : call_ 2 g (.ok [a, b]) = g [a, b] := rfl
theorem call3 (g : List D → DL.R D) (a b c : D) : call_ 3 g (.ok [a, b, c]) = g [a, b, c] := rfl
theorem call4 (g : List D → DL.R D) (a b c d : D) : call_ 4 g (.ok [a, b, c, d]) = g [a, b, c, d] := rfl
theorem call5 (g : List D → DL.R D) (a b c d e : D) : call_ 5 g (.ok [a, b, c, d, e]) = g [a, b, c, d, e] := rfl
theorem callF2 (g : List D → DL.R (List D)) (a b : D) : callF 2 g (.ok [a, b]) = g [a, b] := rfl
theorem callF3 (g : List D → DL.R (List D)) (a b c : D) : callF 3 g (.ok [a, b, c]) = g [a, b, c] := rfl
theorem mod_nat (c : Int) {n : Nat} (h : 0 < n) : ∃ m : Nat, m < n ∧ c % (n : Int) = (m : Int) := by
  have h0 := Int.emod_nonneg c (show (n : Int) ≠ 0 by omega)
  have h1 := Int.emod_lt_of_pos c (show (0 : Int) < n by omega)
  exact ⟨(c % (n : Int)).toNat, by omega, by omega⟩
theorem modD_nat (c : Int) {n : Nat} (h : 0 < n) : ∃ m : Nat, m < n ∧ modD (.int c) (.int (n : Int)) = .ok (.int (m : Int)) := by
  obtain ⟨m, hm, e⟩ := mod_nat c h
  exact ⟨m, hm, by rw [modD_int (by omega), e]⟩
theorem try_err {T : Str → Str → Option Bool} {B : Str → String → Option Bool} {M : List Nat} {mb : DL.Env → DL.R Fl} {l : List Cl} {ρ : DL.Env} {n n' : Str} {ks : List Str} {es : List D} (h : mb ρ = .err n [.obj n' ks es]) : tryM T B M mb l ρ = clM T B M n ks es ρ l := by
  unfold tryM
  rw [h]
theorem drp_err {ρ : DL.Env} {a : DL.R D} {n : Str} {ds : List D} (h : a = .err n ds) : drp ρ a = .err n ds := by
  subst h
  rfl
theorem at_map {α : Type} (f : α → D) (d : α) {P : List α} {k : Nat} (h : k < P.length) : ixA (.lst (P.map f)) (.int (k : Int)) = .ok (f (P.getD k d)) := by
  refine ixD_lst f P k ?_
  rw [List.getD_eq_getElem?_getD, List.getElem?_eq_getElem h]
  rfl
theorem at_mapT {α : Type} (f : α → D) (d : α) {P : List α} {k : Nat} (h : k < P.length) : ixA (.tup (P.map f)) (.int (k : Int)) = .ok (f (P.getD k d)) := by
  have : ixA (.tup (P.map f)) (.int (k : Int)) = ixA (.lst (P.map f)) (.int (k : Int)) := rfl
  rw [this]
  exact at_map f d h
/-- 0, 1, .., n - 1 -/
def iotaI (n : Nat) : List Int := (List.range n).map fun (i : Nat) => (i : Int)
theorem iotaI_len (n : Nat) : (iotaI n).length = n := by simp [iotaI]
theorem mem_iotaI (n : Nat) (x : Int) : x ∈ iotaI n ↔ 0 ≤ x ∧ x < n := by
  simp only [iotaI, List.mem_map, List.mem_range]
  constructor
  · rintro ⟨i, hi, rfl⟩
    omega
  · rintro ⟨h0, h1⟩
    exact ⟨x.toNat, by omega, by omega⟩
theorem iotaI_asc (n : Nat) : Asc (iotaI n) := by
  unfold Asc iotaI
  refine List.pairwise_map.mpr ?_
  exact List.pairwise_lt_range.imp fun h => by omega
end DL
namespace DL
open PySem PySem.Spec L2
/-! ### d[k] = v with an int -/
def setC (f : List Int) (z : Int) : List (List Int × Int) → List (List Int × Int)
  | [] => [(f, z)]
  | p :: C => if p.1 = f then (p.1, z) :: C else p :: setC f z C
theorem setC_keys (f : List Int) (z : Int) : ∀ C : List (List Int × Int), (C.map fun p => p.1).Nodup → ((setC f z C).map fun p => p.1).Nodup ∧ ∀ g, g ∈ (setC f z C).map (fun p => p.1) ↔ g = f ∨ g ∈ C.map fun p => p.1
  | [], _ => by simp [setC]
  | p :: C, hn => by
    rw [List.map_cons, List.nodup_cons] at hn
    obtain ⟨h1, h2⟩ := setC_keys f z C hn.2
    simp only [setC]
    by_cases h : p.1 = f
    · rw [if_pos h]
      simp only [List.map_cons, List.nodup_cons, List.mem_cons]
      refine ⟨⟨hn.1, hn.2⟩, fun g => ?_⟩
      rw [h]
      constructor
      · rintro (e | e)
        · exact .inl e
        · exact .inr (.inr e)
      · rintro (e | e | e)
        · exact .inl e
        · exact .inl e
        · exact .inr e
    · rw [if_neg h]
      simp only [List.map_cons, List.nodup_cons, List.mem_cons]
      refine ⟨⟨fun e => ?_, h1⟩, fun g => ?_⟩
      · rcases (h2 _).mp e with e | e
        · exact h e
        · exact hn.1 e
      · rw [h2]
        constructor
        · rintro (e | e | e)
          · exact .inr (.inl e)
          · exact .inl e
          · exact .inr (.inr e)
        · rintro (e | e | e)
          · exact .inr (.inl e)
          · exact .inl e
          · exact .inr (.inr e)
/-! ### sets of rows -/
theorem nodup_len {α : Type} [DecidableEq α] : ∀ (Q L : List α), Q.Nodup → (∀ q ∈ Q, q ∈ L) → Q.length ≤ L.length
  | [], L, _, _ => Nat.zero_le _
  | q :: Q, L, hn, h => by
    rw [List.nodup_cons] at hn
    have hq := h q List.mem_cons_self
    have ih := nodup_len Q (L.erase q) hn.2 fun x hx => (List.mem_erase_of_ne (fun e => hn.1 (by rw [← e]; exact hx))).mpr (h x (List.mem_cons_of_mem _ hx))
    rw [List.length_erase_of_mem hq] at ih
    have := List.length_pos_of_mem hq
    simp only [List.length_cons]
    omega
theorem sub_of_asc : ∀ (xs r : List Int), Asc xs → Asc r → (∀ p ∈ r, p ∈ xs) → r.Sublist xs
  | [], r, _, _, h => by
    cases r with
    | nil => exact .slnil
    | cons p r => exact absurd (h p List.mem_cons_self) (by simp)
  | x :: xs, [], _, _, _ => List.nil_sublist _
  | x :: xs, y :: r, hx, hr, h => by
    obtain ⟨x1, x2⟩ := List.pairwise_cons.mp hx
    obtain ⟨r1, r2⟩ := List.pairwise_cons.mp hr
    by_cases e : y = x
    · subst e
      refine (sub_of_asc xs r x2 r2 fun p hp => ?_).cons_cons y
      rcases List.mem_cons.mp (h p (List.mem_cons_of_mem _ hp)) with e | e
      · have := r1 p hp
        omega
      · exact e
    · have hy : y ∈ xs := by
        rcases List.mem_cons.mp (h y List.mem_cons_self) with e2 | e2
        · exact absurd e2 e
        · exact e2
      refine (sub_of_asc xs (y :: r) x2 hr fun p hp => ?_).cons x
      rcases List.mem_cons.mp (h p hp) with e2 | e2
      · have h1 := x1 y hy
        rcases List.mem_cons.mp hp with e3 | e3
        · omega
        · have := r1 p e3
          omega
      · exact e2
/-- rooms of a size over places -/
def RoomR (n s : Nat) (r : List Int) : Prop := r.length = s ∧ Asc r ∧ ∀ p ∈ r, 0 ≤ p ∧ p < n
theorem mem_comb_iota (n s : Nat) (r : List Int) : r ∈ combI s (iotaI n) ↔ RoomR n s r := by
  rw [mem_combI]
  constructor
  · rintro ⟨h1, h2⟩
    exact ⟨h2, (iotaI_asc n).sublist h1, fun p hp => (mem_iotaI n p).mp (h1.subset hp)⟩
  · rintro ⟨h1, h2, h3⟩
    exact ⟨sub_of_asc _ _ (iotaI_asc n) h2 fun p hp => (mem_iotaI n p).mpr (h3 p hp), h1⟩
end DL
namespace DL
open PySem PySem.Spec L2
section
variable {X : Cx} {E : XK} {Mb M : List Nat} {e : Expr} {te : TE} {m : Env → R D} {pos pos' : Pos} {x : Str}
end
/-- a method of a list with one argument -/
def o2L (f : D → D → R D) (a b : R D) : R D := a >>= fun x => match x with
  | .lst ds => b >>= fun y => calm (f (.lst ds) y)
  | _ => .stuck
@[simp] theorem o2L_lst (f : D → D → R D) (ds : List D) (y : D) : o2L f (.ok (.lst ds)) (.ok y) = calm (f (.lst ds) y) := rfl
section
variable {X : Cx} {E : Wh} {o e : Expr} {to te : TE} {mo m : Env → R D} {pa pc : Pos}
end
end DL
namespace DL
open PySem PySem.Spec L2
section
variable {X : Cx} {E : XK} {Mb M : List Nat} {elt tg iter : Expr} {ifs : List Expr} {scope : Scope} {own : List (Str × Nat)} {pos spos py : Pos} {y : Str} {wi : TI} {g : TG} {tt : TT} {te : TE} {mi : Env → R (List D)} {ag : D → R As} {mt : Env → R Bool} {me : Env → R D}
end
section
variable {X : Cx} {E : XK} {Mb M : List Nat} {e : Expr} {te : TE} {m : Env → R D} {pos pos' : Pos} {x : Str}
end
/-! ### a + b of own objects or of plain data -/
def o2A (tab : List (Str × (List D → R D))) (f : D → D → R D) (a b : R D) : R D := a >>= fun x => b >>= fun y => if isObj x = true then o2G tab x y else calm (f x y)
section
variable {X : Cx} {P : Program} {w : World} {mg : Str → Option Value} {base : Heap} {j k : Nat} {tab : List (Str × (List D → R D))} {a b : Expr} {pos : Pos} {ta tb t' : TE} {ma mb : Env → R D} {f : D → D → R D}
theorem me_binA {op : Operator} {E : Wh} (K : PySem.W.Frag) (T : OpsAt P w K mg base (dunder op.info.2) j 2 tab) (hr : Room k X.A) (hx : ∀ σ, PassesAt (L2N.CX X.prog X.w) X σ (E.e σ)) (ha : ME X E a ta ma) (hb : ME X E b tb mb) (h' : ME X E (.BinOp a op b pos) t' (fun ρ => o2 f (ma ρ) (mb ρ))) (hj : j ≤ k := by first | decide | omega) (h0 : E.x = fun _ => none := by rfl) (hP : X.prog = P := by rfl) (hw : X.w = w := by rfl) (hK : X.K = K := by rfl) (hmg : X.mg = mg := by rfl) (hbs : X.base = base := by rfl) :
    ME X E (.BinOp a op b pos) (fun σ H Q => tOwn2 K mg E.e tab ta tb σ H Q ∨ t' σ H Q) (fun ρ => o2A tab f (ma ρ) (mb ρ)) := by
  have h1 : ME X E (.BinOp a op b pos) (tOwn2 K mg E.e tab ta tb) (fun ρ => o2T tab (ma ρ) (mb ρ)) := me_binO T (hr.mono hj) hx ha hb h0 hP hw hK hmg hbs
  refine ⟨PE.or h1.pe h'.pe, sn_or h1.sn h'.sn fun ρ => ?_⟩
  show o2A tab f (ma ρ) (mb ρ) = o2T tab (ma ρ) (mb ρ) ∨ o2A tab f (ma ρ) (mb ρ) = o2 f (ma ρ) (mb ρ)
  cases ma ρ with
  | ok x =>
    cases mb ρ with
    | ok y =>
      by_cases h : isObj x = true
      · exact .inl (if_pos h)
      · exact .inr (if_neg h)
    | err _ _ => exact .inl rfl
    | stuck => exact .inl rfl
  | err _ _ => exact .inl rfl
  | stuck => exact .inl rfl
end
end DL
namespace DL
open PySem PySem.Spec PyProof.Rows L2 SrtO
end DL
namespace DL
open PySem PySem.Spec PyProof.Rows L2 SrtO
end DL
namespace DL
open PySem PySem.Spec L2
end DL
namespace DL
open PySem PySem.Spec L2
end DL
namespace DL
open PySem PySem.Spec PyProof.Rows L2

/-! ### t[::c], t a tuple, c ≥ 2 -/
def evN (n c : Nat) : Nat := if 0 < n then (n - 1) / c + 1 else 0
def evL {α : Type} (c : Nat) (xs : List α) : List α := (List.range (evN xs.length c)).filterMap fun (m : Nat) => xs[m * c]?
section
variable {prog : Program} {w : World} {A : Around} {E : Value → Shared → Prop} {s : Shared}
end
theorem Vals.every {xs : List V} {us : List Value} (r : Vals xs us) (c : Nat) : Vals (evL c xs) (evL c us) := by
  unfold evL
  rw [L2.Vals.length r]
  generalize evN us.length c = k
  induction k with
  | zero => exact .nil
  | succ k ih =>
    rw [List.range_succ, List.filterMap_append, List.filterMap_append]
    refine L2.Vals.append ih ?_
    have hl := L2.Vals.length r
    simp only [List.filterMap_cons, List.filterMap_nil]
    cases hx : xs[k * c]? with
    | none =>
      have : us[k * c]? = none := by
        rw [List.getElem?_eq_none_iff] at hx ⊢
        omega
      rw [this]
      exact .nil
    | some x =>
      obtain ⟨u, hu, ru⟩ := L2.Vals.get r hx
      rw [hu]
      exact .cons ru .nil
section
variable {X : Cx} {E : Wh} {a : Expr} {ta : TE} {ma : Env → R D} {pos : Pos}
theorem Reps.every {K : PySem.W.Frag} {mg : Gm} {I : Hp} {vs : List V} {ds : List D} (r : Reps K mg I vs ds) (c : Nat) : Reps K mg I (evL c vs) (evL c ds) := by
  unfold evL
  rw [r.len]
  generalize evN ds.length c = k
  induction k with
  | zero => exact .nil
  | succ k ih =>
    rw [List.range_succ, List.filterMap_append, List.filterMap_append]
    refine ih.app ?_
    have hl := r.len
    simp only [List.filterMap_cons, List.filterMap_nil]
    cases hx : vs[k * c]? with
    | none =>
      have : ds[k * c]? = none := by
        rw [List.getElem?_eq_none_iff] at hx ⊢
        omega
      rw [this]
      exact .nil
    | some x =>
      obtain ⟨u, hu, ru⟩ := r.get' hx
      rw [hu]
      exact .cons ru .nil
/-! ### if c: return a, and more, within a try -/
variable {M : List Nat} {c : Expr} {tt : WX → TT} {t u : WX → TS} {mt : Env → R Bool} {mb mr : Env → R Fl} {b r : List Stmt}
end
end DL
namespace DL
open PySem PySem.Spec L2

/-! ### what is asked of a text's end -/
structure WP (x : R Fl) (Q : R Fl → Prop) : Prop where
  h : Q x
def Fin (out : R D) : R Fl → Prop := fun y => y >>= endD = out
/-- a loop's turn -/
def Lp (P : Env → Prop) (Q : R Fl → Prop) : R Fl → Prop
  | .ok (.nx ρ) => P ρ
  | .ok (.ct ρ) => P ρ
  | .ok (.bk ρ) => Q (.ok (.nx ρ))
  | y => Q y
/-- what follows -/
def Nxt (k : Env → R Fl) (Q : R Fl → Prop) : R Fl → Prop
  | .ok (.nx ρ) => WP (k ρ) Q
  | y => Q y
def Gets (P : D → Prop) : R Fl → Prop := fun y => ∃ d, y >>= endD = .ok d ∧ P d
theorem gets_rt {P : D → Prop} {d : D} (h : P d) : Gets P (.ok (.rt d)) := ⟨d, rfl, h⟩
theorem run_gets {n : Nat} {ms : Env → R Fl} {ds : List D} {P : D → Prop} (h : WP (ms (startE n ds)) (Gets P)) : ∃ d, runX n ms ds = .ok d ∧ P d := h.h
theorem fin_rt {d : D} {out : R D} (h : .ok d = out) : Fin out (.ok (.rt d)) := h
theorem fin_err {n : Str} {ds : List D} {out : R D} (h : .err n ds = out) : Fin out (.err n ds) := h
theorem run_wp {n : Nat} {ms : Env → R Fl} {ds : List D} {out : R D} (h : WP (ms (startE n ds)) (Fin out)) : runX n ms ds = out := h.h
theorem lp_err {P : Env → Prop} {Q : R Fl → Prop} {n : Str} {d : List D} (h : Q (.err n d)) : Lp P Q (.err n d) := h
theorem lp_nx {P : Env → Prop} {Q : R Fl → Prop} {ρ : Env} (h : P ρ) : Lp P Q (.ok (.nx ρ)) := h
theorem nxt_rt {k : Env → R Fl} {Q : R Fl → Prop} {d : D} (h : Q (.ok (.rt d))) : Nxt k Q (.ok (.rt d)) := h
theorem nxt_err {k : Env → R Fl} {Q : R Fl → Prop} {n : Str} {d : List D} (h : Q (.err n d)) : Nxt k Q (.err n d) := h
theorem nxt_nx {k : Env → R Fl} {Q : R Fl → Prop} {ρ : Env} (h : WP (k ρ) Q) : Nxt k Q (.ok (.nx ρ)) := h
section
variable {x y : R Fl} {k k2 : Env → R Fl} {Q : R Fl → Prop} {ρ : Env} {a : R D} {d : D} {i : Nat} {c : R Bool} {b : Bool}
theorem wp_of (h : x = y) (h2 : Q y) : WP x Q := ⟨h ▸ h2⟩
theorem w_then (h : WP x (Nxt k Q)) : WP (then_ x k) Q := by
  obtain ⟨h⟩ := h
  cases x with
  | ok f =>
    cases f with
    | nx ρ => exact ⟨WP.h (show WP (k ρ) Q from h)⟩
    | _ => exact ⟨h⟩
  | err n ds => exact ⟨h⟩
  | stuck => exact ⟨h⟩
theorem w_asg (d : D) (h : a = .ok d) (h2 : Q (.ok (.nx (ρ.set i (some d))))) : WP (asg i ρ a) Q := by subst h; exact ⟨h2⟩
theorem w_own {r : R (List D)} (ds : List D) (h : r = .ok ds) (h2 : Q (.ok (.nx (ρ.set i (some (.lst ds)))))) : WP (ownS i ρ r) Q := by subst h; exact ⟨h2⟩
theorem w_nx (h : Q (.ok (.nx ρ))) : WP (.ok (.nx ρ)) Q := ⟨h⟩
theorem w_rt (d : D) (h : a = .ok d) (h2 : Q (.ok (.rt d))) : WP (ret a) Q := by subst h; exact ⟨h2⟩
theorem w_if (b : Bool) (h : c = .ok b) (h1 : b = true → WP x Q) (h2 : b = false → WP y Q) : WP (ifv c x y) Q := by
  subst h
  cases b with
  | true => exact ⟨(h1 rfl).h⟩
  | false => exact ⟨(h2 rfl).h⟩
theorem w_t (h : c = .ok true) (h1 : WP x Q) : WP (ifv c x y) Q := by subst h; exact ⟨h1.h⟩
theorem w_f (h : c = .ok false) (h1 : WP y Q) : WP (ifv c x y) Q := by subst h; exact ⟨h1.h⟩
theorem w_app {ds : List D} (d : D) (h : ρ[i]? = some (some (.lst ds))) (ha : a = .ok d) (hl : ds.length < LIM) (h2 : Q (.ok (.nx (ρ.set i (some (.lst (ds ++ [d]))))))) : WP (appS i ρ a) Q := by
  rw [appS_nx h ha hl]
  exact ⟨h2⟩
theorem w_appV {M : List Nat} {ds : List D} (d : D) (h : ρ[i]? = some (some (.lst ds))) (ha : a = .ok d) (hk : keepOk M ρ d = true) (hl : ds.length < LIM) (h2 : Q (.ok (.nx (ρ.set i (some (.lst (ds ++ [d]))))))) : WP (appSV M i ρ a) Q := by
  unfold appSV
  rw [ownD_of' h, ha, calm_ok, ok_bind, ok_bind, if_pos hk, if_pos hl]
  exact ⟨h2⟩
theorem w_raise {n : Str} {fs : List Str} {r : R (List D)} (ds : List D) (h : r = .ok ds) (hl : ds.length = fs.length ∧ fs.length ≤ 900) (h2 : Q (.err n [.obj n fs.reverse ds.reverse])) : WP (raiseS n fs r) Q := by
  subst h
  unfold raiseS
  rw [ok_bind, if_pos hl]
  exact ⟨h2⟩
theorem w_loop {α : Type} {ag : D → R As} {mb : Env → R Fl} (emb : α → D) (xs : List α) (P : Nat → Env → Prop) (h0 : P 0 ρ) (hs : ∀ i x ρ, xs[i]? = some x → P i ρ → ∃ as, ag (emb x) = .ok as ∧ WP (mb (setE ρ as)) (Lp (P (i + 1)) Q)) (hk : ∀ ρ, P xs.length ρ → Q (.ok (.nx ρ))) : WP (loopGo ag mb (xs.map emb) ρ) Q := by
  induction xs generalizing ρ P with
  | nil => exact ⟨hk _ h0⟩
  | cons x xs ih =>
    obtain ⟨as, h1, h2⟩ := hs 0 x ρ rfl h0
    rw [List.map_cons]
    unfold loopGo
    obtain ⟨h2⟩ := h2
    rw [h1, calm_ok, ok_bind]
    cases e : mb (setE ρ as) with
    | ok f =>
      rw [e] at h2
      rw [ok_bind]
      cases f with
      | nx ρ' => exact ih (fun i => P (i + 1)) h2 (fun i y ρ hy hp => hs (i + 1) y ρ hy hp) hk
      | ct ρ' => exact ih (fun i => P (i + 1)) h2 (fun i y ρ hy hp => hs (i + 1) y ρ hy hp) hk
      | bk ρ' => exact ⟨h2⟩
      | rt d => exact ⟨h2⟩
      | rf ds => exact ⟨h2⟩
      | rd ds => exact ⟨h2⟩
    | err n ds =>
      rw [e] at h2
      exact ⟨h2⟩
    | stuck =>
      rw [e] at h2
      exact ⟨h2⟩
theorem w_fors {α : Type} {ag : D → R As} {mb : Env → R Fl} {r : R (List D)} (emb : α → D) (xs : List α) (P : Nat → Env → Prop) (hr : r = .ok (xs.map emb)) (h0 : P 0 ρ) (hs : ∀ i x ρ, xs[i]? = some x → P i ρ → ∃ as, ag (emb x) = .ok as ∧ WP (mb (setE ρ as)) (Lp (P (i + 1)) Q)) (hk : ∀ ρ, P xs.length ρ → Q (.ok (.nx ρ))) : WP (forS ag mb ρ r) Q := by
  subst hr
  exact w_loop emb xs P h0 hs hk
theorem w_for {α : Type} {rg : List D → R (List D)} {ag : D → R As} {mb : Env → R Fl} {r : R (List D)} {ds : List D} (emb : α → D) (xs : List α) (P : Nat → Env → Prop) (hr : r = .ok ds) (hg : rg ds = .ok (xs.map emb)) (h0 : P 0 ρ) (hs : ∀ i x ρ, xs[i]? = some x → P i ρ → ∃ as, ag (emb x) = .ok as ∧ WP (mb (setE ρ as)) (Lp (P (i + 1)) Q)) (hk : ∀ ρ, P xs.length ρ → Q (.ok (.nx ρ))) : WP (forR rg ag mb ρ r) Q := by
  subst hr
  rw [forR_ok, hg, calm_ok, ok_bind]
  exact w_loop emb xs P h0 hs hk
end
/-! ### comprehensions of two walks -/
section
variable {ρ : Env}
end
end DL
namespace DL
open PySem PySem.Spec L2
set_option maxHeartbeats 4000000

/-! ### what the laws' own defs make, whatever classes there are -/
structure PX where
  iso : List D → R D
  ln : List D → R D
  eq : D → D → R D
  ix : D → D → R D
def isOb : D → Bool
  | .obj _ _ _ => true
  | _ => false
structure PX.Ok (p : PX) : Prop where
  iso : ∀ d n, isOb d = false → p.iso [d, .ty n] = isiD [d, .ty n]
  lnL : ∀ ds, p.ln [.lst ds] = .ok (.int ds.length)
  lnT : ∀ ds, p.ln [.tup ds] = .ok (.int ds.length)
  lnS : ∀ ns, p.ln [.scr ns] = .ok (.int ns.length)
  eq : ∀ x y, isOb x = false → p.eq x y = eqD x y
  ixL : ∀ ds d, p.ix (.lst ds) d = ixD (.lst ds) d
  ixT : ∀ ds d, p.ix (.tup ds) d = ixD (.tup ds) d
  ixS : ∀ ns d, p.ix (.scr ns) d = ixD (.scr ns) d
section
variable {p : PX}
theorem powD_18 : powD (.int 10) (.int 18) = .ok (.int 1000000000000000000) := by
  unfold powD
  exact gd_ok (by decide)
/-! ### what is the same -/
def D.pl : Nat → D → Bool
  | 0, _ => false
  | _ + 1, .non => true
  | _ + 1, .bl _ => true
  | _ + 1, .int _ => true
  | _ + 1, .str x => PyData.canLay0 (.str x)
  | n + 1, .lst ds => decide (ds.length ≤ 100000) && ds.all (D.pl n)
  | n + 1, .tup ds => decide (ds.length ≤ 100000) && ds.all (D.pl n)
  | _ + 1, _ => false
end
theorem erase_perm {α : Type} : ∀ (L : List α) (m : Nat) (h : m < L.length), (L[m] :: L.eraseIdx m).Perm L
  | [], m, h => by cases h
  | x :: L, 0, h => List.Perm.refl _
  | x :: L, m + 1, h => by
    simp only [List.getElem_cons_succ, List.eraseIdx_cons_succ]
    exact (List.Perm.swap _ _ _).trans ((erase_perm L m (by simpa using h)).cons x)
theorem erase_map {α β : Type} (f : α → β) : ∀ (L : List α) (m : Nat), (L.map f).eraseIdx m = (L.eraseIdx m).map f
  | [], m => rfl
  | x :: L, 0 => rfl
  | x :: L, m + 1 => by
    simp only [List.map_cons, List.eraseIdx_cons_succ, erase_map f L m]
end DL
namespace DL
open PySem PySem.Spec L2
set_option maxHeartbeats 4000000
section
variable {p : PX}
end
def Nx (P : Env → Prop) : R Fl → Prop := fun y => ∃ ρ, y = .ok (.nx ρ) ∧ P ρ
theorem nx_ok {P : Env → Prop} {ρ : Env} (h : P ρ) : Nx P (.ok (.nx ρ)) := ⟨ρ, rfl, h⟩
theorem w_cut {x : R Fl} {Q : R Fl → Prop} (P : Env → Prop) (h : WP x (Nx P)) (h2 : ∀ ρ, P ρ → Q (.ok (.nx ρ))) : WP x Q := by
  obtain ⟨ρ, e, hp⟩ := h.h
  rw [e]
  exact ⟨h2 ρ hp⟩
theorem ix_last {α : Type} (f : α → D) (xs : List α) (x : α) : ixD (.lst ((xs ++ [x]).map f)) (.int (-1)) = .ok (f x) := by
  show (match L2.atI ((xs ++ [x]).map f) (-1) with | some d => R.ok d | none => .stuck) = _
  have : L2.atI ((xs ++ [x]).map f) (-1) = some (f x) := by
    unfold L2.atI
    have h : ixN ((xs ++ [x]).map f).length (-1) = some xs.length := by
      unfold ixN
      simp
      omega
    rw [h]
    simp
  rw [this]
theorem anyD_map {α : Type} (f : α → Bool) (xs : List α) : anyD [.lst (xs.map fun x => D.bl (f x))] = .ok (.bl (xs.any f)) := by
  have := anyD_ (xs.map f)
  rw [List.map_map, List.any_map] at this
  exact this
end DL
namespace DL
open PySem PySem.Spec PyProof.Rows L2

structure DcAk (K : PySem.W.Frag) (mg : Gm) (I1 H1 : Hp) (D0 : Addr) (n : Nat) (ks : List Key) (es : List D) (I2 H : Hp) : Prop where
  i : Same I1 I2
  e : Same I2 H
  z : I2 D0 = none
  h : Same H1 H
  f : ∀ a o, I2 a = some o → I1 a = some o ∨ Fr H1 a o
  l : ∃ kvs : List (Key × V), H D0 = some (.dK kvs) ∧ kvs.map (·.1) = ks ∧ Reps K mg I2 (kvs.map (·.2)) es ∧ kvs.length ≤ n
section
variable {K : PySem.W.Frag} {mg : Gm} {I1 H1 I2 H I3 H3 : Hp} {D0 : Addr} {n : Nat} {ks : List Key} {es : List D} {y : V} {d : D}
theorem DcAk.start (ex : Same I1 H1) (hD : H1 D0 = none) : DcAk K mg I1 H1 D0 0 [] [] I1 (upd H1 D0 (.dK [])) :=
  ⟨.refl _, (Stp.side ex hD).e, ex.free hD, (Stp.side ex hD).h, fun _ _ h => .inl h, [], upd_same, rfl, .nil, Nat.le_refl _⟩
theorem DcAk.step (p : DcAk K mg I1 H1 D0 n ks es I2 H) (s : Stp I2 H I3 H3) : DcAk K mg I1 H1 D0 n ks es I3 H3 := by
  obtain ⟨kvs, h1, h0, h2, h3⟩ := p.l
  refine ⟨p.i.trans s.i, s.e, ?_, p.h.trans s.h, fun a o h => ?_, kvs, s.h _ _ h1, h0, h2.mono s.i, h3⟩
  · cases q : I3 D0 with
    | none => rfl
    | some o =>
      rcases s.f _ _ q with z | z | z
      · rw [p.z] at z
        cases z
      · rw [h1] at z
        cases z
      · have y := s.e _ _ q
        rw [s.h _ _ h1] at y
        cases y
        exact z.elim
  · rcases s.f a o h with z | z | z
    · exact p.f a o z
    · exact .inr (.inl (p.h.free z))
    · exact .inr (.inr z)
theorem DcAk.push (p : DcAk K mg I1 H1 D0 n ks es I2 H) (hD : H1 D0 = none) (k : Key) (r : Rep K mg I2 y d) (hn : n < LIM) : ∃ kvs, H D0 = some (.dK kvs) ∧ kvs.length < sizeLine ∧ DcAk K mg I1 H1 D0 (n + 1) (putKs k ks) (putKd k d ks es) I2 (upd H D0 (.dK (putK kvs k y))) := by
  obtain ⟨kvs, h1, h0, h2, h3⟩ := p.l
  subst h0
  refine ⟨kvs, h1, lim_lt (by omega), p.i, fun a o q => ?_, p.z, fun a o q => ?_, p.f, putK kvs k y, upd_same, putK_ks kvs, putK_ds r h2, ?_⟩
  · rw [upd_ne (ne_of_none q p.z)]
    exact p.e _ _ q
  · rw [upd_ne (ne_of_none q hD)]
    exact p.h _ _ q
  · have := length_putK kvs k y
    omega
theorem DcAk.skip (p : DcAk K mg I1 H1 D0 n ks es I2 H) : DcAk K mg I1 H1 D0 (n + 1) ks es I2 H := by
  obtain ⟨kvs, h1, h0, h2, h3⟩ := p.l
  exact ⟨p.i, p.e, p.z, p.h, p.f, kvs, h1, h0, h2, by omega⟩
theorem DcAk.done (p : DcAk K mg I1 H1 D0 n ks es I2 H) (hD : H1 D0 = none) : ∃ I', Stp I1 H1 I' H ∧ Rep K mg I' (.ref D0) (.dk ks es) := by
  obtain ⟨kvs, h1, h0, h2, h3⟩ := p.l
  subst h0
  have k : Same I2 (upd I2 D0 (.dK kvs)) := fun a o q => by
    rw [upd_ne (ne_of_none q p.z)]
    exact q
  refine ⟨upd I2 D0 (.dK kvs), ⟨p.i.trans k, p.h, fun a o q => ?_, fun a o q => ?_⟩, .dk (.inl upd_same) (h2.mono k)⟩
  · by_cases e : a = D0
    · subst e
      rw [upd_same] at q
      rw [h1]
      exact q
    · rw [upd_ne e] at q
      exact p.e _ _ q
  · by_cases e : a = D0
    · subst e
      exact .inr (.inl hD)
    · rw [upd_ne e] at q
      exact p.f _ _ q
end
section
variable {X : Cx} {E : Wh} {kx vx tg iter : Expr} {ifs : List Expr} {scope : Scope} {own : List (Str × Nat)} {pos : Pos} {wi : TI} {g : TG} {tt : TT} {tk tv : TE} {mi : Env → R (List D)} {ag : D → R As} {mt : Env → R Bool} {mk mv : Env → R D}
end
section
variable {E : XK} {wi wi1 : TI} {g g1 : TG} {tt tt1 : TT} {te : TE} {mi mi1 : Env → R (List D)} {ag ag1 : D → R As} {mt mt1 : Env → R Bool} {me : Env → R D}
end
section
variable {X : Cx} {E : XK} {elt tg iter tg1 iter1 : Expr} {ifs ifs1 : List Expr} {scope : Scope} {own : List (Str × Nat)} {vs1 : List Nat} {pos : Pos} {wi wi1 : TI} {g g1 : TG} {tt tt1 : TT} {te : TE} {mi mi1 : Env → R (List D)} {ag ag1 : D → R As} {mt mt1 : Env → R Bool} {me : Env → R D}
end
section
variable {X : Cx} {E : XK} {Mb M : List Nat} {elt tg iter tg1 iter1 : Expr} {ifs ifs1 : List Expr} {scope : Scope} {own : List (Str × Nat)} {vs1 : List Nat} {pos spos py : Pos} {y : Str} {wi wi1 : TI} {g g1 : TG} {tt tt1 : TT} {te : TE} {mi mi1 : Env → R (List D)} {ag ag1 : D → R As} {mt mt1 : Env → R Bool} {me : Env → R D}
end
end DL
namespace DL
open PySem PySem.Spec PyProof.Rows L2

/-! ### for k in d, d a dict that is data: it is locked meanwhile -/
open Classical in
/-- the dict at a, locked wherever it stands -/
noncomputable def lk (a : Addr) (f : HO) (J : Hp) : Hp := fun b => if b = a then (match J a with | some _ => some f | none => none) else J b
section
variable {K : PySem.W.Frag} {mg : Gm} {M : List Nat} {I I0 He H I' H' : Hp} {a : Addr} {od : Obj} {u f : HO} {σ σ' : L2.St} {ρ ρ' : Env} {x0 : Addr}
theorem lk_ne {J : Hp} {b : Addr} (h : b ≠ a) : lk a f J b = J b := if_neg h
theorem lk_some {J : Hp} {o : HO} (h : J a = some o) : lk a f J = upd J a f := by
  funext b
  by_cases e : b = a
  · subst e
    unfold lk
    rw [if_pos rfl, h, upd_same]
  · rw [lk_ne e, upd_ne e]
theorem lk_none {J : Hp} (h : J a = none) : lk a f J a = none := by
  unfold lk
  rw [if_pos rfl, h]
theorem lk_free {J : Hp} {b : Addr} (h : J b = none) : lk a f J b = none := by
  by_cases e : b = a
  · subst e
    exact lk_none h
  · rw [lk_ne e]
    exact h
theorem lk_same {J J' : Hp} (e : Same J J') : Same (lk a f J) (lk a f J') := fun b o h => by
  by_cases t : b = a
  · subst t
    cases q : J b with
    | none =>
      rw [lk_none q] at h
      cases h
    | some o2 =>
      rw [lk_some q, upd_same] at h
      rw [lk_some (e _ _ q), upd_same]
      exact h
  · rw [lk_ne t] at h ⊢
    exact e _ _ h
theorem Stp.lk (s : Stp I0 He I H) (hI : I a = some u) (hu : DctO u) : Stp (lk a f I0) (lk a f He) (lk a f I) (lk a f H) := ⟨lk_same s.i, lk_same s.h, lk_same s.e, fun b o h => by
  by_cases t : b = a
  · subst t
    rw [lk_some hI, upd_same] at h
    rcases s.f _ _ hI with y | y | y
    · rw [lk_some y, upd_same]
      exact .inl h
    · exact .inr (.inl (lk_none y))
    · cases u <;> first | exact hu.elim | exact y.elim
  · rw [lk_ne t] at h
    rcases s.f _ _ h with y | y | y
    · rw [lk_ne t]
      exact .inl y
    · refine .inr (.inl ?_)
      rw [lk_ne t]
      exact y
    · exact .inr (.inr y)⟩
/-- unlocked again -/
theorem Stp.unlk (s : Stp (DL.lk a f I0) (DL.lk a f He) I' H') (h0 : Same I0 I) (h1 : Same He H) (hI : I a = some u) (hH : H a = some u) (h2 : ∀ o, I0 a = some o → I a = some o) (hf : I0 a = none → He a = none) : Stp I0 He (upd I' a u) (upd H' a u) := by
  have key : ∀ {J J' : Hp}, (∀ o, J a = some o → o = u) → Same (DL.lk a f J) J' → Same J (upd J' a u) := fun hJ e b w z => by
    by_cases t : b = a
    · subst t
      rw [upd_same, hJ _ z]
    · rw [upd_ne t]
      exact e _ _ (by rw [lk_ne t]; exact z)
  have kI : ∀ o, I0 a = some o → o = u := fun o q => by
    have := h0 _ _ q
    rw [hI] at this
    exact (Option.some.inj this).symm
  have kH : ∀ o, He a = some o → o = u := fun o q => by
    have := h1 _ _ q
    rw [hH] at this
    exact (Option.some.inj this).symm
  refine ⟨key kI s.i, key kH s.h, fun b w z => ?_, fun b w z => ?_⟩
  · by_cases t : b = a
    · subst t
      rw [upd_same] at z ⊢
      exact z
    · rw [upd_ne t] at z ⊢
      exact s.e _ _ z
  · by_cases t : b = a
    · subst t
      rw [upd_same] at z
      cases z
      cases q : I0 b with
      | some o =>
        rw [kI o q]
        exact .inl rfl
      | none => exact .inr (.inl (hf q))
    · rw [upd_ne t] at z
      rcases s.f _ _ z with y | y | y
      · rw [lk_ne t] at y
        exact .inl y
      · rw [lk_ne t] at y
        exact .inr (.inl y)
      · exact .inr (.inr y)
theorem OwnR.lock {o : HO} {d : D} (hu : DctO u) (ha : I a = some u) (h : OwnR K mg I o d) : OwnR K mg (upd I a (.frz od u)) o d := by
  cases h with
  | lst r => exact .lst (r.lock hu ha)
  | dk r => exact .dk (r.lock hu ha)
  | dt r => exact .dt (r.lock hu ha)
  | ins c r => exact .ins c (r.lock hu ha)
theorem OwnR.unlock {o : HO} {d : D} (hu : DctO u) (ha : I a = some (.frz od u)) (h : OwnR K mg I o d) : OwnR K mg (upd I a u) o d := by
  cases h with
  | lst r => exact .lst (r.unlock hu ha)
  | dk r => exact .dk (r.unlock hu ha)
  | dt r => exact .dt (r.unlock hu ha)
  | ins c r => exact .ins c (r.unlock hu ha)
theorem Kids.mapK {J Je G J' Je' G' : Hp} (hk : ∀ {v : V} {d : D}, Kid K mg J Je G v d → Kid K mg J' Je' G' v d) : ∀ {vs : List V} {ds : List D}, Kids K mg J Je G vs ds → Kids K mg J' Je' G' vs ds
  | _, _, .nil => .nil
  | _, _, .cons h r => .cons (hk h) (Kids.mapK hk r)
theorem OwnD.mapK {J Je G J' Je' G' : Hp} {o : HO} {d : D} (hk : ∀ {v : V} {d : D}, Kid K mg J Je G v d → Kid K mg J' Je' G' v d) (h : OwnD K mg J Je G o d) : OwnD K mg J' Je' G' o d := by
  cases h with
  | lst r => exact .lst (r.mapK hk)
  | dk r => exact .dk (r.mapK hk)
  | dt r => exact .dt (r.mapK hk)
theorem Kid.lock {v : V} {d : D} (hu : DctO u) (ha : I a = some u) (s : Stp I0 He I H) (h : Kid K mg I He H v d) : Kid K mg (upd I a (.frz od u)) (DL.lk a (.frz od u) He) (upd H a (.frz od u)) v d := by
  obtain ⟨q, ws, es, e1, e2, h1, h2, h3, h4⟩ := h
  have hq : q ≠ a := fun e => by
    subst e
    rw [ha] at h1
    cases h1
  exact ⟨q, ws, es, e1, e2, by rw [upd_ne hq]; exact h1, lk_free h2, by rw [upd_ne hq]; exact h3, h4.lock hu ha⟩
theorem Kid.unlock {v : V} {d : D} (hu : DctO u) (ha : I' a = some (.frz od u)) (h : Kid K mg I' (DL.lk a (.frz od u) He) H' v d) : Kid K mg (upd I' a u) He (upd H' a u) v d := by
  obtain ⟨q, ws, es, e1, e2, h1, h2, h3, h4⟩ := h
  have hq : q ≠ a := fun e => by
    subst e
    rw [ha] at h1
    cases h1
  exact ⟨q, ws, es, e1, e2, by rw [upd_ne hq]; exact h1, by rw [lk_ne hq] at h2; exact h2, by rw [upd_ne hq]; exact h3, h4.unlock hu ha⟩
theorem SE.lock (hu : DctO u) (ha : I a = some u) (s : SE K mg M (I0, x0) He σ I H ρ) : SE K mg M (DL.lk a (.frz od u) I0, x0) (DL.lk a (.frz od u) He) σ (upd I a (.frz od u)) (upd H a (.frz od u)) ρ := by
  have hH := s.st.e _ _ ha
  have st := s.st.lk (a := a) (f := .frz od u) ha hu
  rw [lk_some ha, lk_some hH] at st
  have hne : ∀ {p : Addr}, I p = none → p ≠ a := fun h e => by
    subst e
    rw [ha] at h
    cases h
  have howA : ∀ {i : Nat} {p b : Addr} {d : D}, i ∈ M → ρ[i]? = some (some d) → σ[i]? = some (some (.ref p)) → ownA M (upd H a (.frz od u)) i p b → ownA M H i p b := fun {i p b d} hi q hp h => by
    rcases h with h | ⟨hd, o, h1, h2⟩
    · exact .inl h
    · obtain ⟨p', o', e1, e2, e3, e4, e5⟩ := s.own_ i d hi q
      rw [hp] at e1
      cases e1
      rw [upd_ne (hne e2)] at h1
      exact .inr ⟨hd, o, h1, h2⟩
  refine ⟨st, s.len, fun i d hi q => ?_, fun i d hi q => ?_, fun i j p p' d e hi hj hij q1 q2 g1 g2 b h1 h2 => s.dis i j p p' d e hi hj hij q1 q2 g1 g2 b (howA hi q1 g1 h1) (howA hj q2 g2 h2), s.slf⟩
  · obtain ⟨v, h1, h2⟩ := s.imm i d hi q
    exact ⟨v, h1, h2.lock hu ha⟩
  · obtain ⟨p, o, h1, h2, h3, h4, h5⟩ := s.own_ i d hi q
    refine ⟨p, o, h1, by rw [upd_ne (hne h2)]; exact h2, lk_free h3, by rw [upd_ne (hne h2)]; exact h4, ?_⟩
    unfold OwnX at h5 ⊢
    split
    · rename_i hd
      rw [if_pos hd] at h5
      exact ⟨h5.1.mapK fun h => h.lock hu ha s.st, h5.2⟩
    · rename_i hd
      rw [if_neg hd] at h5
      exact h5.lock hu ha
theorem SE.unlock (hu : DctO u) (t : SE K mg M (I0, x0) He σ I H ρ) (ha : I a = some u) {M' : List Nat} (s : SE K mg M' (DL.lk a (.frz od u) I0, x0) (DL.lk a (.frz od u) He) σ' I' H' ρ') (ha' : I' a = some (.frz od u)) : SE K mg M' (I0, x0) He σ' (upd I' a u) (upd H' a u) ρ' := by
  have hH := t.st.e _ _ ha
  have hf : I0 a = none → He a = none := fun h => by
    rcases t.st.f _ _ ha with y | y | y
    · have y : I0 a = some u := y
      rw [h] at y
      cases y
    · exact y
    · cases u <;> first | exact hu.elim | exact y.elim
  have st := Stp.unlk (I := I) (H := H) s.st t.st.i t.st.h ha hH (fun o q => t.st.i _ _ q) hf
  have hne : ∀ {p : Addr}, I' p = none → p ≠ a := fun h e => by
    subst e
    rw [ha'] at h
    cases h
  have howA : ∀ {i : Nat} {p b : Addr} {d : D}, i ∈ M' → ρ'[i]? = some (some d) → σ'[i]? = some (some (.ref p)) → ownA M' (upd H' a u) i p b → ownA M' H' i p b := fun {i p b d} hi q hp h => by
    rcases h with h | ⟨hd, o, h1, h2⟩
    · exact .inl h
    · obtain ⟨p', o', e1, e2, e3, e4, e5⟩ := s.own_ i d hi q
      rw [hp] at e1
      cases e1
      rw [upd_ne (hne e2)] at h1
      exact .inr ⟨hd, o, h1, h2⟩
  refine ⟨st, s.len, fun i d hi q => ?_, fun i d hi q => ?_, fun i j p p' d e hi hj hij q1 q2 g1 g2 b h1 h2 => s.dis i j p p' d e hi hj hij q1 q2 g1 g2 b (howA hi q1 g1 h1) (howA hj q2 g2 h2), s.slf⟩
  · obtain ⟨v, h1, h2⟩ := s.imm i d hi q
    exact ⟨v, h1, h2.unlock hu ha'⟩
  · obtain ⟨p, o, h1, h2, h3, h4, h5⟩ := s.own_ i d hi q
    refine ⟨p, o, h1, by rw [upd_ne (hne h2)]; exact h2, by rw [lk_ne (hne h2)] at h3; exact h3, by rw [upd_ne (hne h2)]; exact h4, ?_⟩
    unfold OwnX at h5 ⊢
    split
    · rename_i hd
      rw [if_pos hd] at h5
      exact ⟨h5.1.mapK fun h => h.unlock hu ha', h5.2⟩
    · rename_i hd
      rw [if_neg hd] at h5
      exact h5.unlock hu ha'
end
section
variable {X : Cx} {E : XK} {Mb M : List Nat} {tg : Expr} {body : List Stmt} {g : TG} {tb : TS} {ag : D → R As} {mb : Env → R Fl} {pos p : Pos} {x : Str}
end
end DL
namespace DL
open PySem PySem.Spec PyProof.Rows L2

/-! ### o[i], o of a class with __getitem__ -/
structure GetAt (P : Program) (w : World) (K : PySem.W.Frag) (mg : Str → Option Value) (base : Heap) (j : Nat) (tab : List (Str × (List D → R D))) : Prop where
  ops : OpsAt P w K mg base "__getitem__" j 2 tab
  fns : ∀ n g C f, opOf n tab = some g → mg n = some (.ref C) → PySem.W.findIn K (.ref C) "__getitem__" = some (some (.ref f)) → PySem.W.fnIn K f = true
section
variable {P : Program} {w : World} {K : PySem.W.Frag} {mg : Str → Option Value} {base : Heap} {n : Str} {j k : Nat} {tab : List (Str × (List D → R D))} {g : List D → R D} {C f : Addr}
theorem GetAt.nil : GetAt P w K mg base j [] := ⟨.nil, fun n g C f h => by cases h⟩
theorem GetAt.cons (F : MtAt P w K mg base n C "__getitem__" k 2 g) (hn : mg n = some (.ref C)) (sf : PySem.W.selfFirst K C = true) (hk : k ≤ j) (hat : PySem.W.findIn K (.ref C) "__getitem__" = some (some (.ref f))) (hfn : PySem.W.fnIn K f = true) (T : GetAt P w K mg base j tab) : GetAt P w K mg base j ((n, g) :: tab) :=
  ⟨.cons F sf hk T.ops, fun n' g' C' f' h hc hf => by
    have h : (if n = n' then some g else opOf n' tab) = some g' := h
    by_cases e : n = n'
    · subst e
      rw [hn] at hc
      cases hc
      rw [hat] at hf
      cases hf
      exact hfn
    · rw [if_neg e] at h
      exact T.fns n' g' C' f' h hc hf⟩
end
section
variable {X : Cx} {tab : List (Str × (List D → R D))} {j : Nat}
end
section
variable {X : Cx} {E : Wh} {P : Program} {w : World} {mg : Str → Option Value} {base : Heap} {j k : Nat} {tab : List (Str × (List D → R D))} {a b : Expr} {ta tb : TE} {ma mb : Env → R D} {pos : Pos}
end

section
open GQ
variable {prog : Program} {w : World} {A : Around} {R0 : Result → Shared → Prop}
end
section
variable {X : Cx} {tab : List (Str × (List D → R D))} {j : Nat}
end
section
variable {X : Cx} {E : Wh} {P : Program} {w : World} {mg : Str → Option Value} {base : Heap} {j k : Nat} {tab : List (Str × (List D → R D))} {a b : Expr} {ta tb : TE} {ma mb : Env → R D} {pos : Pos}
end
end DL
namespace DL
open PySem PySem.Spec PyProof.Rows L2

end DL
namespace DL
open PySem PySem.Spec L2
set_option maxHeartbeats 4000000
theorem comb7_len (n k : Nat) (hn : n ≤ 7) (hk : k ≤ 7) : (combI k (iotaI n)).length ≤ 35 := by
  have key : ∀ n ≤ 7, ∀ i ≤ 7, (combI i (iotaI n)).length ≤ 35 := by decide +kernel
  exact key n hn k hk
/-- the rows of a book -/
def GoodR (n s : Nat) (Q : List (List Int)) : Prop := AscR Q ∧ ∀ r ∈ Q, RoomR n s r
theorem nodup_rooms {n s : Nat} {Q : List (List Int)} (hn : n ≤ 7) (hs : s ≤ 7) (h : Q.Nodup) (hr : ∀ r ∈ Q, RoomR n s r) : Q.length ≤ 35 :=
  Nat.le_trans (nodup_len Q (combI s (iotaI n)) h fun q hq => (mem_comb_iota n s q).mpr (hr q hq)) (comb7_len n s hn hs)
theorem GoodR.len {n s : Nat} {Q : List (List Int)} (hn : n ≤ 7) (hs : s ≤ 7) (h : GoodR n s Q) : Q.length ≤ 35 := nodup_rooms hn hs h.1.nodup h.2
/-! ### counted twice -/
theorem sum_add {β : Type} (g h : β → Nat) : ∀ B : List β, (B.map fun b => g b + h b).sum = (B.map g).sum + (B.map h).sum
  | [] => rfl
  | b :: B => by
    have ih := sum_add g h B
    simp only [List.map_cons, List.sum_cons, ih]
    omega
theorem len_sum {β : Type} (p : β → Bool) : ∀ B : List β, (B.filter p).length = (B.map fun b => if p b = true then 1 else 0).sum
  | [] => rfl
  | b :: B => by
    have ih := len_sum p B
    rw [List.filter_cons, List.map_cons, List.sum_cons, ← ih]
    by_cases h : p b = true
    · rw [if_pos h, if_pos h, List.length_cons]
      omega
    · rw [if_neg h, if_neg h]
      omega
theorem swap_sum {α β : Type} (p : α → β → Bool) (B : List β) : ∀ A : List α, (A.map fun a => (B.filter (p a)).length).sum = (B.map fun b => (A.filter fun a => p a b).length).sum
  | [] => by
    simp only [List.map_nil, List.sum_nil, List.filter_nil, List.length_nil]
    induction B with
    | nil => rfl
    | cons b B ih =>
      rw [List.map_cons, List.sum_cons, ← ih]
      rfl
  | a :: A => by
    have ih := swap_sum p B A
    rw [List.map_cons, List.sum_cons, ih, len_sum (p a) B, ← sum_add]
    refine congrArg List.sum (List.map_congr_left fun b _ => ?_)
    rw [List.filter_cons]
    by_cases h : p a b = true
    · rw [if_pos h, if_pos h, List.length_cons]
      omega
    · rw [if_neg h, if_neg h]
      omega
theorem sum_par {β : Type} (g : β → Nat) (p : β → Bool) : ∀ B : List β, (∀ b ∈ B, g b % 2 = if p b = true then 1 else 0) → (B.map g).sum % 2 = (B.filter p).length % 2
  | [], _ => rfl
  | b :: B, h => by
    have ih := sum_par g p B fun x hx => h x (List.mem_cons_of_mem _ hx)
    have h0 := h b List.mem_cons_self
    rw [List.map_cons, List.sum_cons, List.filter_cons]
    by_cases e : p b = true
    · rw [if_pos e] at h0 ⊢
      rw [List.length_cons]
      omega
    · rw [if_neg e] at h0 ⊢
      omega
/-! ### faces of a room -/
theorem sub_face : ∀ {f r : List Int}, f.Sublist r → f.length + 1 = r.length → ∃ k, k < r.length ∧ f = r.take k ++ r.drop (k + 1)
  | _, _, .cons x h, hl => by
    simp only [List.length_cons] at hl
    have := h.eq_of_length (by omega)
    exact ⟨0, by simp, by simp [this]⟩
  | _, _, .cons_cons x h, hl => by
    simp only [List.length_cons] at hl
    obtain ⟨k, hk, e⟩ := sub_face h (by omega)
    exact ⟨k + 1, by simp; omega, by simp [e]⟩
  | _, _, .slnil, hl => by simp at hl
theorem mem_facesP (r f : List Int) : f ∈ facesP r ↔ ∃ k, k < r.length ∧ f = r.take k ++ r.drop (k + 1) := by
  unfold facesP
  simp only [List.mem_map, List.mem_range]
  constructor
  · rintro ⟨k, h, rfl⟩
    exact ⟨k, h, rfl⟩
  · rintro ⟨k, h, rfl⟩
    exact ⟨k, h, rfl⟩
theorem not_face {r : List Int} (hn : r.Nodup) {k : Nat} (hk : k < r.length) : r[k] ∉ r.take k ++ r.drop (k + 1) := by
  have e : r = r.take k ++ r[k] :: r.drop (k + 1) := by
    rw [← List.drop_eq_getElem_cons hk, List.take_append_drop]
  intro h
  generalize hx : r[k] = x at h e
  rw [e, List.nodup_append] at hn
  obtain ⟨_, h2, h3⟩ := hn
  rcases List.mem_append.mp h with h | h
  · exact h3 x h x List.mem_cons_self rfl
  · exact (List.nodup_cons.mp h2).1 h
theorem eqv_rowD (r q : List Int) : PyData.eqv (rowD r).py (rowD q).py = decide (r = q) := by
  simp only [rowD, D.py, PyData.eqv]
  exact eqv_rows r q
theorem eqv_rowsD : ∀ (R Q : List (List Int)), PyData.eqvAll (D.pys (R.map rowD)) (D.pys (Q.map rowD)) = decide (R = Q)
  | [], [] => by simp [D.pys, PyData.eqvAll]
  | [], q :: Q => by simp [D.pys, PyData.eqvAll]
  | r :: R, [] => by simp [D.pys, PyData.eqvAll]
  | r :: R, q :: Q => by
    simp only [List.map_cons, D.pys, PyData.eqvAll]
    rw [eqv_rowD, eqv_rowsD R Q]
    by_cases h : r = q <;> by_cases h2 : R = Q <;> simp [h, h2]
theorem fine_rowsT (n : Nat) (R : List (List Int)) : (D.tup (R.map rowD)).fine (n + 2) = true := by
  have h := fine_rowsD n R
  simpa only [D.fine] using h
theorem eqD_rowsT (R Q : List (List Int)) : eqD (.tup (R.map rowD)) (.tup (Q.map rowD)) = .ok (.bl (decide (R = Q))) := by
  have h : eqD (.tup (R.map rowD)) (.tup (Q.map rowD)) = gd ((D.tup (R.map rowD)).fine 60 = true ∧ (D.tup (Q.map rowD)).fine 60 = true) (.bl (PyData.eqv (D.tup (R.map rowD)).py (D.tup (Q.map rowD)).py)) := rfl
  rw [h, gd_ok ⟨fine_rowsT 58 R, fine_rowsT 58 Q⟩]
  simp only [D.py, PyData.eqv]
  rw [eqv_rowsD]
/-! ### two ways to leave two out -/
theorem face_iff {w g : List Int} (hn : w.Nodup) {k : Nat} (hk : k < w.length) : g ∈ facesP (w.take k ++ w.drop (k + 1)) ↔ (g.Sublist w ∧ g.length + 2 = w.length) ∧ w[k] ∉ g := by
  have hs : (w.take k ++ w.drop (k + 1)).Sublist w := by
    rw [← List.eraseIdx_eq_take_drop_succ]
    exact List.eraseIdx_sublist w k
  have hl : (w.take k ++ w.drop (k + 1)).length + 1 = w.length := by
    simp only [List.length_append, List.length_take, List.length_drop]
    omega
  constructor
  · intro h
    obtain ⟨j, hj, rfl⟩ := (mem_facesP _ _).mp h
    have h1 : ((w.take k ++ w.drop (k + 1)).take j ++ (w.take k ++ w.drop (k + 1)).drop (j + 1)).Sublist (w.take k ++ w.drop (k + 1)) := by
      rw [← List.eraseIdx_eq_take_drop_succ]
      exact List.eraseIdx_sublist _ j
    have hlen : ((w.take k ++ w.drop (k + 1)).take j ++ (w.take k ++ w.drop (k + 1)).drop (j + 1)).length + 1 = (w.take k ++ w.drop (k + 1)).length := by
      generalize w.take k ++ w.drop (k + 1) = u at hj
      simp only [List.length_append, List.length_take, List.length_drop]
      omega
    exact ⟨⟨h1.trans hs, by omega⟩, fun hm => not_face hn hk (h1.subset hm)⟩
  · rintro ⟨⟨h1, h2⟩, h3⟩
    have h4 : g.Sublist (w.erase w[k]) := by
      have := h1.erase w[k]
      rwa [List.erase_of_not_mem h3] at this
    have h5 : w.erase w[k] = w.take k ++ w.drop (k + 1) := by
      rw [List.erase_eq_eraseIdx_of_idxOf (i := k) (hn.idxOf_getElem k hk), List.eraseIdx_eq_take_drop_succ]
    rw [h5] at h4
    obtain ⟨j, hj, e⟩ := sub_face h4 (by omega)
    exact (mem_facesP _ _).mpr ⟨j, hj, e⟩
theorem filter_in_len {w g : List Int} (hn : w.Nodup) (hs : g.Sublist w) : (w.filter fun x => decide (x ∈ g)).length = g.length := by
  refine (List.Perm.length_eq ?_)
  refine (List.perm_ext_iff_of_nodup (hn.sublist List.filter_sublist) (hn.sublist hs)).mpr fun x => ?_
  simp only [List.mem_filter, decide_eq_true_eq]
  exact ⟨fun h => h.2, fun h => ⟨hs.subset h, h⟩⟩
theorem even_two {w : List Int} (hn : w.Nodup) (g : List Int) : ((facesP w).filter fun f => decide (g ∈ facesP f)).length % 2 = 0 := by
  unfold facesP
  rw [List.filter_map, List.length_map]
  have e : ((List.range w.length).filter ((fun f => decide (g ∈ facesP f)) ∘ fun k => w.take k ++ w.drop (k + 1))) = (List.range w.length).filter fun k => decide (g.Sublist w ∧ g.length + 2 = w.length) && !decide (w.getD k 0 ∈ g) := by
    refine List.filter_congr fun k hk => ?_
    have hk := List.mem_range.mp hk
    show decide (g ∈ facesP _) = _
    rw [show (!decide (w.getD k 0 ∈ g)) = decide (¬ w.getD k 0 ∈ g) from by simp, ← Bool.decide_and]
    refine decide_eq_decide.mpr ?_
    rw [face_iff hn hk, List.getD_eq_getElem?_getD, List.getElem?_eq_getElem hk]
    rfl
  show ((List.range w.length).filter ((fun f => decide (g ∈ facesP f)) ∘ fun k => w.take k ++ w.drop (k + 1))).length % 2 = 0
  rw [e]
  by_cases hc : g.Sublist w ∧ g.length + 2 = w.length
  · have e2 : ((List.range w.length).filter fun k => decide (g.Sublist w ∧ g.length + 2 = w.length) && !decide (w.getD k 0 ∈ g)).length = (w.filter fun x => !decide (x ∈ g)).length := by
      have e3 : w = (List.range w.length).map fun k => w.getD k 0 := by
        refine List.ext_getElem (by simp) fun i h1 h2 => ?_
        simp [List.getD_eq_getElem?_getD, List.getElem?_eq_getElem h1]
      have h : (w.filter fun x => !decide (x ∈ g)) = ((List.range w.length).map fun k => w.getD k 0).filter fun x => !decide (x ∈ g) := by rw [← e3]
      rw [h, List.filter_map, List.length_map]
      refine congrArg List.length (List.filter_congr fun k _ => ?_)
      rw [decide_eq_true hc]
      rfl
    have h1 := filter_in_len hn hc.1
    have h2 : ∀ w : List Int, w.length = (w.filter fun x => decide (x ∈ g)).length + (w.filter fun x => !decide (x ∈ g)).length := by
      intro w
      induction w with
      | nil => rfl
      | cons x w ih =>
        by_cases hx : x ∈ g
        · simp [hx]
          omega
        · simp [hx]
          omega
    have h2 := h2 w
    rw [e2]
    have : (w.filter fun x => !decide (x ∈ g)).length = 2 := by omega
    rw [this]
  · rw [List.filter_eq_nil_iff.mpr fun k _ h => hc (of_decide_eq_true (Bool.and_eq_true_iff.mp h).1)]
    rfl
/-! ### rows put in and out by turns -/
theorem getC_setC (f g : List Int) (z : Int) : ∀ C : List (List Int × Int), getC g (setC f z C) = if g = f then some z else getC g C
  | [] => by
    unfold getC setC
    simp only [List.find?_cons, List.find?_nil]
    by_cases h : g = f
    · rw [if_pos h, decide_eq_true h.symm]
      rfl
    · rw [if_neg h, decide_eq_false fun e => h e.symm]
  | p :: C => by
    have ih := getC_setC f g z C
    unfold getC at ih ⊢
    simp only [setC]
    by_cases h : p.1 = f
    · rw [if_pos h, List.find?_cons, List.find?_cons]
      by_cases e : g = f
      · rw [if_pos e, decide_eq_true (by rw [e]; exact h)]
        rfl
      · rw [if_neg e, decide_eq_false fun x => e (x.symm.trans h)]
    · rw [if_neg h, List.find?_cons, List.find?_cons]
      by_cases e : p.1 = g
      · rw [decide_eq_true e, if_neg fun x => h (e.trans x)]
      · rw [decide_eq_false e]
        exact ih
structure Tog (T : List (List Int)) (C : List (List Int × Int)) : Prop where
  nd : (C.map fun p => p.1).Nodup
  mem : ∀ f, f ∈ C.map (fun p => p.1) ↔ f ∈ T
  val : ∀ f, (getC f C).getD 0 = ((T.count f % 2 : Nat) : Int)
theorem Tog.nil : Tog [] [] := ⟨by simp, by simp, fun f => by simp [getC]⟩
theorem Tog.put {T : List (List Int)} {C : List (List Int × Int)} (h : Tog T C) (f : List Int) : Tog (T ++ [f]) (setC f (1 - (getC f C).getD 0) C) := by
  obtain ⟨h1, h2, h3⟩ := h
  obtain ⟨k1, k2⟩ := setC_keys f (1 - (getC f C).getD 0) C h1
  refine ⟨k1, fun g => ?_, fun g => ?_⟩
  · rw [k2, h2, List.mem_append, List.mem_singleton, or_comm]
  · rw [getC_setC, List.count_append]
    by_cases e : g = f
    · subst e
      rw [if_pos rfl, h3, List.count_singleton_self]
      show 1 - _ = _
      omega
    · rw [if_neg e, h3, List.count_eq_zero.mpr fun x => e (List.mem_singleton.mp x)]
      rfl
theorem Tog.at {T : List (List Int)} {C : List (List Int × Int)} (h : Tog T C) {p : List Int × Int} (hp : p ∈ C) : p.2 = ((T.count p.1 % 2 : Nat) : Int) := by
  have := h.val p.1
  unfold getC at this
  rw [find_self C h.nd p hp] at this
  exact this
def togQ (C : List (List Int × Int)) : List (List Int) := sortR ((C.filter fun p => decide (p.2 = 1)).map fun p => p.1)
theorem Tog.memQ {T : List (List Int)} {C : List (List Int × Int)} (h : Tog T C) (f : List Int) : f ∈ togQ C ↔ T.count f % 2 = 1 := by
  unfold togQ
  rw [(sortR_perm _).mem_iff]
  simp only [List.mem_map, List.mem_filter, decide_eq_true_eq]
  constructor
  · rintro ⟨p, ⟨hp, h1⟩, rfl⟩
    have := h.at hp
    omega
  · intro h1
    have hm : f ∈ T := by
      refine List.count_pos_iff.mp ?_
      omega
    obtain ⟨p, hp, rfl⟩ := List.mem_map.mp ((h.mem f).mpr hm)
    have := h.at hp
    exact ⟨p, ⟨hp, by omega⟩, rfl⟩
theorem Tog.len {n s : Nat} {T : List (List Int)} {C : List (List Int × Int)} (hn : n ≤ 7) (hs : s ≤ 7) (h : Tog T C) (hT : ∀ f ∈ T, RoomR n s f) : C.length ≤ 35 := by
  have := nodup_rooms hn hs h.nd fun f hf => hT f ((h.mem f).mp hf)
  rwa [List.length_map] at this
/-- what holds an even number of times of what was put in holds an even number of times of what is left -/
theorem Tog.par {T : List (List Int)} {C : List (List Int × Int)} (h : Tog T C) (p : List Int → Bool) : ((togQ C).filter p).length % 2 = (T.filter p).length % 2 := by
  have hK := h.nd
  have hm := h.mem
  generalize hKe : (C.map fun p => p.1) = K at hK hm
  have e1 : ((togQ C).filter p).length = ((K.filter p).filter fun f => decide (T.count f % 2 = 1)).length := by
    have hq : (togQ C).Nodup := (sortR_perm _).nodup_iff.mpr (h.nd.sublist ((List.filter_sublist).map _))
    refine List.Perm.length_eq ((List.perm_ext_iff_of_nodup (hq.sublist List.filter_sublist) (hK.sublist ((List.filter_sublist).trans List.filter_sublist))).mpr fun f => ?_)
    simp only [List.mem_filter, decide_eq_true_eq, h.memQ, hm]
    constructor
    · rintro ⟨a, b⟩
      exact ⟨⟨List.count_pos_iff.mp (by omega), b⟩, a⟩
    · rintro ⟨⟨a, b⟩, c⟩
      exact ⟨c, b⟩
  have e2 := sum_par (fun f => T.count f) (fun f => decide (T.count f % 2 = 1)) (K.filter p) fun f _ => by
    by_cases hf : T.count f % 2 = 1
    · rw [decide_eq_true hf, if_pos rfl]
      exact hf
    · rw [decide_eq_false hf, if_neg (by decide)]
      omega
  have e3 := swap_sum (fun a b : List Int => decide (b = a)) T (K.filter p)
  have e4 : ((K.filter p).map fun a => (T.filter fun b => decide (b = a)).length) = (K.filter p).map fun f => T.count f := by
    refine List.map_congr_left fun f _ => ?_
    rw [List.count, List.countP_eq_length_filter]
    refine congrArg List.length (List.filter_congr fun b _ => ?_)
    by_cases hb : b = f
    · rw [decide_eq_true hb, beq_iff_eq.mpr hb]
    · rw [decide_eq_false hb, beq_eq_false_iff_ne.mpr hb]
  have e5 : (T.map fun b => ((K.filter p).filter fun a => decide (b = a)).length) = T.map fun b => if p b = true then 1 else 0 := by
    refine List.map_congr_left fun b hb => ?_
    have hbK := (hm b).mpr hb
    by_cases hp : p b = true
    · rw [if_pos hp]
      have : ((K.filter p).filter fun a => decide (b = a)).Perm [b] := by
        refine (List.perm_ext_iff_of_nodup (hK.sublist ((List.filter_sublist).trans List.filter_sublist)) (by simp)).mpr fun x => ?_
        simp only [List.mem_filter, decide_eq_true_eq, List.mem_singleton]
        constructor
        · rintro ⟨_, h⟩
          exact h.symm
        · rintro rfl
          exact ⟨⟨hbK, hp⟩, rfl⟩
      rw [this.length_eq]
      rfl
    · rw [if_neg hp]
      rw [List.filter_eq_nil_iff.mpr ?_]
      · rfl
      · intro a ha h2
        have := (List.mem_filter.mp ha).2
        rw [← of_decide_eq_true h2] at this
        exact hp this
  rw [e4, e5, ← len_sum] at e3
  rw [e1, ← e3, e2]
/-- faces of rows of one size more, put in and out by turns, hold each face an even number of times -/
theorem Tog.even {L : List (List Int)} {C : List (List Int × Int)} (h : Tog (L.flatMap facesP) C) (hL : ∀ w ∈ L, w.Nodup) (g : List Int) : ((togQ C).filter fun f => decide (g ∈ facesP f)).length % 2 = 0 := by
  rw [h.par]
  clear h
  induction L with
  | nil => rfl
  | cons w L ih =>
    have := ih fun w hw => hL w (List.mem_cons_of_mem _ hw)
    have h0 := even_two (hL w List.mem_cons_self) g
    rw [List.flatMap_cons, List.filter_append, List.length_append]
    omega
theorem snoc_ind {α : Type} {P : List α → Prop} (h0 : P []) (h1 : ∀ l x, P l → P (l ++ [x])) (l : List α) : P l := by
  have : ∀ n, n ≤ l.length → P (l.take n) := by
    intro n
    induction n with
    | zero => intro _; simpa using h0
    | succ n ih =>
      intro h
      rw [List.take_succ_eq_append_getElem (by omega)]
      exact h1 _ _ (ih (by omega))
  have h := this l.length (Nat.le_refl _)
  rwa [List.take_length] at h
theorem ascR_ext : ∀ {P Q : List (List Int)}, AscR P → AscR Q → (∀ x, x ∈ P ↔ x ∈ Q) → P = Q := by
  intro P Q h1 h2 h
  have hp : P.Perm Q := (List.perm_ext_iff_of_nodup h1.nodup h2.nodup).mpr h
  refine hp.eq_of_pairwise (fun a b _ _ h3 h4 => ?_) h1 h2
  rw [lexL_asym _ _ h3] at h4
  cases h4
/-! ### a cell where classes have their own product -/
theorem o2A_int {tab : List (Str × (List D → R D))} {f : D → D → R D} (i : Int) (y : D) : o2A tab f (.ok (.int i)) (.ok y) = calm (f (.int i) y) := rfl
def g_cellA (p : PX) (tab : List (Str × (List D → R D))) : Env → R Fl := fun r => (then_ (asg 2 r (o2 addD (o2 mulD (.ok (.int 17)) (get r 1)) (.ok (.int 5)))) (fun r => (then_ (ifv (tst (o2 ltD (get r 1) (cbf p.ln (acons (get r 0) (.ok []))))) (then_ (asg 2 r (cbf absD (acons (o2 p.ix (get r 0) (get r 1)) (.ok [])))) (fun r => (ifv (tst (o2 geX (get r 2) (o2 powD (.ok (.int 10)) (.ok (.int 18))))) (ret (o2 subD (get r 2) (o2 powD (.ok (.int 10)) (.ok (.int 18))))) (.ok (.nx r))))) (ifv (tst (o2 gtD (cbf p.ln (acons (get r 0) (.ok []))) (.ok (.int 0)))) (asg 2 r (o2 addD (cbf absD (acons (o2 p.ix (get r 0) (o2 modD (cbf intD (acons (get r 1) (.ok []))) (cbf p.ln (acons (get r 0) (.ok []))))) (.ok []))) (o2 mulD (.ok (.int 101)) (get r 1)))) (.ok (.nx r)))) (fun r => (then_ (asg 2 r (o2 modD (cbf intD (acons (o2 addD (o2 addD (o2 mulD (get r 2) (.ok (.int 48271))) (o2 mulD (.ok (.int 11)) (get r 1))) (.ok (.int 7))) (.ok []))) (.ok (.int 2147483647)))) (fun r => (ret (o2 fdivD (o2 modD (cbf intD (acons (o2 mulD (o2 addD (o2 addD (o2A tab mulD (get r 2) (get r 2)) (o2 mulD (.ok (.int 69621)) (get r 2))) (get r 1)) (.ok (.int 1000000000039))) (.ok []))) (.ok (.int 2305843009213693951))) (.ok (.int 2))))))))))
theorem g_cellA_ok {p : PX} {tab : List (Str × (List D → R D))} (hp : p.Ok) (ns : List Int) (k : Nat) (hk : k ≤ 1000) : ∃ c : Int, 0 ≤ c ∧ runX 3 (g_cellA p tab) [.scr ns, .int k] = .ok (.int c) := by
  have p0 := powD_18
  have m0 : mulD (.int 17) (.int k) = .ok (.int (17 * k)) := mulD_int (.inl (by omega))
  have m6 : mulD (.int 101) (.int k) = .ok (.int (101 * k)) := mulD_int (.inl (by omega))
  have m1 : ∀ c, mulD (.int c) (.int 48271) = .ok (.int (c * 48271)) := fun c => mulD_int (.inr (by omega))
  have m2 : mulD (.int 11) (.int k) = .ok (.int (11 * k)) := mulD_int (.inl (by omega))
  have m3 : ∀ y, mulD (.int (y % 2147483647)) (.int (y % 2147483647)) = .ok (.int ((y % 2147483647) * (y % 2147483647))) := fun y => mulD_int (.inl (by omega))
  have m4 : ∀ y, mulD (.int 69621) (.int y) = .ok (.int (69621 * y)) := fun y => mulD_int (.inl (by omega))
  have m5 : ∀ y, mulD (.int y) (.int 1000000000039) = .ok (.int (y * 1000000000039)) := fun y => mulD_int (.inr (by omega))
  have h : ∃ c : Int, 0 ≤ c ∧ (g_cellA p tab (startE 3 [.scr ns, .int k])) = .ok (.rt (.int c)) := by
    by_cases hlt : k < ns.length
    · have hx := ixD_scr ns k (List.getElem?_eq_getElem hlt)
      obtain ⟨a, ha⟩ : ∃ a, absD [.int ns[k]] = .ok (.int a) := ⟨_, rfl⟩
      by_cases hbig : (1000000000000000000 : Int) ≤ a
      · refine ⟨a - 1000000000000000000, by omega, ?_⟩
        simp -implicitDefEqProofs [g_cellA, o2A_int, startE, m0, m1, m2, m3, m4, m5, m6, modD_int, fdivD_int, ha, hx, hlt, p0, hbig, hp.lnS, hp.ixS]
      · simp -implicitDefEqProofs [g_cellA, o2A_int, startE, m0, m1, m2, m3, m4, m5, m6, modD_int, fdivD_int, ha, hx, hlt, p0, hbig, hp.lnS, hp.ixS]
        omega
    · by_cases hpos : 0 < ns.length
      · have hm : modD (.int k) (.int ns.length) = .ok (.int ((k % ns.length : Nat) : Int)) := modD_int (by omega)
        have hx := ixD_scr ns (k % ns.length) (List.getElem?_eq_getElem (Nat.mod_lt _ hpos))
        rw [Int.natCast_emod] at hx
        obtain ⟨a, ha⟩ : ∃ a, absD [.int (ns[k % ns.length]'(Nat.mod_lt _ hpos))] = .ok (.int a) := ⟨_, rfl⟩
        simp -implicitDefEqProofs [g_cellA, o2A_int, startE, m0, m1, m2, m3, m4, m5, m6, modD_int, fdivD_int, ha, hx, hlt, p0, hm, hpos, hp.lnS, hp.ixS]
        omega
      · simp -implicitDefEqProofs [g_cellA, o2A_int, startE, m0, m1, m2, m3, m4, m5, m6, modD_int, fdivD_int, hlt, p0, hpos, hp.lnS, hp.ixS]
        omega
  obtain ⟨c, hc, h⟩ := h
  exact ⟨c, hc, runX_rt h⟩
/-! ### handlers -/
theorem isxC {T : Str → Str → Option Bool} {B : Str → String → Option Bool} {n c : Str} {b : Bool} (ks : List Str) (es : List D) (h : T n c = some b) : isxD T B [.exc n ks es, .cls c] = .ok (.bl b) := by
  show (match T n c with | some b => R.ok (D.bl b) | none => .stuck) = _
  rw [h]
theorem isxY {T : Str → Str → Option Bool} {B : Str → String → Option Bool} {n : Str} {c : String} {b : Bool} (ks : List Str) (es : List D) (h : B n c = some b) : isxD T B [.exc n ks es, .ty c] = .ok (.bl b) := by
  show (match B n c with | some b => R.ok (D.bl b) | none => .stuck) = _
  rw [h]
theorem xfD_at {ns : List Str} {n f : Str} {ks : List Str} {es : List D} {d : D} (h1 : n ∈ ns) (h2 : getF f ks es = some d) : xfD ns f (.exc n ks es) = .ok d := by
  show (if n ∈ ns then (match getF f ks es with | some d => R.ok d | none => .stuck) else .stuck) = _
  rw [if_pos h1, h2]
theorem clM_take {T : Str → Str → Option Bool} {B : Str → String → Option Bool} {M : List Nat} {n : Str} {ks : List Str} {es : List D} {ρ : Env} {k : Cl} {l : List Cl} {d : D} (ho : k.own = true) (h : T n k.c = some true) (h2 : k.h ((wipeE ρ M).set k.i (some (.exc n ks es))) = .ok (.rt d)) (h3 : d.noX = true) : clM T B M n ks es ρ (k :: l) = .ok (.rt d) := by
  unfold clM
  rw [if_pos ho, h]
  simp only []
  rw [h2, calm_ok, ok_bind]
  exact if_pos h3
end DL
namespace DL
open PySem PySem.Spec L2

/-! ### def f(*v) -/
/-- the text's own def with a star parameter alone -/
structure FvAt (K : PySem.W.Frag) (mg : Str → Option Value) (x : Str) (st : Stmt) (pv : Str) : Prop where
  ex : ∃ f fd, Fun K x x st f fd ∧ mg x = some (.ref f) ∧ ∀ rest : List Value, bindArgs fd ⟨rest, []⟩ = (newTuple rest >>= fun t => pure [(pv, t)])
/-- what it makes of its arguments -/
def runV (n : Nat) (ms : Env → R Fl) (ds : List D) : R D := if ds.length ≤ LIM then runX n ms [.tup ds] else .stuck
def spVar (K : PySem.W.Frag) (mg : Gm) (g : List D → R D) : Sp := fun vs H Q E => ∃ I ds, Same I H ∧ Reps K mg I vs ds ∧ Out K mg E (Rep K mg) I H (g ds) Q
structure KnS (P : Program) (w : World) (K : PySem.W.Frag) (mg : Str → Option Value) (base : Heap) (x : Str) (k : Nat) (g : List D → R D) : Prop where
  ex : ∃ f, FnR P w K mg base (L2N.CX P w) k f (spVar K (g0 mg) g) ∧ mg x = some (.ref f) ∧ PySem.W.keepIn K (.ref f) = true
theorem sp_var {K : PySem.W.Frag} {mg : Gm} {n : Nat} {ms : Env → R Fl} {vs : List V} {H : Hp} {Q : VK} {E : XK} (h : spVar K mg (runV n ms) vs H Q E) : vs.length ≤ sizeLine ∧ ∀ p, H p = none → spOf K mg 1 (runX n ms) [.ref p] (upd H p (.tup vs)) Q E := by
  obtain ⟨I, ds, e, rs, h⟩ := h
  unfold runV at h
  by_cases hl : ds.length ≤ LIM
  · rw [if_pos hl] at h
    refine ⟨Nat.le_trans (by rw [rs.len]; exact hl) (by decide), fun p hp => ?_⟩
    have hI : I p = none := by
      cases q : I p with
      | none => rfl
      | some o =>
        rw [e p o q] at hp
        cases hp
    have k : Same I (upd I p (.tup vs)) := fun a o h => by
      rw [upd_ne (fun z => by subst z; rw [hI] at h; cases h)]
      exact h
    have s : Stp I H (upd I p (.tup vs)) (upd H p (.tup vs)) := Stp.new e hp
    exact ⟨upd I p (.tup vs), [.tup ds], rfl, s.e, .cons (.tup upd_same (rs.mono k)) .nil, h.mono s⟩
  · rw [if_neg hl] at h
    exact h.elim
theorem cxUpN {P : Program} {w : World} : StX.CXUp (L2N.CX P w) := by
  rintro outer s H s2 H2 E e s' un kp ho ⟨a, B, H', cls, d, ea, fl, hok, ub, na, os, ag, he⟩
  refine ⟨a, B, H', cls, d, ea, fl, hok, ⟨fun b o q n hb => ub.keep b o (kp b o q) (un.free b o q n (by simp)) hb, fun b o q hb => ub.slot b o (kp b o q) hb, fun b o q n => ub.free b o (kp b o q) (un.free b o q n (by simp)),
    fun b o q hb => ub.there b o (kp b o q) hb, fun b xs q => ub.tups b xs (un.tups b xs q), fun b o xs q => ub.frzs b o xs (un.frzs b o xs q), fun b ps q => ?_⟩, na, os.trans ho, ag, he⟩
  obtain ⟨m1, e1⟩ := un.tbls b ps q
  obtain ⟨m2, e2⟩ := ub.tbls b _ e1
  exact ⟨m1 ++ m2, by rw [e2, Array.append_assoc]⟩
theorem KnS.mk' {P : Program} {w : World} {K : PySem.W.Frag} {mg : Str → Option Value} {base : Heap} {x : Str} {st : Stmt} {N : List Str} {pv : Str} {k : Nat} {M M' : List Nat} {ms : Env → R Fl} (F : FvAt K mg x st pv) (S : FnScope N [pv] (defScope st)) (hM : ∀ i ∈ M, 1 ≤ i)
    (hb : ∀ (f : Addr) (cdv : Value) (A : Around) (outer : List PySem.Env) (s : Shared) (H : Hp) (E : XK), Room k (A.deeper (PyProof.Rows.envOfC x (defScope st) s.heap.objs.size f cdv)) →
      ∃ ts, MSs (cxOf (L2N.CX P w) P w K mg base N x (defScope st) f cdv A outer s H E) E [] M M' (defBody st) ts ms) : KnS P w K mg base x (k + 1) (runV N.length ms) := by
  obtain ⟨f, fd, F, g, b⟩ := F.ex
  refine ⟨f, ?_, g, F.kp⟩
  obtain ⟨oc, od, kV, doc, pm, an, cdv, ct, osl, rfl, lk, hcd⟩ := F.ex
  refine FnR.imp (StX.fn_star (ps := []) (pv := pv) (sp := spOf K (g0 mg) 1 (runX N.length ms)) (k := k) lk hcd S cxUpN (fun us rest hl => ?_) (fun A outer s H vs Q E hr h => ?_)) fun vs H Q E h => ?_
  · obtain rfl : us = [] := List.eq_nil_of_length_eq_zero hl
    exact b rest
  · obtain ⟨I, ds, hl, ex, rs, h⟩ := h
    obtain ⟨ts, hp⟩ := hb f cdv A outer s H E hr
    refine ⟨ts, hp.pe, hp.sn (I, 0) H _ I H _ _ (start_SE ex rs (by rw [hl]; exact hM)) ?_⟩
    unfold runX at h
    cases e : ms (startE N.length ds) with
    | err nm es =>
      rw [e] at h
      exact h
    | stuck =>
      rw [e] at h
      exact h.elim
    | ok fl =>
      rw [e] at h
      cases fl with
      | nx ρ => exact fun σ I1 H1 s1 _ => h .non I1 H1 s1.st .non
      | rt d => exact fun v I1 H1 s1 r => h v I1 H1 s1 r
      | bk ρ => exact h.elim
      | rf es =>
        intro p vs I1 H1 s1 n1 n2 hp r
        obtain ⟨s2, r2⟩ := stp_put s1 n1 n2 hp r
        exact h _ _ H1 s2 r2
      | rd es =>
        intro p vs I1 H1 s1 n1 n2 hp kk nd np
        obtain ⟨I2, s2, r2⟩ := stp_putD s1 n1 n2 hp kk np
        exact h _ _ H1 s2 r2
      | ct ρ => exact h.elim
  · obtain ⟨h1, h2⟩ := sp_var h
    exact ⟨[], vs, rfl, rfl, h1, h2⟩
end DL
namespace DL
open PySem PySem.Spec L2
set_option maxHeartbeats 4000000

def getB (f : Int) (C : List (Int × Bool)) : Option Bool := (C.find? fun p => decide (p.1 = f)).map (·.2)
def setB (f : Int) (z : Bool) : List (Int × Bool) → List (Int × Bool)
  | [] => [(f, z)]
  | p :: C => if p.1 = f then (p.1, z) :: C else p :: setB f z C
theorem setB_keys (f : Int) (z : Bool) : ∀ C : List (Int × Bool), (C.map fun p => p.1).Nodup → ((setB f z C).map fun p => p.1).Nodup ∧ ∀ g, g ∈ (setB f z C).map (fun p => p.1) ↔ g = f ∨ g ∈ C.map fun p => p.1
  | [], _ => by simp [setB]
  | p :: C, hn => by
    rw [List.map_cons, List.nodup_cons] at hn
    obtain ⟨h1, h2⟩ := setB_keys f z C hn.2
    simp only [setB]
    by_cases h : p.1 = f
    · rw [if_pos h]
      simp only [List.map_cons, List.nodup_cons, List.mem_cons]
      refine ⟨⟨hn.1, hn.2⟩, fun g => ?_⟩
      rw [h]
      constructor
      · rintro (e | e)
        · exact .inl e
        · exact .inr (.inr e)
      · rintro (e | e | e)
        · exact .inl e
        · exact .inl e
        · exact .inr e
    · rw [if_neg h]
      simp only [List.map_cons, List.nodup_cons, List.mem_cons]
      refine ⟨⟨fun e => ?_, h1⟩, fun g => ?_⟩
      · rcases (h2 _).mp e with e | e
        · exact h e
        · exact hn.1 e
      · rw [h2]
        constructor
        · rintro (e | e | e)
          · exact .inr (.inl e)
          · exact .inl e
          · exact .inr (.inr e)
        · rintro (e | e | e)
          · exact .inr (.inl e)
          · exact .inl e
          · exact .inr (.inr e)
theorem getB_setB (f g : Int) (z : Bool) : ∀ C : List (Int × Bool), getB g (setB f z C) = if g = f then some z else getB g C
  | [] => by
    unfold getB setB
    simp only [List.find?_cons, List.find?_nil]
    by_cases h : g = f
    · rw [if_pos h, decide_eq_true h.symm]
      rfl
    · rw [if_neg h, decide_eq_false fun e => h e.symm]
  | p :: C => by
    have ih := getB_setB f g z C
    unfold getB at ih ⊢
    simp only [setB]
    by_cases h : p.1 = f
    · rw [if_pos h, List.find?_cons, List.find?_cons]
      by_cases e : g = f
      · rw [if_pos e, decide_eq_true (by rw [e]; exact h)]
        rfl
      · rw [if_neg e, decide_eq_false fun x => e (x.symm.trans h)]
    · rw [if_neg h, List.find?_cons, List.find?_cons]
      by_cases e : p.1 = g
      · rw [decide_eq_true e, if_neg fun x => h (e.trans x)]
      · rw [decide_eq_false e]
        exact ih
theorem find_selfN : ∀ (T : List (Int × Bool)), (T.map fun p => p.1).Nodup → ∀ p ∈ T, (T.find? fun q => decide (q.1 = p.1)) = some p
  | q :: T, hn, p, hp => by
    rw [List.map_cons, List.nodup_cons] at hn
    rw [List.find?_cons]
    by_cases h : q.1 = p.1
    · rw [decide_eq_true h]
      rcases List.mem_cons.mp hp with rfl | hp
      · rfl
      · exact absurd (h ▸ List.mem_map.mpr ⟨p, hp, rfl⟩) hn.1
    · rw [decide_eq_false h]
      rcases List.mem_cons.mp hp with rfl | hp
      · exact absurd rfl h
      · exact find_selfN T hn.2 p hp
/-- put in and out by turns -/
structure TogN (T : List Int) (C : List (Int × Bool)) : Prop where
  nd : (C.map fun p => p.1).Nodup
  mem : ∀ f, f ∈ C.map (fun p => p.1) ↔ f ∈ T
  val : ∀ f, (getB f C).getD false = decide (T.count f % 2 = 1)
theorem TogN.nil : TogN [] [] := ⟨by simp, by simp, fun f => by simp [getB]⟩
theorem TogN.put {T : List Int} {C : List (Int × Bool)} (h : TogN T C) (f : Int) : TogN (T ++ [f]) (setB f (!(getB f C).getD false) C) := by
  obtain ⟨h1, h2, h3⟩ := h
  obtain ⟨k1, k2⟩ := setB_keys f (!(getB f C).getD false) C h1
  refine ⟨k1, fun g => ?_, fun g => ?_⟩
  · rw [k2, h2, List.mem_append, List.mem_singleton, or_comm]
  · rw [getB_setB, List.count_append]
    by_cases e : g = f
    · subst e
      rw [if_pos rfl, h3, List.count_singleton_self]
      show (!decide _) = _
      rw [← decide_not]
      exact decide_eq_decide.mpr (by omega)
    · rw [if_neg e, h3, List.count_eq_zero.mpr fun x => e (List.mem_singleton.mp x)]
      rfl
theorem TogN.at {T : List Int} {C : List (Int × Bool)} (h : TogN T C) {p : Int × Bool} (hp : p ∈ C) : p.2 = decide (T.count p.1 % 2 = 1) := by
  have := h.val p.1
  unfold getB at this
  rw [find_selfN C h.nd p hp] at this
  exact this
/-! ### rows as masks -/
def maskP (r : List Int) : Nat := r.foldl (fun m p => m ||| 2 ^ p.toNat) 0
theorem mask_snoc (r : List Int) (p : Int) : maskP (r ++ [p]) = maskP r ||| 2 ^ p.toNat := by
  unfold maskP
  rw [List.foldl_append]
  rfl
theorem mask_bit (r : List Int) (h : ∀ p ∈ r, 0 ≤ p) (i : Nat) : (maskP r).testBit i = decide ((i : Int) ∈ r) := by
  revert h
  refine snoc_ind (P := fun r => (∀ p ∈ r, 0 ≤ p) → (maskP r).testBit i = decide ((i : Int) ∈ r)) (fun _ => by simp [maskP]) (fun r p ih h => ?_) r
  have hp := h p (List.mem_append_right _ (List.mem_singleton.mpr rfl))
  rw [mask_snoc, Nat.testBit_or, ih fun q hq => h q (List.mem_append_left _ hq), Nat.testBit_two_pow]
  rw [← Bool.decide_or]
  refine decide_eq_decide.mpr ?_
  rw [List.mem_append, List.mem_singleton]
  constructor
  · rintro (h | h)
    · exact .inl h
    · exact .inr (by omega)
  · rintro (h | h)
    · exact .inl h
    · exact .inr (by omega)
theorem nodup_srt_asc : ∀ {r : List Int}, r.Nodup → r.Pairwise (· ≤ ·) → Asc r := fun {r} hn hs => (hs.and hn).imp fun ⟨a, b⟩ => by
  have : _ ≠ _ := b
  omega
end DL
namespace DL
open PySem PySem.Spec L2
set_option maxHeartbeats 4000000

/-! ### lists of rows that tell the same of odd and even -/
def Mo2 (L M : List (List Int)) : Prop := ∀ w, L.count w % 2 = M.count w % 2
theorem Mo2.refl (L : List (List Int)) : Mo2 L L := fun _ => rfl
theorem Mo2.symm {L M : List (List Int)} (h : Mo2 L M) : Mo2 M L := fun w => (h w).symm
theorem Mo2.trans {L M N : List (List Int)} (h : Mo2 L M) (k : Mo2 M N) : Mo2 L N := fun w => (h w).trans (k w)
theorem Mo2.app {L M L' M' : List (List Int)} (h : Mo2 L L') (k : Mo2 M M') : Mo2 (L ++ M) (L' ++ M') := fun w => by
  have h := h w
  have k := k w
  rw [List.count_append, List.count_append]
  omega
theorem ex_dedup {α : Type} [DecidableEq α] : ∀ L : List α, ∃ K : List α, K.Nodup ∧ ∀ x, x ∈ K ↔ x ∈ L
  | [] => ⟨[], by simp, by simp⟩
  | x :: L => by
    obtain ⟨K, h1, h2⟩ := ex_dedup L
    by_cases h : x ∈ K
    · refine ⟨K, h1, fun y => ?_⟩
      rw [h2, List.mem_cons]
      constructor
      · exact .inr
      · rintro (rfl | e)
        · exact (h2 _).mp h
        · exact e
    · exact ⟨x :: K, List.nodup_cons.mpr ⟨h, h1⟩, fun y => by rw [List.mem_cons, List.mem_cons, h2]⟩
theorem sum_single {α : Type} [DecidableEq α] (f : α → Nat) (x : α) : ∀ K : List α, K.Nodup → x ∈ K → (K.map fun k => if k = x then f k else 0).sum = f x
  | [], _, h => by cases h
  | k :: K, hn, h => by
    obtain ⟨h1, h2⟩ := List.nodup_cons.mp hn
    rw [List.map_cons, List.sum_cons]
    by_cases e : k = x
    · subst e
      have hz : ∀ K : List α, k ∉ K → (K.map fun j => if j = k then f j else 0).sum = 0 := by
        intro K
        induction K with
        | nil => intro _; rfl
        | cons j K ih =>
          intro hk
          rw [List.mem_cons, not_or] at hk
          rw [List.map_cons, List.sum_cons, ih hk.2, if_neg fun e => hk.1 e.symm]
      rw [hz K h1, if_pos rfl]
      omega
    · rw [if_neg e, sum_single f x K h2 ((List.mem_cons.mp h).resolve_left fun z => e z.symm)]
      omega
theorem sum_count (f : List Int → Nat) {K : List (List Int)} (hK : K.Nodup) : ∀ L : List (List Int), (∀ x ∈ L, x ∈ K) → (L.map f).sum = (K.map fun k => L.count k * f k).sum
  | [], _ => by
    have : ∀ K : List (List Int), (K.map fun k => ([] : List (List Int)).count k * f k).sum = 0 := by
      intro K
      induction K with
      | nil => rfl
      | cons j K ih => rw [List.map_cons, List.sum_cons, ih, List.count_nil, Nat.zero_mul]
    rw [this]
    rfl
  | x :: L, h => by
    have ih := sum_count f hK L fun y hy => h y (List.mem_cons_of_mem _ hy)
    have hx := sum_single f x K hK (h x List.mem_cons_self)
    rw [List.map_cons, List.sum_cons, ih, ← hx, ← sum_add]
    refine congrArg List.sum (List.map_congr_left fun k _ => ?_)
    by_cases e : k = x
    · subst e
      rw [if_pos rfl, List.count_cons_self, Nat.succ_mul]
      omega
    · rw [if_neg e, List.count_cons_of_ne fun z => e z.symm]
      omega
theorem sum_m2 (f : List Int → Nat) {L M : List (List Int)} (h : Mo2 L M) : (L.map f).sum % 2 = (M.map f).sum % 2 := by
  obtain ⟨K, h1, h2⟩ := ex_dedup (L ++ M)
  rw [sum_count f h1 L fun x hx => (h2 x).mpr (List.mem_append_left _ hx), sum_count f h1 M fun x hx => (h2 x).mpr (List.mem_append_right _ hx)]
  clear h1 h2
  induction K with
  | nil => rfl
  | cons k K ih =>
    rw [List.map_cons, List.map_cons, List.sum_cons, List.sum_cons]
    have e : L.count k * f k % 2 = M.count k * f k % 2 := by rw [Nat.mul_mod, h k, ← Nat.mul_mod]
    rw [Nat.add_mod, e, ih, ← Nat.add_mod]
theorem count_flat (w : List Int) (g : List Int → List (List Int)) : ∀ L : List (List Int), (L.flatMap g).count w = (L.map fun x => (g x).count w).sum
  | [] => rfl
  | x :: L => by
    rw [List.flatMap_cons, List.count_append, count_flat w g L]
    rfl
theorem Mo2.flat {L M : List (List Int)} (h : Mo2 L M) (g : List Int → List (List Int)) : Mo2 (L.flatMap g) (M.flatMap g) := fun w => by
  rw [count_flat, count_flat]
  exact sum_m2 _ h
end DL
namespace DL
open PySem PySem.Spec L2
set_option maxHeartbeats 4000000
theorem comb8_len (n k : Nat) (hn : n ≤ 8) (hk : k ≤ 8) : (combI k (iotaI n)).length ≤ 70 := by
  have key : ∀ n ≤ 8, ∀ i ≤ 8, (combI i (iotaI n)).length ≤ 70 := by decide +kernel
  exact key n hn k hk
theorem nodup_rooms8 {n s : Nat} {Q : List (List Int)} (hn : n ≤ 8) (hs : s ≤ 8) (h : Q.Nodup) (hr : ∀ r ∈ Q, RoomR n s r) : Q.length ≤ 70 :=
  Nat.le_trans (nodup_len Q (combI s (iotaI n)) h fun q hq => (mem_comb_iota n s q).mpr (hr q hq)) (comb8_len n s hn hs)
structure Grp (n : Nat) (Gs : List (List Int)) : Prop where
  nd : Gs.flatten.Nodup
  rg : ∀ p ∈ Gs.flatten, 0 ≤ p ∧ p < (n : Int)
theorem Grp.left {n : Nat} {Gs Hs : List (List Int)} (h : Grp n (Gs ++ Hs)) : Grp n Gs := by
  obtain ⟨h1, h2⟩ := h
  rw [List.flatten_append] at h1 h2
  exact ⟨(List.nodup_append.mp h1).1, fun p hp => h2 p (List.mem_append_left _ hp)⟩
theorem Grp.right {n : Nat} {Gs Hs : List (List Int)} (h : Grp n (Gs ++ Hs)) : Grp n Hs := by
  obtain ⟨h1, h2⟩ := h
  rw [List.flatten_append] at h1 h2
  exact ⟨(List.nodup_append.mp h1).2.1, fun p hp => h2 p (List.mem_append_right _ hp)⟩
theorem Grp.apart {n : Nat} {Gs Hs : List (List Int)} (h : Grp n (Gs ++ Hs)) {p : Int} (h1 : p ∈ Gs.flatten) (h2 : p ∈ Hs.flatten) : False := by
  have := h.nd
  rw [List.flatten_append] at this
  exact (List.nodup_append.mp this).2.2 p h1 p h2 rfl
theorem Grp.perm {n : Nat} {Gs Hs : List (List Int)} (h : Grp n Gs) (hp : Gs.Perm Hs) : Grp n Hs := ⟨hp.flatten.nodup_iff.mp h.nd, fun p hm => h.rg p (hp.flatten.mem_iff.mpr hm)⟩
/-! ### rooms that lack one place of each group -/
structure Lack (Gs : List (List Int)) (r : List Int) : Prop where
  asc : Asc r
  sub : ∀ p ∈ r, p ∈ Gs.flatten
  one : ∀ G ∈ Gs, ∃ p ∈ G, p ∉ r ∧ ∀ q ∈ G, q ∉ r → q = p
theorem Lack.perm {Gs Hs : List (List Int)} {r : List Int} (h : Lack Gs r) (hp : Gs.Perm Hs) : Lack Hs r :=
  ⟨h.asc, fun p hm => hp.flatten.mem_iff.mp (h.sub p hm), fun G hG => h.one G (hp.mem_iff.mpr hG)⟩
/-- groups of one place leave nothing -/
def bigG (Gs : List (List Int)) : List (List Int) := Gs.filter fun G => decide (1 < G.length)
theorem flat_sub : ∀ {Gs Hs : List (List Int)}, Gs.Sublist Hs → Gs.flatten.Sublist Hs.flatten
  | _, _, .slnil => List.Sublist.refl _
  | _, _, .cons a h => by
    rw [List.flatten_cons]
    exact (flat_sub h).trans (List.sublist_append_right _ _)
  | _, _, .cons_cons a h => by
    rw [List.flatten_cons, List.flatten_cons]
    exact (List.Sublist.refl _).append (flat_sub h)
theorem Grp.big {n : Nat} {Gs : List (List Int)} (h : Grp n Gs) : Grp n (bigG Gs) := by
  have hs : (bigG Gs).flatten.Sublist Gs.flatten := flat_sub List.filter_sublist
  exact ⟨h.nd.sublist hs, fun p hp => h.rg p (hs.subset hp)⟩
end DL
namespace DL
open PySem PySem.Spec L2
end DL
namespace DL
open PySem PySem.Spec L2
end DL
set_option maxHeartbeats 2000000
namespace DL
open PySem PySem.Spec PyProof.Rows L2

/-! ### defs called while an error is held; none comes out of them -/
/-- the promise -/
structure FnW (P : Program) (w : World) (K : PySem.W.Frag) (mg : Str → Option Value) (base : Heap) (CX : CXT) (k : Nat) (f : Addr) (fd : FuncData) (ps : List Str) (sp : Sp) : Prop where
  ln : ∀ ys G R Z, sp ys G R Z → ys.length = ps.length
  go : ∀ (B : Around) (out : List PySem.Env) (t : Shared) (G : Hp) (ar : Args) (zs : List Value) (ys : List V) (R : VK) (Z : XK) (q : Addr × Obj),
    L2H.RoomH k B → L2H.Hot1 B q → L2H.PinOk out G t q → Env0 P w K mg base B out t G → BindsTo t fd ar (ps.zip zs) → Vals ys zs → sp ys G R Z → codeAny (model P w) B (.call (.ref f) ar) (CR CX out P w G t R Z) t
theorem FnW.mk' {CX : CXT} {P : Program} {w : World} {K : PySem.W.Frag} {mg : Str → Option Value} {base : Heap} {k : Nat} {x qual : Str} {st : Stmt} {f : Addr} {fd : FuncData} {N ps : List Str} {sp : Sp} (F : Fun K x qual st f fd) (S : FnScope N ps (defScope st)) (ln : ∀ ys G R Z, sp ys G R Z → ys.length = ps.length)
    (hb : ∀ (cdv : Value) (B : Around) (out : List PySem.Env) (t : Shared) (G : Hp) (ys : List V) (R : VK) (Z : XK) (q : Addr × Obj), L2H.RoomH k (B.deeper (envOfC qual (defScope st) t.heap.objs.size f cdv)) → L2H.HotC (L2H.cxH CX P w K mg base N qual (defScope st) f cdv B out t G Z q) → sp ys G R Z →
      ∃ u, PSs (L2H.cxH CX P w K mg base N qual (defScope st) f cdv B out t G Z q) (defBody st) u ∧ u { nx := fun _ G' => R .non G', rt := R } (L2.start N ys) G) : FnW P w K mg base CX (k + 1) f fd ps sp := by
  obtain ⟨oc, od, kV, doc, pm, an, cdv, ct, osl, rfl, lk, hcd⟩ := F.ex
  refine ⟨ln, fun B out t G ar zs ys R Z q room hot pin e0 bd va h => ?_⟩
  have kk : K.In t.heap := e0.mod.kin.keeps fun a o e => (e0.bs a o e).1
  have nl : t.heap.NoLimit := e0.mod.nolimit.keeps fun a o e => (e0.bs a o e).1
  have kinds : ∀ z ∈ ps.zip zs, (defScope st).names.lookup z.1 = some .local ∨ ((defScope st).names.lookup z.1 = some .cell ∧ ((cellsFrom (t.heap.objs.size + 1) (defScope st).names []).lookup z.1).isSome = true) := fun ⟨n, v⟩ hz => by
    have hp := S.par n (List.of_mem_zip hz).1
    cases hp with
    | inl a => exact .inl a
    | inr a => exact .inr ⟨a, PySem.W.cellsFrom_some _ _ _ (.inl a)⟩
  refine codeAny_call_function room.depth (kk _ _ lk) rfl S.co S.gen rfl (PySem.W.codeRec_of kk hcd) (bd _ _ _ _ (wpAny_newFunctionEnv_cells S.kind kinds fun env he t1 xx => ?_))
  subst he
  refine ⟨nl.keeps xx.toInCall.keep, codeAny_func ?_⟩
  obtain ⟨u, hu, hq⟩ := hb cdv B out t G ys R Z q (room.deeper _) ⟨q, ⟨hot.1, hot.2⟩, List.mem_cons_self⟩ h
  have J := L2H.inv_startH (CX := CX) (P := P) (w := w) (mg := mg) (base := base) (A := B) (E := Z) S pin e0 (ln _ _ _ _ h) va xx
  refine wpAny_mono (hu.run [] t1 (L2.start N ys) G _ J hq) (fun fl t2 hs => ?_) fun e t2 hs => hs
  cases fl with
  | ret a =>
    obtain ⟨v, _, G', J2, rv, hR⟩ := hs
    exact ⟨v, G', J2.os, J2.bare, J2.base, J2.hok, rv, hR⟩
  | next =>
    obtain ⟨_, G', J2, hR⟩ := hs
    exact ⟨V.non, G', J2.os, J2.bare, J2.base, J2.hok, rfl, hR⟩
  | brk =>
    obtain ⟨_, _, _, no⟩ := hs
    exact no.elim
  | cont =>
    obtain ⟨_, _, _, no⟩ := hs
    exact no.elim
structure KnW (P : Program) (w : World) (K : PySem.W.Frag) (mg : Str → Option Value) (base : Heap) (x : Str) (k n : Nat) (g : List D → R D) : Prop where
  ex : ∃ f fd ps, FnW P w K mg base (L2N.CX P w) k f fd ps (spOf K (g0 mg) n g) ∧ mg x = some (.ref f) ∧ PySem.W.keepIn K (.ref f) = true ∧ Binds K fd ps []
theorem KnW.mk' {P : Program} {w : World} {K : PySem.W.Frag} {mg : Str → Option Value} {base : Heap} {x : Str} {st : Stmt} {N ps : List Str} {k : Nat} {M M' : List Nat} {ms : Env → R Fl} (F : FnAt K mg x st ps) (S : FnScope N ps (defScope st)) (hM : ∀ i ∈ M, ps.length ≤ i)
    (hb : ∀ (f : Addr) (cdv : Value) (B : Around) (out : List PySem.Env) (t : Shared) (G : Hp) (Z : XK) (q : Addr × Obj), L2H.RoomH k (B.deeper (envOfC x (defScope st) t.heap.objs.size f cdv)) → L2H.HotC (L2H.cxH (L2N.CX P w) P w K mg base N x (defScope st) f cdv B out t G Z q) →
      ∃ ts, MSs (L2H.cxH (L2N.CX P w) P w K mg base N x (defScope st) f cdv B out t G Z q) Z [] M M' (defBody st) ts ms) : KnW P w K mg base x (k + 1) ps.length (runX N.length ms) := by
  obtain ⟨f, fd, F, g, b⟩ := F.ex
  refine ⟨f, fd, ps, FnW.mk' F S (fun ys G R Z h => spOf.len h) (fun cdv B out t G ys R Z q hr hot h => ?_), g, F.kp, b⟩
  obtain ⟨I, ds, hl, ex, rs, h⟩ := h
  obtain ⟨ts, hp⟩ := hb f cdv B out t G Z q hr hot
  refine ⟨ts, hp.pe, hp.sn (I, 0) G _ I G _ _ (start_SE ex rs (by rw [hl]; exact hM)) ?_⟩
  unfold runX at h
  cases e : ms (startE N.length ds) with
  | err nm es =>
    rw [e] at h
    exact h
  | stuck =>
    rw [e] at h
    exact h.elim
  | ok fl =>
    rw [e] at h
    cases fl with
    | nx ρ => exact fun σ I1 H1 s1 _ => h .non I1 H1 s1.st .non
    | rt d => exact fun v I1 H1 s1 r => h v I1 H1 s1 r
    | bk ρ => exact h.elim
    | rf es =>
      intro p vs I1 H1 s1 n1 n2 hp r
      obtain ⟨s2, r2⟩ := stp_put s1 n1 n2 hp r
      exact h _ _ H1 s2 r2
    | rd es =>
      intro p vs I1 H1 s1 n1 n2 hp kk nd np
      obtain ⟨I2, s2, r2⟩ := stp_putD s1 n1 n2 hp kk np
      exact h _ _ H1 s2 r2
    | ct ρ => exact h.elim
theorem _root_.L2H.RoomH.units {k : Nat} {A : Around} (r : L2H.RoomH k A) : A.units + 64 < cLine := by
  have := r.un
  omega
section
variable {X : Cx} {E : XK} {Mb M : List Nat} {pos pos' : Pos} {tg : Expr} {g : TG} {ag : D → R As} {tb : TS} {mb : Env → R Fl} {body : List Stmt}
end
end DL
set_option maxHeartbeats 2000000
namespace DL
open PySem PySem.Spec L2

/-! ### reckoning -/
section
variable {ρ : Env} {i : Nat} {Q : R Fl → Prop}
end
end DL
set_option maxHeartbeats 2000000
namespace DL
open PySem PySem.Spec L2
section
variable {X : Cx} {E : Wh} {P : Program} {w : World} {K : PySem.W.Frag} {mg : Str → Option Value} {base : Heap} {k k' j na na' : Nat} {g g' : List D → R D} {n n' m : Str} {C C' : Addr} {pos apos p : Pos} {e o : Expr} {es : List Expr} {ta : TE} {tas : TA} {ma : Env → R D} {ms : Env → R (List D)}
end
end DL
set_option maxHeartbeats 2000000
namespace DL
open PySem PySem.Spec PySem.W PySem.Calls PyProof.Rows L2
/-! ### a number times a thing of one's own: its reflected method -/
section
variable {prog : Program} {w : World} {A : Around} {E : Value → Shared → Prop} {s : Shared} {K : PySem.W.Frag} {x C L f f' dx : Addr} {h₀ : Heap} {m : Str → Option Value} {od : Option Obj}
end
/-- the class has both of them -/
structure RevAt (P : Program) (w : World) (K : PySem.W.Frag) (mg : Str → Option Value) (base : Heap) (n : Str) (C : Addr) (k : Nat) (g : List D → R D) : Prop where
  mt : MtAt P w K mg base n C (PySem.dunderR "mul") k 2 g
  first : PySem.W.selfFirst K C = true
  own : ∃ f' : Addr, PySem.W.findIn K (.ref C) (PySem.dunder "mul") = some (some (.ref f'))
  sub : PySem.W.subIn K (.ref C) (.type "int") = some false
section
variable {X : Cx} {P : Program} {w : World} {K : PySem.W.Frag} {mg : Str → Option Value} {base : Heap} {n : Str} {C : Addr} {j k : Nat} {g : List D → R D} {a b : Expr} {pos : Pos} {ta tb t' : TE} {ma mb : Env → R D} {f : D → D → R D}
end
end DL
namespace DL
open PySem PySem.Spec L2
set_option maxHeartbeats 4000000

/-! ### signs that alternate -/
def pm : Nat → Int
  | 0 => 1
  | n + 1 => - pm n
/-! ### the sign of a row, 0 with a place that comes twice -/
def sg (x y : Int) : Int := if x < y then 1 else if y < x then -1 else 0
def prS (x : Int) : List Int → Int
  | [] => 1
  | y :: w => sg x y * prS x w
theorem prS_below {x : Int} {a : List Int} (h : ∀ y ∈ a, x < y) : prS x a = 1 := by
  induction a with
  | nil => rfl
  | cons y a ih =>
    rw [prS, ih fun z hz => h z (List.mem_cons_of_mem _ hz)]
    unfold sg
    rw [if_pos (h y List.mem_cons_self)]
    rfl
theorem ex_twice : ∀ {z : List Int}, ¬ z.Nodup → ∃ x a b c, z = a ++ x :: (b ++ x :: c)
  | [], h => absurd List.nodup_nil h
  | y :: z, h => by
    by_cases hy : y ∈ z
    · obtain ⟨b, c, e⟩ := List.append_of_mem hy
      exact ⟨y, [], b, c, by rw [e]; rfl⟩
    · obtain ⟨x, a, b, c, e⟩ := ex_twice (z := z) fun hn => h (List.nodup_cons.mpr ⟨hy, hn⟩)
      exact ⟨x, y :: a, b, c, by rw [e]; rfl⟩
end DL
set_option maxHeartbeats 2000000
namespace DL
open PySem PySem.Spec PySem.W PySem.Calls PyProof.Rows L2
/-! ### -x, abs(x) of things of one's own -/
section
variable {prog : Program} {w : World} {A : Around} {E : Value → Shared → Prop} {s : Shared} {K : PySem.W.Frag} {x C L f : Addr} {h₀ : Heap} {m : Str → Option Value} {ox : Obj} {od : Option Obj}
end
section
variable {X : Cx} {m : Str} {j na : Nat} {tab : List (Str × (List D → R D))}
end
section
variable {X : Cx} {P : Program} {w : World} {mg : Str → Option Value} {base : Heap} {j k : Nat} {tab : List (Str × (List D → R D))} {E : Wh} {e a b : Expr} {es : List Expr} {p pos : Pos} {tas : TA} {ta tb : TE} {ms : Env → R (List D)} {ma mb : Env → R D}
end
/-! ### a thing of one's own with a whole number on the right -/
/-- the class has the method; ints do not come ahead of it -/
structure RgtAt (P : Program) (w : World) (K : PySem.W.Frag) (mg : Str → Option Value) (base : Heap) (op : Operator) (n : Str) (C : Addr) (k : Nat) (g : List D → R D) : Prop where
  mt : MtAt P w K mg base n C (PySem.dunder op.info.2) k 2 g
  first : PySem.W.selfFirst K C = true
  rev : ∃ rc, PySem.W.findIn K (.ref C) (PySem.dunderR op.info.2) = some rc ∧ (rc = none ∨ ∃ g : Addr, rc = some (.ref g))
  i1 : ∃ fo, PySem.W.findIn K (.type "int") (PySem.dunder op.info.2) = some fo
  i2 : ∃ ro, PySem.W.findIn K (.type "int") (PySem.dunderR op.info.2) = some ro
  sub : PySem.W.subIn K (.type "int") (.ref C) = some false
section
variable {X : Cx} {P : Program} {w : World} {K : PySem.W.Frag} {mg : Str → Option Value} {base : Heap} {n : Str} {C : Addr} {j k : Nat} {g : List D → R D} {op : Operator} {a b : Expr} {pos : Pos} {ta tb t' : TE} {ma mb : Env → R D} {f : D → D → R D}
end
end DL
namespace DL
open PySem PySem.Spec L2
set_option maxHeartbeats 4000000

/-! ### what turns its sign when two neighbours are exchanged -/
def Alt (F : List Int → Int) : Prop := ∀ p q x y, F (p ++ x :: y :: q) = - F (p ++ y :: x :: q)
theorem Alt.cons {F : List Int → Int} (h : Alt F) (z : Int) : Alt fun w => F (z :: w) := fun p q x y => h (z :: p) q x y
theorem Alt.app {F : List Int → Int} (h : Alt F) (r : List Int) : Alt fun w => F (r ++ w) := fun p q x y => by
  have := h (r ++ p) q x y
  rwa [List.append_assoc, List.append_assoc] at this
theorem Alt.tail {F : List Int → Int} (h : Alt F) (r : List Int) : Alt fun w => F (w ++ r) := fun p q x y => by
  have := h p (q ++ r) x y
  simpa only [List.append_assoc, List.cons_append] using this
theorem Alt.move {F : List Int → Int} (h : Alt F) (x : Int) : ∀ (b p c : List Int), F (p ++ (b ++ x :: c)) = pm b.length * F (p ++ x :: (b ++ c))
  | [], p, c => by rw [List.length_nil, pm, Int.one_mul]; rfl
  | y :: b, p, c => by
    have ih := h.move x b (p ++ [y]) c
    rw [List.append_assoc, List.append_assoc] at ih
    have e := h p (b ++ c) y x
    rw [List.length_cons, pm, Int.neg_mul]
    show F (p ++ y :: (b ++ x :: c)) = - (pm b.length * F (p ++ x :: y :: (b ++ c)))
    have ih : F (p ++ y :: (b ++ x :: c)) = pm b.length * F (p ++ y :: x :: (b ++ c)) := ih
    rw [ih, e, Int.mul_neg]
theorem Alt.twice {F : List Int → Int} (h : Alt F) {w : List Int} (hn : ¬ w.Nodup) : F w = 0 := by
  obtain ⟨x, a, b, c, rfl⟩ := ex_twice hn
  have h1 := h.move x b (a ++ [x]) c
  rw [List.append_assoc, List.append_assoc] at h1
  have h1 : F (a ++ x :: (b ++ x :: c)) = pm b.length * F (a ++ x :: x :: (b ++ c)) := h1
  have h2 := h a (b ++ c) x x
  have h3 : F (a ++ x :: x :: (b ++ c)) = 0 := by omega
  rw [h1, h3, Int.mul_zero]
theorem Alt.ins {F : List Int → Int} (h : Alt F) (x : Int) : ∀ (s p : List Int), s.Pairwise (· ≤ ·) → x ∉ s → F (p ++ x :: s) = prS x s * F (p ++ insI x s)
  | [], p, _, _ => by rw [prS, Int.one_mul]; rfl
  | y :: s, p, hs, hx => by
    obtain ⟨h1, h2⟩ := List.pairwise_cons.mp hs
    rw [List.mem_cons, not_or] at hx
    unfold insI
    by_cases hxy : x ≤ y
    · rw [if_pos hxy, prS_below (a := y :: s), Int.one_mul]
      intro z hz
      rcases List.mem_cons.mp hz with rfl | hz
      · omega
      · have := h1 z hz
        omega
    · rw [if_neg hxy]
      have ih := h.ins x s (p ++ [y]) h2 hx.2
      rw [List.append_assoc, List.append_assoc] at ih
      have ih : F (p ++ y :: x :: s) = prS x s * F (p ++ y :: insI x s) := ih
      rw [h p s x y, ih, prS]
      unfold sg
      rw [if_neg (by omega), if_pos (by omega), Int.neg_mul, Int.one_mul, Int.neg_mul]
/-! ### lists of terms in their one form -/
structure Can (T : List (List Int × Int)) : Prop where
  asc : AscR (T.map fun p => p.1)
  nz : ∀ p ∈ T, p.2 ≠ 0
end DL
set_option maxHeartbeats 2000000
namespace DL
open PySem PySem.Spec PyProof.Rows L2
def IterK (k : Bool) (h : Heap) (it a : Addr) (i : Nat) : Prop := if k = true then h.IsTupleIter it a i else h.IsListIter it a i
theorem IterK.obj {k : Bool} {h : Heap} {it a : Addr} {i : Nat} (st : IterK k h it a i) : ∃ o, h.get? it = some o ∧ ∀ v, o.data ≠ .cell v := by
  cases k with
  | true =>
    obtain ⟨o, ho, hc, hd⟩ := (st : h.IsTupleIter it a i)
    exact ⟨o, ho, fun v q => by rw [hd] at q; cases q⟩
  | false =>
    obtain ⟨o, ho, hc, hd⟩ := (st : h.IsListIter it a i)
    exact ⟨o, ho, fun v q => by rw [hd] at q; cases q⟩
theorem IterK.at {k : Bool} {h h' : Heap} {it a : Addr} {i : Nat} (st : IterK k h it a i) (hk : ∀ o, h.get? it = some o → h'.get? it = some o) : IterK k h' it a i := by
  cases k with
  | true => exact Heap.IsTupleIter.at (st : h.IsTupleIter it a i) hk
  | false => exact Heap.IsListIter.at (st : h.IsListIter it a i) hk
section
variable {X : Cx} {E : Wh} {K : PySem.W.Frag} {mg : Gm} {I I' H H' : Hp} {σ : L2.St} {ρ : Env} {a b c e e2 tg : Expr} {es : List Expr} {pos p tpos : Pos} {m : Env → R D} {ms : Env → R (List D)} {t : TE} {tas : TA}
end
end DL
namespace DL
open PySem PySem.Spec PyProof.Rows L2

inductive AsOkD (X : Cx) : List ExceptHandler → List (Nat × Value × (Addr → Value → Option Addr → TS)) → Prop
  | dead {hds : List ExceptHandler} : AsOkD X hds []
  | cons {x n : Str} {c : Value} {i : Nat} {ts : Addr → Value → Option Addr → TS} {b₀ : Stmt} {suite : List Stmt} {np pos' : Pos} {hds : List ExceptHandler} {l : List (Nat × Value × (Addr → Value → Option Addr → TS))} (hc : Names X x c) (hi : X.N[i]? = some n) (hln : X.env.kindOf n = some .local)
      (hsu : ∀ (a : Addr) (oe : Obj) (cls : Value) (d : Option Addr) (pn : List (Addr × Obj)), Zc cls d oe → (∃ vs, oe.data = .fields vs) → PySem.PXN.CtxN oe → PSs (X.suite a ((a, oe) :: pn)) (b₀ :: suite) (ts a cls d)) (r : AsOkD X hds l) :
      AsOkD X (.ExceptHandler (some (.Name x np)) (some n) (b₀ :: suite) pos' :: hds) ((i, c, ts) :: l)
/-- the clauses' texts -/
inductive ClOkD (X : Cx) : List ExceptHandler → List (Nat × Value × (Addr → Value → Option Addr → TS)) → List Cl → Prop
  | dead {hds : List ExceptHandler} : ClOkD X hds [] [⟨0, false, "", fun _ => .stuck⟩]
  | cons {x : String} {n : Str} {c : Value} {i : Nat} {o : Bool} {ts : Addr → Value → Option Addr → TS} {mh : Env → R Fl} {b₀ : Stmt} {suite : List Stmt} {np pos' : Pos} {hds : List ExceptHandler} {l : List (Nat × Value × (Addr → Value → Option Addr → TS))} {ms : List Cl} (hc : Names X x c) (ho : if o = true then X.mg x = some c else c = .type x) (hi : X.N[i]? = some n) (hln : X.env.kindOf n = some .local)
      (hsu : ∀ (a : Addr) (oe : Obj) (cls : Value) (d : Option Addr) (pn : List (Addr × Obj)), Zc cls d oe → (∃ vs, oe.data = .fields vs) → PySem.PXN.CtxN oe → MHs (X.suite a ((a, oe) :: pn)) (xcV a cls d) (b₀ :: suite) (ts a cls d) mh) (r : ClOkD X hds l ms) :
      ClOkD X (.ExceptHandler (some (.Name x np)) (some n) (b₀ :: suite) pos' :: hds) ((i, c, ts) :: l) (⟨i, o, x, mh⟩ :: ms)
theorem ClOkD.ass {X : Cx} {hds : List ExceptHandler} {l : List (Nat × Value × (Addr → Value → Option Addr → TS))} {ms : List Cl} (h : ClOkD X hds l ms) : AsOkD X hds l := by
  induction h with
  | dead => exact .dead
  | cons hc ho hi hln hsu r ih => exact .cons hc hi hln (fun a oe cls d pn hz hf hx => (hsu a oe cls d pn hz hf hx).pe) ih
end DL
namespace DL
open PySem PySem.Spec PyProof.Rows L2

/-! ### defs with one keyword-only parameter: f(e, .., k = v) and f(e, ..) by the default -/
/-- how such a def stands: all by hand, or by the default dv -/
structure FnKw (K : PySem.W.Frag) (mg : Str → Option Value) (x : Str) (st : Stmt) (ps : List Str) (n : Nat) (kw : Str) (dv : V) : Prop where
  ex : ∃ f fd, Fun K x x st f fd ∧ mg x = some (.ref f) ∧ KBn K fd ps n [kw] (fun us ws => us ++ ws) (fun vs zs => vs ++ zs) ∧ ∃ ds, Vals [dv] ds ∧ Binds K fd ps ds
structure KnKw (P : Program) (w : World) (K : PySem.W.Frag) (mg : Str → Option Value) (base : Heap) (x : Str) (k n : Nat) (kw : Str) (dv : V) (g : List D → R D) : Prop where
  ex : ∃ f fd ps, FnOk P w K mg base (L2N.CX P w) k f fd ps (spOf K (g0 mg) (n + 1) g) ∧ mg x = some (.ref f) ∧ PySem.W.keepIn K (.ref f) = true ∧ KBn K fd ps n [kw] (fun us ws => us ++ ws) (fun vs zs => vs ++ zs) ∧ ∃ ds, Vals [dv] ds ∧ Binds K fd ps ds
theorem KnKw.mk' {P : Program} {w : World} {K : PySem.W.Frag} {mg : Str → Option Value} {base : Heap} {x kw : Str} {st : Stmt} {N ps : List Str} {k n : Nat} {dv : V} {M M' : List Nat} {ms : Env → R Fl} (F : FnKw K mg x st ps n kw dv) (hn : ps.length = n + 1) (S : FnScope N ps (defScope st)) (hM : ∀ i ∈ M, ps.length ≤ i)
    (hb : ∀ (f : Addr) (cdv : Value) (A : Around) (outer : List PySem.Env) (s : Shared) (H : Hp) (E : XK), Room k (A.deeper (PyProof.Rows.envOfC x (defScope st) s.heap.objs.size f cdv)) →
      ∃ ts, MSs (cxOf (L2N.CX P w) P w K mg base N x (defScope st) f cdv A outer s H E) E [] M M' (defBody st) ts ms) : KnKw P w K mg base x (k + 1) n kw dv (runX N.length ms) := by
  obtain ⟨f, fd, F, g, b, d⟩ := F.ex
  refine ⟨f, fd, ps, ?_, g, F.kp, b, d⟩
  rw [← hn]
  exact fn_mirX F S hM (hb f)
end DL
namespace DL
open PySem PySem.Spec PyProof.Rows L2

/-! ### lists of one's own within a list of one's own: x[i][j] = v, x[i].append(v) -/
section
variable {K : PySem.W.Frag} {mg : Gm} {E : XK} {Mb M M' : List Nat} {Ie : Hp × Addr} {He I H I0 : Hp} {D0 : Ends} {σ : L2.St} {ρ : Env}
end
section
variable {X : Cx} {E : XK} {Mb M : List Nat} {e k l : Expr} {te tk tl : TE} {m mk ml : Env → R D} {x : Str} {pos : Pos}
end
end DL
namespace DL
open PySem PySem.Spec PyProof.Rows L2

/-! ### x = [.. for ..] where every item is a new list: x holds lists of one's own -/
section
variable {K : PySem.W.Frag} {mg : Gm} {I1 H1 I2 H I3 H3 : Hp} {D0 : Addr} {n : Nat} {accD : List D} {es : List D}
structure LcK (K : PySem.W.Frag) (mg : Gm) (I1 H1 : Hp) (D0 : Addr) (n : Nat) (accD : List D) (I2 H : Hp) : Prop where
  i : Same I1 I2
  e : Same I2 H
  z : I2 D0 = none
  h : Same H1 H
  f : ∀ a o, I2 a = some o → I1 a = some o ∨ Fr H1 a o
  l : ∃ vs, H D0 = some (.lst vs) ∧ Kids K mg I2 H1 H vs accD ∧ vs.Nodup ∧ V.ref D0 ∉ vs ∧ vs.length ≤ n
theorem LcK.start (ex : Same I1 H1) (hD : H1 D0 = none) : LcK K mg I1 H1 D0 0 [] I1 (upd H1 D0 (.lst [])) :=
  ⟨.refl _, (Stp.side ex hD).e, ex.free hD, (Stp.side ex hD).h, fun _ _ h => .inl h, [], upd_same, .nil, List.nodup_nil, List.not_mem_nil, Nat.le_refl _⟩
theorem stp_none {a : Addr} {ws : List V} (s : Stp I2 H I3 H3) (h1 : I2 a = none) (h2 : H a = some (.lst ws)) : I3 a = none := by
  cases q : I3 a with
  | none => rfl
  | some o =>
    rcases s.f _ _ q with z | z | z
    · rw [h1] at z
      cases z
    · rw [h2] at z
      cases z
    · have y := s.e _ _ q
      rw [s.h _ _ h2] at y
      cases y
      exact z.elim
theorem Kids.stp {He : Hp} (s : Stp I2 H I3 H3) : ∀ {vs : List V} {ds : List D}, Kids K mg I2 He H vs ds → Kids K mg I3 He H3 vs ds
  | _, _, .nil => .nil
  | _, _, .cons ⟨q, ws, es, e1, e2, h3, h4, h5, h6⟩ r => .cons ⟨q, ws, es, e1, e2, stp_none s h3 h5, h4, s.h _ _ h5, h6.mono s.i⟩ (r.stp s)
theorem LcK.step (p : LcK K mg I1 H1 D0 n accD I2 H) (s : Stp I2 H I3 H3) : LcK K mg I1 H1 D0 n accD I3 H3 := by
  obtain ⟨vs, h1, h2, h3, h4, h5⟩ := p.l
  refine ⟨p.i.trans s.i, s.e, stp_none s p.z h1, p.h.trans s.h, fun a o h => ?_, vs, s.h _ _ h1, h2.stp s, h3, h4, h5⟩
  rcases s.f a o h with z | z | z
  · exact p.f a o z
  · exact .inr (.inl (p.h.free z))
  · exact .inr (.inr z)
theorem Kids.here {I He : Hp} : ∀ {vs : List V} {ds : List D}, Kids K mg I He H vs ds → ∀ {a : Addr}, V.ref a ∈ vs → (∃ ws, H a = some (.lst ws)) ∧ He a = none
  | _, _, .nil, _, h => by cases h
  | _, _, .cons ⟨q, ws, es, e1, _, _, h4, h5, _⟩ r, a, h => by
    rcases List.mem_cons.mp h with e | h
    · rw [e1] at e
      cases e
      exact ⟨⟨ws, h5⟩, h4⟩
    · exact r.here h
theorem Kids.put {I He : Hp} {b : Addr} {o : HO} : ∀ {vs : List V} {ds : List D}, Kids K mg I He H vs ds → V.ref b ∉ vs → Kids K mg I He (upd H b o) vs ds
  | _, _, .nil, _ => .nil
  | _, _, .cons ⟨q, ws, es, e1, e2, h3, h4, h5, h6⟩ r, hb => by
    have hb2 := not_or.mp (fun z => hb (List.mem_cons.mpr z))
    have ne : q ≠ b := fun z => hb2.1 (by rw [e1, z])
    exact .cons ⟨q, ws, es, e1, e2, h3, h4, by rw [upd_ne ne]; exact h5, h6⟩ (r.put hb2.2)
theorem Kids.base {I He He' : Hp} (s : Same He' He) : ∀ {vs : List V} {ds : List D}, Kids K mg I He H vs ds → Kids K mg I He' H vs ds
  | _, _, .nil => .nil
  | _, _, .cons ⟨q, ws, es, e1, e2, h3, h4, h5, h6⟩ r => .cons ⟨q, ws, es, e1, e2, h3, s.free h4, h5, h6⟩ (r.base s)
/-- one new list more -/
theorem LcK.push {b : Addr} {ws : List V} {H0 : Hp} (p0 : LcK K mg I1 H1 D0 n accD I2 H0) (p : LcK K mg I1 H1 D0 n accD I3 H) (hD : H1 D0 = none) (n1 : I3 b = none) (n2 : H0 b = none) (hp : H b = some (.lst ws)) (r : Reps K mg I3 ws es) (hle : Same H0 H) (hn : n < LIM) : ∃ acc, H D0 = some (.lst acc) ∧ acc.length < sizeLine ∧ LcK K mg I1 H1 D0 (n + 1) (accD ++ [.lst es]) I3 (upd H D0 (.lst (acc ++ [V.ref b]))) := by
  obtain ⟨vs0, g1, g2, _, _, _⟩ := p0.l
  obtain ⟨vs, h1, h2, h3, h4, h5⟩ := p.l
  have evs : vs = vs0 := by
    have := hle _ _ g1
    rw [h1] at this
    cases this
    rfl
  subst evs
  have hb : V.ref b ∉ vs := fun z => by
    obtain ⟨⟨ws', e⟩, _⟩ := g2.here z
    rw [n2] at e
    cases e
  have hbD : b ≠ D0 := fun z => by
    rw [z, g1] at n2
    cases n2
  refine ⟨vs, h1, lim_lt (by omega), p.i, fun a o q => ?_, p.z, fun a o q => ?_, p.f, vs ++ [V.ref b], upd_same, ?_, ?_, ?_, by rw [List.length_append, List.length_singleton]; omega⟩
  · rw [upd_ne (ne_of_none q p.z)]
    exact p.e _ _ q
  · rw [upd_ne (ne_of_none q hD)]
    exact p.h _ _ q
  · exact (h2.put h4).app (.cons ⟨b, ws, es, rfl, rfl, n1, p0.h.free n2, by rw [upd_ne hbD]; exact hp, r⟩ .nil)
  · refine List.nodup_append.mpr ⟨h3, List.pairwise_singleton _ _, fun x hx y hy e => ?_⟩
    rw [List.mem_singleton] at hy
    rw [e, hy] at hx
    exact hb hx
  · intro z
    rcases List.mem_append.mp z with z | z
    · exact h4 z
    · rw [List.mem_singleton] at z
      cases z
      exact hbD rfl
theorem LcK.skip (p : LcK K mg I1 H1 D0 n accD I2 H) : LcK K mg I1 H1 D0 (n + 1) accD I2 H := by
  obtain ⟨vs, h1, h2, h3, h4, h5⟩ := p.l
  exact ⟨p.i, p.e, p.z, p.h, p.f, vs, h1, h2, h3, h4, by omega⟩
end
/-- a new list whose items are new lists -/
def OutD (K : PySem.W.Frag) (mg : Gm) (E : XK) (I H : Hp) (r : R (List D)) (Q : VK) : Prop := match r with
  | .ok ds => ∀ p vs I' H', Stp I H I' H' → I' p = none → H p = none → H' p = some (.lst vs) → Kids K mg I' H H' vs ds → vs.Nodup → V.ref p ∉ vs → Q (.ref p) H'
  | .err nm ds => ∀ C od I' H', Stp I H I' H' → XRep K mg I' H' nm ds C od → E C od H'
  | .stuck => False
section
variable {X : Cx} {E : XK} {elt tg iter : Expr} {ifs : List Expr} {scope : Scope} {own : List (Str × Nat)} {pos : Pos} {wi : TI} {g : TG} {tt : TT} {te : TE} {mi : Env → R (List D)} {ag : D → R As} {mt : Env → R Bool} {me : Env → R (List D)}
theorem OutD.mono {K : PySem.W.Frag} {mg : Gm} {E : XK} {I H I' H' : Hp} {r : R (List D)} {Q : VK} (s : Stp I H I' H') (h : OutD K mg E I H r Q) : OutD K mg E I' H' r Q := by
  cases r with
  | ok d =>
    refine fun p vs I2 H2 t n1 n2 hp kk nd np => h p vs I2 H2 (s.trans t) n1 (s.h.free n2) hp ?_ nd np
    clear nd np hp h
    induction kk with
    | nil => exact .nil
    | cons c r ih =>
      obtain ⟨q, ws, es, e1, e2, h3, h4, h5, h6⟩ := c
      exact .cons ⟨q, ws, es, e1, e2, h3, s.h.free h4, h5, h6⟩ ih
  | err nm ds => exact fun C od I2 H2 t q => h C od I2 H2 (s.trans t) q
  | stuck => exact h
variable {Mb M : List Nat} {y : Str} {py spos : Pos}
end
section
variable {X : Cx} {E : XK} {Mb M : List Nat} {e : Expr} {te : TE} {m : Env → R (List D)} {x : Str} {pos : Pos}
end
/-! ### C.m(e, ..), m a staticmethod -/
structure CSm (K : PySem.W.Frag) (C : Addr) (mc : Value) (m : Str) (p f : Addr) : Prop where
  at_ : PySem.W.findCls K (.ref C) mc m = some (.get (.builtin "staticmethod.__get__") (.ref p) .none (.ref C))
  rc : ∃ rest, PySem.W.recIn K p "staticmethod" = some (.ref f :: rest)
  kp : PySem.W.keepIn K (.ref f) = true
structure SmAt (P : Program) (w : World) (K : PySem.W.Frag) (mg : Str → Option Value) (base : Heap) (n : Str) (C : Addr) (m : Str) (k na : Nat) (g : List D → R D) : Prop where
  ex : ∃ mc p f fd ps, mg n = some (.ref C) ∧ ClX.CRead K C mc ∧ CSm K C mc m p f ∧ FnOk P w K mg base (L2N.CX P w) k f fd ps (spOf K (g0 mg) na g) ∧ L2.Binds K fd ps []
theorem SmAt.mk' {P : Program} {w : World} {K : PySem.W.Frag} {mg : Str → Option Value} {base : Heap} {n x qual : Str} {C f : Addr} {fd : FuncData} {st : Stmt} {N ps : List Str} {k : Nat} {M M' : List Nat} {ms : Env → R Fl} {mc : Value} {p : Addr} (F : Fun K x qual st f fd) (hC : mg n = some (.ref C)) (r : ClX.CRead K C mc) (c : CSm K C mc x p f) (b : L2.Binds K fd ps []) (S : FnScope N ps (defScope st)) (hM : ∀ i ∈ M, ps.length ≤ i)
    (hb : ∀ (cdv : Value) (A : Around) (outer : List PySem.Env) (s : Shared) (H : Hp) (E : XK), Room k (A.deeper (PyProof.Rows.envOfC qual (defScope st) s.heap.objs.size f cdv)) →
      ∃ ts, MSs (cxOf (L2N.CX P w) P w K mg base N qual (defScope st) f cdv A outer s H E) E [] M M' (defBody st) ts ms) : SmAt P w K mg base n C x (k + 1) ps.length (runX N.length ms) := ⟨mc, p, f, fd, ps, hC, r, c, fn_mirX F S hM hb, b⟩
/-! ### C.F, a number that stands in a class -/
structure CvI (K : PySem.W.Frag) (mg : Str → Option Value) (n f : Str) (z : Int) : Prop where
  ex : ∃ C mc t, mg n = some (.ref C) ∧ ClX.CRead K C mc ∧ ClX.CVal K C mc f (.int z) (.int z t)
end DL
namespace DL
open PySem PySem.Spec PyProof.Rows L2

section
variable {X : Cx} {E : XK} {Mb M : List Nat} {a b c d : Expr} {ta tb tc td : TE} {ma mb mc md : Env → R D} {x : Str} {pos : Pos}
end
end DL
namespace DL
open PySem PySem.Spec PyProof.Rows L2

theorem KnW.stuck {P : Program} {w : World} {K : PySem.W.Frag} {mg : Str → Option Value} {base : Heap} {x : Str} {st : Stmt} {ps : List Str} {k n : Nat} (F : FnAt K mg x st ps) (hn : n = ps.length) : KnW P w K mg base x k n (fun _ => .stuck) := by
  obtain ⟨f, fd, F, g, b⟩ := F.ex
  refine ⟨f, fd, ps, ⟨fun vs H Q E h => ?_, fun B out t G ar zs ys R Z q _ _ _ _ _ _ h => ?_⟩, g, F.kp, b⟩
  · obtain ⟨_, _, _, _, _, h⟩ := h
    exact h.elim
  · obtain ⟨_, _, _, _, _, h⟩ := h
    exact h.elim
end DL
namespace DL
open PySem PySem.Spec L2
set_option maxHeartbeats 4000000
mutual
theorem pl_noX : ∀ {j : Nat} {d : D}, d.pl j = true → d.noX = true
  | j + 1, .non, _ => rfl
  | j + 1, .bl _, _ => rfl
  | j + 1, .int _, _ => rfl
  | j + 1, .str _, _ => rfl
  | j + 1, .lst ds, h => pl_noXs (j := j) (ds := ds) (by
      have h : (decide (ds.length ≤ 100000) && ds.all (D.pl j)) = true := h
      rw [Bool.and_eq_true] at h
      exact h.2)
  | j + 1, .tup ds, h => pl_noXs (j := j) (ds := ds) (by
      have h : (decide (ds.length ≤ 100000) && ds.all (D.pl j)) = true := h
      rw [Bool.and_eq_true] at h
      exact h.2)
theorem pl_noXs : ∀ {j : Nat} {ds : List D}, ds.all (D.pl j) = true → D.noXs ds = true
  | _, [], _ => rfl
  | j, d :: ds, h => by
    rw [List.all_cons, Bool.and_eq_true] at h
    show (d.noX && D.noXs ds) = true
    rw [pl_noX h.1, pl_noXs h.2]
    rfl
end
section
variable {p : PX}
end
end DL
namespace DL
open PySem PySem.Spec PyProof.Rows L2

section
variable {X : Cx} {E : XK} {elt tg iter : Expr} {ifs : List Expr} {scope : Scope} {own : List (Str × Nat)} {pos : Pos} {wi : TI} {g : TG} {tt : TT} {te : TE} {mi : Env → R (List D)} {ag : D → R As} {mt : Env → R Bool} {me : Env → R (List D)}
variable {Mb M M' : List Nat} {spos : Pos}
end
def spFD (K : PySem.W.Frag) (mg : Str → Option Value) (n : Nat) (g : List D → R (List D)) : Sp := fun vs H Q E => ∃ I ds, ds.length = n ∧ Same I H ∧ Reps K (g0 mg) I vs ds ∧ OutD K (g0 mg) E I H (g ds) Q
def endFD : Fl → R (List D)
  | .rd ds => .ok ds
  | _ => .stuck
def runFD (n : Nat) (ms : Env → R Fl) (ds : List D) : R (List D) := ms (startE n ds) >>= endFD
theorem fn_mirFD {P : Program} {w : World} {K : PySem.W.Frag} {mg : Str → Option Value} {base : Heap} {x qual : Str} {st : Stmt} {f : Addr} {fd : FuncData} {N ps : List Str} {k : Nat} {M M' : List Nat} {ms : Env → R Fl} (F : Fun K x qual st f fd) (S : FnScope N ps (defScope st)) (hM : ∀ i ∈ M, ps.length ≤ i)
    (hb : ∀ (cdv : Value) (A : Around) (outer : List PySem.Env) (s : Shared) (H : Hp) (E : XK), Room k (A.deeper (PyProof.Rows.envOfC qual (defScope st) s.heap.objs.size f cdv)) →
      ∃ ts, MSs (cxOf (L2N.CX P w) P w K mg base N qual (defScope st) f cdv A outer s H E) E [] M M' (defBody st) ts ms) : FnOk P w K mg base (L2N.CX P w) (k + 1) f fd ps (spFD K mg ps.length (runFD N.length ms)) := by
  refine okXN F S (fun vs H Q E h => ?_) (fun cdv A outer s H vs Q E hr h => ?_)
  · obtain ⟨I, ds, hl, _, r, _⟩ := h
    exact r.len.trans hl
  obtain ⟨I, ds, hl, ex, rs, h⟩ := h
  obtain ⟨ts, hp⟩ := hb cdv A outer s H E hr
  refine ⟨ts, hp.pe, hp.sn (I, 0) H _ I H _ _ (start_SE ex rs (by rw [hl]; exact hM)) ?_⟩
  unfold runFD at h
  cases e : ms (startE N.length ds) with
  | err nm es =>
    rw [e] at h
    exact h
  | stuck =>
    rw [e] at h
    exact h.elim
  | ok fl =>
    rw [e] at h
    cases fl with
    | rd es => exact fun p vs I1 H1 s1 n1 n2 hp kk nd np => h p vs I1 H1 s1 n1 n2 hp kk nd np
    | rf es => exact h.elim
    | nx ρ => exact h.elim
    | rt d => exact h.elim
    | bk ρ => exact h.elim
    | ct ρ => exact h.elim
structure KnFD (P : Program) (w : World) (K : PySem.W.Frag) (mg : Str → Option Value) (base : Heap) (x : Str) (k n : Nat) (g : List D → R (List D)) : Prop where
  ex : ∃ f fd ps, FnOk P w K mg base (L2N.CX P w) k f fd ps (spFD K mg n g) ∧ mg x = some (.ref f) ∧ PySem.W.keepIn K (.ref f) = true ∧ Binds K fd ps []
theorem KnFD.mk' {P : Program} {w : World} {K : PySem.W.Frag} {mg : Str → Option Value} {base : Heap} {x : Str} {st : Stmt} {N ps : List Str} {k : Nat} {M M' : List Nat} {ms : Env → R Fl} (F : FnAt K mg x st ps) (S : FnScope N ps (defScope st)) (hM : ∀ i ∈ M, ps.length ≤ i)
    (hb : ∀ (f : Addr) (cdv : Value) (A : Around) (outer : List PySem.Env) (s : Shared) (H : Hp) (E : XK), Room k (A.deeper (PyProof.Rows.envOfC x (defScope st) s.heap.objs.size f cdv)) →
      ∃ ts, MSs (cxOf (L2N.CX P w) P w K mg base N x (defScope st) f cdv A outer s H E) E [] M M' (defBody st) ts ms) : KnFD P w K mg base x (k + 1) ps.length (runFD N.length ms) := by
  obtain ⟨f, fd, F, g, b⟩ := F.ex
  exact ⟨f, fd, ps, fn_mirFD F S hM (hb f), g, F.kp, b⟩
section
variable {X : Cx} {E : XK} {Mb M : List Nat} {e k : Expr} {te tk : TE} {m mk : Env → R D} {x : Str} {pos : Pos}
/-! ### x.pop() -/
theorem Kids.drop {K : PySem.W.Frag} {mg : Gm} {I He H : Hp} : ∀ {vs : List V} {ds : List D}, Kids K mg I He H vs ds → Kids K mg I He H vs.dropLast ds.dropLast
  | _, _, .nil => .nil
  | [v], [d], .cons _ .nil => .nil
  | v :: w :: vs, d :: f :: ds, .cons k r => by
    rw [List.dropLast_cons₂, List.dropLast_cons₂]
    exact .cons k (r.drop)
end
end DL
namespace DL
open PySem PySem.Spec PyProof.Rows L2

/-! ### sorted(xs), xs a list of tuples that are alike -/
def rSortedG (K : PySem.W.Frag) : List V → Hp → VK → Prop := fun vs H Q => ∃ (a : Addr) (bs : List (V × D)), vs = [V.ref a] ∧ SqL K H a (bs.map (·.1)) ∧ (∀ b ∈ bs, Dp K H b.1 b.2.py) ∧ PySem.W.AllAlike (bs.map fun b => b.2.py) ∧ PySem.W.Sortable (bs.map fun b => b.2.py) ∧ (∀ b ∈ bs, b.2.py.depth ≤ 61) ∧
  ∀ p : Addr, H p = none → Q (.ref p) (upd H p (.lst ((bs.mergeSort (PySem.W.dataLe false fun b => b.2.py)).map (·.1))))
theorem each_vals : ∀ {bs : List (V × D)} {us : List Value}, Vals (bs.map (·.1)) us → PySem.W.EachIs (fun (v : Value) (b : V × D) => RelV b.1 v) us bs
  | [], _, h => by
    cases h
    exact .nil
  | b :: bs, _, h => by
    cases h with
    | cons r h => exact .cons r (each_vals h)
theorem vals_each : ∀ {bs : List (V × D)} {us : List Value}, PySem.W.EachIs (fun (v : Value) (b : V × D) => RelV b.1 v) us bs → Vals (bs.map (·.1)) us
  | _, _, .nil => .nil
  | _, _, .cons r h => .cons r (vals_each h)
theorem each_imp {α β : Type} {R S : α → β → Prop} : ∀ {as : List α} {bs : List β}, (∀ a, ∀ b ∈ bs, R a b → S a b) → PySem.W.EachIs R as bs → PySem.W.EachIs S as bs
  | _, _, _, .nil => .nil
  | _, _, h, .cons r t => .cons (h _ _ List.mem_cons_self r) (each_imp (fun a b hb => h a b (List.mem_cons_of_mem _ hb)) t)
theorem cr_sortedG {X : Cx} (hu : X.A.units + 65 < cLine) : CallR X (.builtin "sorted") (rSortedG X.K) := by
  intro pins s σ H vs us Q I r h
  obtain ⟨a, bs, rfl, hs, hd, hal, hk, hdep, q⟩ := h
  rw [Vals.ref1 r]
  obtain ⟨its, rv, hl, hz⟩ := I.list hs
  have hl2 : s.heap.IsList a its.toArray := let ⟨o, n, ho, hc, _, hd⟩ := hl; ⟨o, ho, hc, n, hd⟩
  have e := each_vals rv
  have er : PySem.W.EachIs (fun (v : Value) (b : V × D) => ∃ as, Reads s.heap v b.2.py as) its bs := each_imp (fun v b hb rl => Dp.reads I _ _ _ (hd b hb) rl) e
  rw [List.length_map] at hz
  refine PySem.W.sorted_data (enc := fun b : V × D => b.2.py) hl2 e er hal hk hz (fun b hb => by have := hdep b hb; show X.A.units + 2 + b.2.py.depth < cLine; omega) fun out hlen hout => ?_
  have hvals := vals_each hout
  have hlen2 : ((bs.mergeSort (PySem.W.dataLe false fun b => b.2.py)).map (·.1)).length ≤ sizeLine := by
    rw [List.length_map, List.length_mergeSort]
    exact hz
  obtain ⟨ep, he'⟩ := PyProof.Rows.sortedHeap_at (vs := its) (out := List.toArray out) (n := 0) (h := PySem.W.copyHeap s.heap its) (a := s.heap.objs.size + 1) (PySem.W.copyHeap_at _ _)
  refine ⟨.ref _, upd H (s.heap.objs.size + 1) (.lst ((bs.mergeSort (PySem.W.dataLe false fun b => b.2.py)).map (·.1))), I.laid (t' := s.toks) (fun b u e => PyProof.Rows.sortedAll_old e) (Nat.le_succ _) ⟨hlen2, out, ep, hvals, he'⟩, rfl, q _ (I.hok.fresh (Nat.le_succ _))⟩
def sortG (ds : List D) : List D := ds.mergeSort fun a b => !PySem.W.dataLt b.py a.py
theorem Reps.zip {K : PySem.W.Frag} {mg : Gm} {I : Hp} : ∀ {vs : List V} {ds : List D}, Reps K mg I vs ds → (vs.zip ds).map (·.1) = vs ∧ (vs.zip ds).map (·.2) = ds ∧ ∀ b ∈ vs.zip ds, Rep K mg I b.1 b.2
  | _, _, .nil => ⟨rfl, rfl, fun b hb => by cases hb⟩
  | _, _, .cons r h => by
    obtain ⟨h1, h2, h3⟩ := Reps.zip h
    refine ⟨by rw [List.zip_cons_cons, List.map_cons, h1], by rw [List.zip_cons_cons, List.map_cons, h2], fun b hb => ?_⟩
    rw [List.zip_cons_cons] at hb
    rcases List.mem_cons.mp hb with rfl | hb
    · exact r
    · exact h3 b hb
theorem reps_zip {K : PySem.W.Frag} {mg : Gm} {I : Hp} : ∀ {bs : List (V × D)}, (∀ b ∈ bs, Rep K mg I b.1 b.2) → Reps K mg I (bs.map (·.1)) (bs.map (·.2))
  | [], _ => .nil
  | b :: bs, h => .cons (h b List.mem_cons_self) (reps_zip fun c hc => h c (List.mem_cons_of_mem _ hc))
end DL
namespace L2
open PySem PySem.Spec PyProof.Rows GenW
section
variable {M : Model} {A : Around} {R : GenEnd} {Y : Protocol} {n : Nat} {s₀ : Shared} {c : Code} {fs : List Frame} {s : Shared} {env : PySem.Env}
  {K : Flow → Sem PySem.Fin} {H : Value → Sem PySem.Fin} {gd : Bool → Bool} {lv : List Value → List Value}
end
section
variable {X : Cx} {test : Expr} {a b : List Stmt} {pos : Pos} {tc : TT} {t u : TGn}
end
end L2
namespace DL
open PySem PySem.Spec PyProof.Rows L2
/-! ### statements of a generator: what is out so far stands beside the slots -/
def OutGy (K : PySem.W.Frag) (mg : Gm) (E : XK) (Mb M : List Nat) (Ie : Hp × Addr) (He I0 : Hp) (D0 : GEnds) (r : R (Fl × List D)) : Prop := match r with
  | .ok (.nx ρ, ds) => ∀ σ I H ys, SE K mg M Ie He σ I H ρ → Same I0 I → Reps K mg I ys ds → D0.nx ys σ H
  | .ok (.bk ρ, ds) => ∀ σ I H ys, SE K mg Mb Ie He σ I H ρ → Same I0 I → Reps K mg I ys ds → D0.bk ys σ H
  | .ok (.ct ρ, ds) => ∀ σ I H ys, SE K mg Mb Ie He σ I H ρ → Same I0 I → Reps K mg I ys ds → D0.ct ys σ H
  | .ok (_, _) => False
  | .err nm ds => ∀ C od I H, Stp Ie.1 He I H → XRep K mg I H nm ds C od → E C od H
  | .stuck => False
def SnGy (K : PySem.W.Frag) (mg : Gm) (E : XK) (Mb M M' : List Nat) (tg : TGn) (ms : Env → List D → R (Fl × List D)) : Prop :=
  ∀ (Ie : Hp × Addr) (He : Hp) (σ : L2.St) (I H : Hp) (ρ : Env) (D0 : GEnds) (ys : List V) (ds : List D), SE K mg M Ie He σ I H ρ → Reps K mg I ys ds → OutGy K mg E Mb M' Ie He I D0 (ms ρ ds) → tg D0 ys σ H
structure MGy (X : Cx) (E : XK) (Mb M M' : List Nat) (s : Stmt) (tg : TGn) (ms : Env → List D → R (Fl × List D)) : Prop where
  gs : GS X s tg
  sn : SnGy X.K (g0 X.mg) E Mb M M' tg ms
structure MGys (X : Cx) (E : XK) (Mb M M' : List Nat) (s : List Stmt) (tg : TGn) (ms : Env → List D → R (Fl × List D)) : Prop where
  gs : GSs X s tg
  sn : SnGy X.K (g0 X.mg) E Mb M M' tg ms
section
variable {X : Cx} {E : XK} {Mb M M' M1 : List Nat}
theorem OutGy.mono {K : PySem.W.Frag} {mg : Gm} {Ie : Hp × Addr} {He I0 I1 : Hp} {D0 : GEnds} {r : R (Fl × List D)} (k : Same I0 I1) (h : OutGy K mg E Mb M' Ie He I0 D0 r) : OutGy K mg E Mb M' Ie He I1 D0 r := by
  cases r with
  | err nm es => exact h
  | stuck => exact h
  | ok p =>
    obtain ⟨f, es⟩ := p
    cases f with
    | nx ρ2 => exact fun σ2 I2 H2 ys2 s2 k2 r2 => h σ2 I2 H2 ys2 s2 (k.trans k2) r2
    | bk ρ2 => exact fun σ2 I2 H2 ys2 s2 k2 r2 => h σ2 I2 H2 ys2 s2 (k.trans k2) r2
    | ct ρ2 => exact fun σ2 I2 H2 ys2 s2 k2 r2 => h σ2 I2 H2 ys2 s2 (k.trans k2) r2
    | rt d => exact h
    | rf ds => exact h
    | rd ds => exact h
end
end DL
namespace DL
open PySem PySem.Spec PyProof.Rows L2
/-! ### generator defs, list(g(..)) -/
def spG (K : PySem.W.Frag) (mg : Str → Option Value) (n : Nat) (g : List D → R (List D)) : SpG := fun vs H cont _ => ∃ I ds, ds.length = n ∧ Same I H ∧ Reps K (g0 mg) I vs ds ∧ match g ds with
  | .ok es => ∀ out I' H', Stp I H I' H' → Reps K (g0 mg) I' out es → cont out H'
  | _ => False
def endGy (p : Fl × List D) : R (List D) := match p.1 with
  | .nx _ => .ok p.2
  | _ => .stuck
def runGy (n : Nat) (ms : Env → List D → R (Fl × List D)) (ds : List D) : R (List D) := ms (startE n ds) [] >>= endGy
theorem gfn_mir {P : Program} {w : World} {K : PySem.W.Frag} {mg : Str → Option Value} {base : Heap} {x qual : Str} {st : Stmt} {f : Addr} {fd : FuncData} {N ps : List Str} {k : Nat} {M M' : List Nat} {ms : Env → List D → R (Fl × List D)} (F : Fun K x qual st f fd) (S : GScope N ps (defScope st)) (hM : ∀ i ∈ M, ps.length ≤ i)
    (hb : ∀ (cdv : Value) (A : Around) (outer : List PySem.Env) (s : Shared) (H : Hp) (E : XK) (pn : List (Addr × Obj)), Room k (A.deeper (PyProof.Rows.envOfC qual (defScope st) s.heap.objs.size f cdv)) →
      ∃ tg, MGys (gcxOf P w K mg base N qual (defScope st) f cdv A outer s H E pn) E0 [] M M' (defBody st) tg ms) : GFn P w K mg base (k + 1) f fd ps (spG K mg ps.length (runGy N.length ms)) := by
  obtain ⟨oc, od, kV, doc, pm, an, cdv, ct, osl, rfl, lk, hcd⟩ := F.ex
  refine gfn_of lk hcd S (fun vs H Q E h => ?_) fun A outer s H vs Q E pn hr h => ?_
  · obtain ⟨I, ds, hl, _, r, _⟩ := h
    exact r.len.trans hl
  obtain ⟨I, ds, hl, ex, rs, h⟩ := h
  obtain ⟨tg, hp⟩ := hb cdv A outer s H E pn hr
  refine ⟨tg, hp.gs, hp.sn (I, 0) H _ I H _ _ [] [] (start_SE ex rs (by rw [hl]; exact hM)) .nil ?_⟩
  unfold runGy at h
  cases e : ms (startE N.length ds) [] with
  | err nm es =>
    rw [e] at h
    exact h.elim
  | stuck =>
    rw [e] at h
    exact h.elim
  | ok p =>
    rw [e] at h
    obtain ⟨fl, es⟩ := p
    cases fl with
    | nx ρ => exact fun σ' I' H' ys s' k r => h ys I' H' s'.st r
    | rd es => exact h.elim
    | rf es => exact h.elim
    | rt d => exact h.elim
    | bk ρ => exact h.elim
    | ct ρ => exact h.elim
/-- a generator def by its name: what it hands out -/
structure KnGy (P : Program) (w : World) (K : PySem.W.Frag) (mg : Str → Option Value) (base : Heap) (x : Str) (k n : Nat) (g : List D → R (List D)) : Prop where
  ex : ∃ f fd ps, GFn P w K mg base k f fd ps (spG K mg n g) ∧ mg x = some (.ref f) ∧ PySem.W.keepIn K (.ref f) = true ∧ Binds K fd ps []
theorem KnGy.mk' {P : Program} {w : World} {K : PySem.W.Frag} {mg : Str → Option Value} {base : Heap} {x : Str} {st : Stmt} {N ps : List Str} {k : Nat} {M M' : List Nat} {ms : Env → List D → R (Fl × List D)} (F : FnAt K mg x st ps) (S : GScope N ps (defScope st)) (hM : ∀ i ∈ M, ps.length ≤ i)
    (hb : ∀ (f : Addr) (cdv : Value) (A : Around) (outer : List PySem.Env) (s : Shared) (H : Hp) (E : XK) (pn : List (Addr × Obj)), Room k (A.deeper (PyProof.Rows.envOfC x (defScope st) s.heap.objs.size f cdv)) →
      ∃ tg, MGys (gcxOf P w K mg base N x (defScope st) f cdv A outer s H E pn) E0 [] M M' (defBody st) tg ms) : KnGy P w K mg base x (k + 1) ps.length (runGy N.length ms) := by
  obtain ⟨f, fd, F, g, b⟩ := F.ex
  exact ⟨f, fd, ps, gfn_mir F S hM (hb f), g, F.kp, b⟩
end DL
namespace DL
open PySem PySem.Spec PyProof.Rows L2
section
variable {X : Cx} {E : XK} {Mb M : List Nat} {x : Str} {pos : Pos} {tg : Expr} {g : TG} {ag : D → R As}
end
end DL
namespace DL
open PySem PySem.Spec PyProof.Rows L2
/-! ### reckoning with mirrors of generators -/
structure WG (x : R (Fl × List D)) (Q : Fl → List D → Prop) : Prop where
  h : ∃ f ds, x = .ok (f, ds) ∧ Q f ds
variable {Q : Fl → List D → Prop} {ρ : Env} {ds : List D}
end DL
namespace DL
open PySem PySem.Spec PyProof.Rows L2
/-! ### rows with one room from each list that fill a mask -/
def walkM : List (List (List Int)) → Nat → List (List (List Int))
  | [], u => if u = 0 then [[]] else []
  | Q :: B, u => Q.flatMap fun r => if u &&& maskP r = maskP r then (walkM B (u ^^^ maskP r)).map (r :: ·) else []
theorem sub_bits (u m : Nat) : u &&& m = m ↔ ∀ i, m.testBit i = true → u.testBit i = true := by
  constructor
  · intro h i hi
    rw [← h, Nat.testBit_and, Bool.and_eq_true] at hi
    exact hi.1
  · intro h
    refine Nat.eq_of_testBit_eq fun i => ?_
    have := h i
    rw [Nat.testBit_and]
    revert this
    cases u.testBit i <;> cases m.testBit i <;> simp
/-! #### each place once -/
theorem once (p : Nat) : ∀ {B : List (List (List Int))} {u : Nat}, (∀ Q ∈ B, ∀ r ∈ Q, ∀ x ∈ r, 0 ≤ x) → ∀ row ∈ walkM B u, (row.map fun r => if (p : Int) ∈ r then 1 else 0).sum = if u.testBit p then 1 else 0
  | [], u, _, row, h => by
    unfold walkM at h
    split at h
    · rename_i e
      rw [List.mem_singleton.mp h, e, Nat.zero_testBit]
      rfl
    · cases h
  | Q :: B, u, hB, row, h => by
    unfold walkM at h
    obtain ⟨r, hr, h⟩ := List.mem_flatMap.mp h
    split at h
    · rename_i hs
      obtain ⟨v, hv, rfl⟩ := List.mem_map.mp h
      have ih := once p (fun R hR => hB R (List.mem_cons_of_mem _ hR)) v hv
      rw [List.map_cons, List.sum_cons, ih, Nat.testBit_xor, mask_bit r (hB Q List.mem_cons_self r hr) p]
      have hs := (sub_bits _ _).mp hs p
      rw [mask_bit r (hB Q List.mem_cons_self r hr) p] at hs
      by_cases e : (p : Int) ∈ r
      · rw [hs (decide_eq_true e), if_pos e, decide_eq_true e]
        rfl
      · rw [if_neg e, decide_eq_false e, Bool.xor_false, Nat.zero_add]
    · cases h
/-- lists of rooms of these sizes -/
def LsR (n : Nat) : List Nat → List (List (List Int)) → Prop
  | [], [] => True
  | s :: L, Q :: B => (∀ r ∈ Q, RoomR n s r) ∧ LsR n L B
  | _, _ => False
theorem LsR.len {n : Nat} : ∀ {L : List Nat} {B : List (List (List Int))}, LsR n L B → B.length = L.length
  | [], [], _ => rfl
  | [], _ :: _, h => h.elim
  | _ :: _, [], h => h.elim
  | s :: L, Q :: B, h => by rw [List.length_cons, List.length_cons, LsR.len h.2]
theorem LsR.of {n : Nat} : ∀ {L : List Nat} {B : List (List (List Int))}, B.length = L.length → (∀ k < L.length, ∀ r ∈ B.getD k [], RoomR n (L.getD k 0) r) → LsR n L B
  | [], [], _, _ => trivial
  | [], _ :: _, h, _ => by simp at h
  | _ :: _, [], h, _ => by simp at h
  | s :: L, Q :: B, h, hk => ⟨hk 0 (by simp), LsR.of (by simpa using h) fun k hl => by
      have := hk (k + 1) (by simpa using hl)
      simpa only [List.getD_cons_succ] using this⟩
theorem LsR.at {n : Nat} : ∀ {L : List Nat} {B : List (List (List Int))}, LsR n L B → ∀ k < L.length, ∀ r ∈ B.getD k [], RoomR n (L.getD k 0) r
  | [], [], _, k, hk => absurd hk (Nat.not_lt_zero k)
  | [], _ :: _, h, _, _ => h.elim
  | _ :: _, [], h, _, _ => h.elim
  | s :: L, Q :: B, h, 0, _ => h.1
  | s :: L, Q :: B, h, k + 1, hk => by
    simp only [List.getD_cons_succ]
    exact LsR.at h.2 k (by simpa using hk)
theorem LsR.nn {n : Nat} : ∀ {L : List Nat} {B : List (List (List Int))}, LsR n L B → ∀ Q ∈ B, ∀ r ∈ Q, ∀ x ∈ r, 0 ≤ x ∧ x < n
  | [], [], _, Q, hQ => by cases hQ
  | [], _ :: _, h, _, _ => h.elim
  | _ :: _, [], h, _, _ => h.elim
  | s :: L, P :: B, h, Q, hQ => by
    rcases List.mem_cons.mp hQ with rfl | hQ
    · exact fun r hr => (h.1 r hr).2.2
    · exact LsR.nn h.2 Q hQ
end DL
namespace DL
open PySem PySem.Spec PyProof.Rows L2
end DL
namespace DL
open PySem PySem.Spec PyProof.Rows L2
theorem pys_intsR : ∀ r : List Int, D.pys (r.map D.int) = r.map PyData.int
  | [] => by simp [D.pys]
  | x :: r => by
    rw [List.map_cons, D.pys, pys_intsR r, List.map_cons, D.py]
def rowY (r : List Int) : PyData := .tuple (r.map .int)
theorem row_pyR (r : List Int) : (rowD r).py = rowY r := by
  simp only [rowD, D.py, rowY]
  rw [pys_intsR]
theorem alike_intsR : ∀ xs ys : List Int, PySem.W.alikeAll (xs.map PyData.int) (ys.map PyData.int) = true
  | [], ys => by cases ys <;> simp [PySem.W.alikeAll]
  | x :: xs, [] => by simp [PySem.W.alikeAll]
  | x :: xs, y :: ys => by simp [PySem.W.alikeAll, PySem.W.alike, alike_intsR xs ys]
theorem alike_rowR (r q : List Int) : PySem.W.alike (rowY r) (rowY q) = true := by
  unfold rowY
  rw [PySem.W.alike]
  exact alike_intsR r q
theorem lexL_ltR : ∀ xs ys : List Int, lexL xs ys = true → xs < ys
  | [], [], h => by cases h
  | [], y :: ys, _ => by simp
  | x :: xs, [], h => by cases h
  | x :: xs, y :: ys, h => by
    unfold lexL at h
    by_cases e : x = y
    · subst e
      rw [if_pos rfl] at h
      have := lexL_ltR xs ys h
      simpa using this
    · rw [if_neg e] at h
      have := of_decide_eq_true h
      rw [List.cons_lt_cons_iff]
      exact .inl this
theorem lt_rowY {r q : List Int} (h : lexL r q = true) : PySem.W.dataLt (rowY r) (rowY q) = true := by
  unfold rowY
  rw [PySem.W.dataLt_tuple]
  have := PySem.W.dataLt_ints r q
  unfold PySem.W.rowLt at this
  rw [this]
  exact decide_eq_true (lexL_ltR _ _ h)
/-- one row before the other -/
def RLt (a b : List (List Int)) : Prop := PySem.W.rowLt (a.map rowY) (b.map rowY) = true
theorem RLt.head {r q : List Int} (h : lexL r q = true) (a b : List (List Int)) : RLt (r :: a) (q :: b) := by
  unfold RLt PySem.W.rowLt
  rw [List.map_cons, List.map_cons, PySem.W.dataLt_cons (alike_rowR r q)]
  have h1 := lt_rowY h
  by_cases e : PyData.eqv (rowY r) (rowY q) = true
  · have h2 := (PySem.W.toks_eqv _ _ (alike_rowR r q)).1 e
    unfold PySem.W.dataLt at h1
    rw [h2, PyProof.Rows.lex_irrefl (O := PyProof.Rows.itemOrd)] at h1
    cases h1
  · rw [if_neg e]
    exact h1
theorem RLt.tail (r : List Int) {a b : List (List Int)} (h : RLt a b) : RLt (r :: a) (r :: b) := by
  unfold RLt PySem.W.rowLt at *
  rw [List.map_cons, List.map_cons, PySem.W.dataLt_cons (alike_rowR r r)]
  have e : PyData.eqv (rowY r) (rowY r) = true := by
    have := eqv_rowD r r
    rw [row_pyR] at this
    rw [this]
    exact decide_eq_true rfl
  rw [if_pos e]
  exact h
def leB (a b : D) : Bool := !PySem.W.dataLt b.py a.py
theorem leB_tr (a b c : D) (h1 : leB a b = true) (h2 : leB b c = true) : leB a c = true := by
  unfold leB PySem.W.dataLt at *
  rw [Bool.not_eq_true'] at *
  cases e : PyProof.Rows.lexLt PyProof.Rows.itemOrd (PySem.W.keyToks c.py) (PySem.W.keyToks a.py) with
  | false => rfl
  | true =>
    rcases PyProof.Rows.lex_negTrans (O := PyProof.Rows.itemOrd) _ (PySem.W.keyToks b.py) _ e with h | h
    · rw [h] at h2
      cases h2
    · rw [h] at h1
      cases h1
theorem lt_asymD {a b : D} (h : PySem.W.dataLt a.py b.py = true) : PySem.W.dataLt b.py a.py = false := by
  unfold PySem.W.dataLt at *
  cases e : PyProof.Rows.lexLt PyProof.Rows.itemOrd (PySem.W.keyToks b.py) (PySem.W.keyToks a.py) with
  | false => rfl
  | true =>
    have := PyProof.Rows.lex_trans (O := PyProof.Rows.itemOrd) _ _ _ h e
    rw [PyProof.Rows.lex_irrefl] at this
    cases this
theorem leB_tot (a b : D) : (leB a b || leB b a) = true := by
  unfold leB
  cases h : PySem.W.dataLt b.py a.py with
  | false => rfl
  | true =>
    rw [lt_asymD h]
    rfl
theorem pw_mem {α : Type} {R : α → α → Prop} : ∀ {l : List α}, l.Pairwise R → ∀ {a b : α}, a ∈ l → b ∈ l → a = b ∨ R a b ∨ R b a
  | x :: l, h, a, b, ha, hb => by
    obtain ⟨h1, h2⟩ := List.pairwise_cons.mp h
    rcases List.mem_cons.mp ha with ea | ha <;> rcases List.mem_cons.mp hb with eb | hb
    · exact .inl (ea.trans eb.symm)
    · exact .inr (.inl (ea ▸ h1 b hb))
    · exact .inr (.inr (eb ▸ h1 a ha))
    · exact pw_mem h2 ha hb
/-- sorted data of one strict order -/
theorem sort_by {α : Type} (f : α → D) {X T : List α} (hp : X.Perm T) (ha : T.Pairwise fun a b => PySem.W.dataLt (f a).py (f b).py = true) : sortG (X.map f) = T.map f := by
  show (X.map f).mergeSort leB = _
  refine List.Perm.eq_of_pairwise (le := fun a b => leB a b = true) (fun a b h1 h2 h3 h4 => ?_) (List.pairwise_mergeSort leB_tr leB_tot _) ?_ ((List.mergeSort_perm _ _).trans (hp.map _))
  · obtain ⟨p, hp1, rfl⟩ := List.mem_map.mp (List.mem_mergeSort.mp h1)
    obtain ⟨q, hq1, rfl⟩ := List.mem_map.mp h2
    have hp1 := hp.mem_iff.mp hp1
    rcases pw_mem ha hp1 hq1 with rfl | e | e
    · rfl
    · unfold leB at h4
      rw [e] at h4
      cases h4
    · unfold leB at h3
      rw [e] at h3
      cases h3
  · rw [List.pairwise_map]
    refine ha.imp fun {p q} h => ?_
    unfold leB
    rw [lt_asymD h]
    rfl
end DL
namespace DL
open PySem PySem.Spec PyProof.Rows L2
/-! ### a def that changes its first argument, a list, in place -/
inductive Fp
  | nx (ρ : Env)
  | rt (d : D) (ρ : Env)
def OutP (K : PySem.W.Frag) (mg : Gm) (E : XK) (M : List Nat) (p : Addr) (Ie : Hp × Addr) (He I0 : Hp) (D0 : Ends) (r : R Fp) : Prop := match r with
  | .ok (.nx ρ) => ∀ σ I H, SE K mg M Ie He σ I H ρ → σ[0]? = some (some (V.ref p)) → Same I0 I → D0.nx σ H
  | .ok (.rt d ρ) => ∀ v σ I H, SE K mg M Ie He σ I H ρ → σ[0]? = some (some (V.ref p)) → Same I0 I → Rep K mg I v d → D0.rt v H
  | .err nm ds => ∀ C od I H, Stp Ie.1 He I H → XRep K mg I H nm ds C od → E C od H
  | .stuck => False
def SnP (K : PySem.W.Frag) (mg : Gm) (E : XK) (M : List Nat) (ts : TS) (ms : Env → R Fp) : Prop :=
  ∀ (p : Addr) (Ie : Hp × Addr) (He : Hp) (σ : L2.St) (I H : Hp) (ρ : Env) (D0 : Ends), SE K mg M Ie He σ I H ρ → σ[0]? = some (some (V.ref p)) → OutP K mg E M p Ie He I D0 (ms ρ) → ts D0 σ H
structure MP (X : Cx) (E : XK) (M : List Nat) (s : Stmt) (ts : TS) (ms : Env → R Fp) : Prop where
  pe : PS X s ts
  sn : SnP X.K (g0 X.mg) E M ts ms
structure MPs (X : Cx) (E : XK) (M : List Nat) (s : List Stmt) (ts : TS) (ms : Env → R Fp) : Prop where
  pe : PSs X s ts
  sn : SnP X.K (g0 X.mg) E M ts ms
section
variable {K : PySem.W.Frag} {mg : Gm} {E : XK} {M : List Nat} {p : Addr} {Ie : Hp × Addr} {He I I0 H : Hp} {σ : L2.St} {ρ : Env} {D0 : Ends}
theorem OutP.mono {I1 : Hp} {r : R Fp} (k : Same I0 I1) (h : OutP K mg E M p Ie He I0 D0 r) : OutP K mg E M p Ie He I1 D0 r := by
  cases r with
  | ok f =>
    cases f with
    | nx ρ => exact fun σ I H s hp e => h σ I H s hp (k.trans e)
    | rt d ρ => exact fun v σ I H s hp e => h v σ I H s hp (k.trans e)
  | err _ _ => exact h
  | stuck => exact h
end
section
variable {X : Cx} {E : XK} {M : List Nat} {s : Stmt} {ss : List Stmt} {t u : TS} {ms mr : Env → R Fp} {e c k : Expr} {te tk : TE} {m mk : Env → R D} {pos : Pos} {x : Str} {tt : TT} {mt : Env → R Bool}
end
/-! ### the def -/
def endP : Fp → R (D × List D)
  | .rt d ρ => match (ρ : List (Option D))[0]? with
    | some (some (D.lst fs)) => .ok (d, fs)
    | _ => .stuck
  | .nx ρ => match (ρ : List (Option D))[0]? with
    | some (some (D.lst fs)) => .ok (.non, fs)
    | _ => .stuck
def runP (n : Nat) (ms : Env → R Fp) : List D → R (D × List D)
  | .lst ds :: es => ms (some (.lst ds) :: startE (n - 1) es) >>= endP
  | _ => .stuck
def spP (K : PySem.W.Frag) (mg : Str → Option Value) (n : Nat) (g : List D → R (D × List D)) : Sp := fun vs H Q E => ∃ (I H0 : Hp) (p : Addr) (us ws : List V) (ds es : List D), vs = .ref p :: ws ∧ es.length = n ∧ H0 p = none ∧ H = upd H0 p (.lst us) ∧ Same I H0 ∧ Reps K (g0 mg) I us ds ∧ Reps K (g0 mg) I ws es ∧
  match g (.lst ds :: es) with
  | .ok (d, fs) => ∀ v us' I' H', Stp I H0 I' H' → I' p = none → H' p = some (.lst us') → Reps K (g0 mg) I' us' fs → Rep K (g0 mg) I' v d → Q v H'
  | .err nm xs => ∀ C od I' H', Stp I H0 I' H' → XRep K (g0 mg) I' H' nm xs C od → E C od H'
  | .stuck => False
theorem start_SEP {K : PySem.W.Frag} {mg : Gm} {M : List Nat} {I H0 : Hp} {N : List Str} {us ws : List V} {ds es : List D} {p : Addr} (ex : Same I H0) (ru : Reps K mg I us ds) (rs : Reps K mg I ws es) (hM : ∀ i ∈ M, i = 0 ∨ es.length + 1 ≤ i) (h0 : 0 ∈ M) (hD0 : deep M 0 = false) (n1 : H0 p = none) :
    SE K mg M (I, 0) H0 (start N (.ref p :: ws)) I (upd H0 p (.lst us)) (some (.lst ds) :: startE (N.length - 1) es) := by
  have k : Same H0 (upd H0 p (.lst us)) := fun b o hb => by
    rw [upd_ne (fun z => by subst z; rw [n1] at hb; cases hb)]
    exact hb
  have own0 : ∀ (i : Nat) (d : D), i ∈ M → (some (D.lst ds) :: startE (N.length - 1) es)[i]? = some (some d) → i = 0 ∧ d = .lst ds := fun i d hi q => by
    cases i with
    | zero =>
      cases q
      exact ⟨rfl, rfl⟩
    | succ j =>
      have := (startE_get (show (startE (N.length - 1) es)[j]? = some (some d) from q)).1
      rcases hM _ hi with z | z
      · cases z
      · omega
  have s0 : (start N (V.ref p :: ws))[0]? = some (some (.ref p)) := start_at rfl
  refine ⟨⟨.refl _, k, ex.trans k, fun _ _ z => .inl z⟩, ?_, fun i d hi q => ?_, fun i d hi q => ?_, fun i j p1 p9 d e hi hj hne q1 q2 => ?_, fun i d p1 hi q g hk => ?_⟩
  · unfold L2.start startE
    rw [List.length_append, List.length_map, List.length_replicate, List.length_cons, List.length_cons, List.length_append, List.length_map, List.length_replicate, rs.len]
    omega
  · cases i with
    | zero => exact absurd h0 hi
    | succ j =>
      obtain ⟨_, hd⟩ := startE_get (show (startE (N.length - 1) es)[j]? = some (some d) from q)
      obtain ⟨v, hv, r⟩ := rs.get hd
      exact ⟨v, start_at hv, r⟩
  · obtain ⟨rfl, rfl⟩ := own0 i d hi q
    exact ⟨p, _, s0, ex.free n1, n1, upd_same, .mk (OwnR.lst ru) hD0⟩
  · obtain ⟨rfl, _⟩ := own0 i d hi q1
    obtain ⟨rfl, _⟩ := own0 j e hj q2
    exact absurd rfl hne
  · obtain ⟨_, rfl⟩ := own0 i d hi q
    cases hk
theorem fn_mirP {P : Program} {w : World} {K : PySem.W.Frag} {mg : Str → Option Value} {base : Heap} {x qual : Str} {st : Stmt} {f : Addr} {fd : FuncData} {N ps : List Str} {k n : Nat} {M : List Nat} {ms : Env → R Fp} (F : Fun K x qual st f fd) (S : FnScope N ps (defScope st)) (hp : ps.length = n + 1) (hM : ∀ i ∈ M, i = 0 ∨ n + 1 ≤ i) (h0 : 0 ∈ M) (hD0 : deep M 0 = false)
    (hb : ∀ (cdv : Value) (A : Around) (outer : List PySem.Env) (s : Shared) (H : Hp) (E : XK), Room k (A.deeper (PyProof.Rows.envOfC qual (defScope st) s.heap.objs.size f cdv)) →
      ∃ ts, MPs (cxOf (L2N.CX P w) P w K mg base N qual (defScope st) f cdv A outer s H E) E M (defBody st) ts ms) : FnOk P w K mg base (L2N.CX P w) (k + 1) f fd ps (spP K mg n (runP N.length ms)) := by
  refine okXN F S (fun vs H Q E h => ?_) (fun cdv A outer s H vs Q E hr h => ?_)
  · obtain ⟨I, H0, p, us, ws, ds, es, rfl, hl, _, _, _, _, rs, _⟩ := h
    rw [hp, List.length_cons, rs.len, hl]
  · obtain ⟨I, H0, p, us, ws, ds, es, rfl, hl, n1, rfl, ex, ru, rs, h⟩ := h
    obtain ⟨ts, hq⟩ := hb cdv A outer s _ E hr
    refine ⟨ts, hq.pe, hq.sn p (I, 0) H0 _ I _ _ _ (start_SEP ex ru rs (by rw [hl]; exact hM) h0 hD0 n1) (start_at rfl) ?_⟩
    unfold runP at h
    have fin : ∀ (σ : L2.St) (I1 H1 : Hp) (ρ : Env) (fs : List D), SE K (g0 mg) M (I, 0) H0 σ I1 H1 ρ → σ[0]? = some (some (V.ref p)) → (ρ : List (Option D))[0]? = some (some (D.lst fs)) → ∃ us', I1 p = none ∧ H1 p = some (.lst us') ∧ Reps K (g0 mg) I1 us' fs := fun σ I1 H1 ρ fs s1 hp1 q => by
      obtain ⟨p', vs, ds', e1, h2, h3, h4, h5, h6⟩ := s1.ownL 0 _ h0 hD0 q
      cases e1
      rw [hp1] at h2
      cases h2
      exact ⟨vs, h3, h5, h6⟩
    cases e : ms (some (.lst ds) :: startE (N.length - 1) es) with
    | err em xs =>
      simp only [e] at h
      exact h
    | stuck =>
      simp only [e] at h
      exact h.elim
    | ok fl =>
      simp only [e] at h
      cases fl with
      | nx ρ =>
        intro σ I1 H1 s1 hp1 _
        cases q : (ρ : List (Option D))[0]? with
        | none =>
          have : endP (.nx ρ) = .stuck := by simp only [endP, q]
          rw [show (DL.R.ok (Fp.nx ρ) >>= endP) = endP (.nx ρ) from rfl, this] at h
          exact h.elim
        | some o =>
          cases o with
          | none =>
            have : endP (.nx ρ) = .stuck := by simp only [endP, q]
            rw [show (DL.R.ok (Fp.nx ρ) >>= endP) = endP (.nx ρ) from rfl, this] at h
            exact h.elim
          | some d0 =>
            cases d0 with
            | lst fs =>
              have : endP (.nx ρ) = .ok (.non, fs) := by simp only [endP, q]
              rw [show (DL.R.ok (Fp.nx ρ) >>= endP) = endP (.nx ρ) from rfl, this] at h
              obtain ⟨us', k1, k2, k3⟩ := fin σ I1 H1 ρ fs s1 hp1 q
              exact h .non us' I1 H1 s1.st k1 k2 k3 .non
            | _ =>
              have : endP (.nx ρ) = .stuck := by simp only [endP, q]
              rw [show (DL.R.ok (Fp.nx ρ) >>= endP) = endP (.nx ρ) from rfl, this] at h
              exact h.elim
      | rt d ρ =>
        intro v σ I1 H1 s1 hp1 _ rv
        cases q : (ρ : List (Option D))[0]? with
        | none =>
          have : endP (.rt d ρ) = .stuck := by simp only [endP, q]
          rw [show (DL.R.ok (Fp.rt d ρ) >>= endP) = endP (.rt d ρ) from rfl, this] at h
          exact h.elim
        | some o =>
          cases o with
          | none =>
            have : endP (.rt d ρ) = .stuck := by simp only [endP, q]
            rw [show (DL.R.ok (Fp.rt d ρ) >>= endP) = endP (.rt d ρ) from rfl, this] at h
            exact h.elim
          | some d0 =>
            cases d0 with
            | lst fs =>
              have : endP (.rt d ρ) = .ok (d, fs) := by simp only [endP, q]
              rw [show (DL.R.ok (Fp.rt d ρ) >>= endP) = endP (.rt d ρ) from rfl, this] at h
              obtain ⟨us', k1, k2, k3⟩ := fin σ I1 H1 ρ fs s1 hp1 q
              exact h v us' I1 H1 s1.st k1 k2 k3 rv
            | _ =>
              have : endP (.rt d ρ) = .stuck := by simp only [endP, q]
              rw [show (DL.R.ok (Fp.rt d ρ) >>= endP) = endP (.rt d ρ) from rfl, this] at h
              exact h.elim
/-- such a def by its name -/
structure KnP (P : Program) (w : World) (K : PySem.W.Frag) (mg : Str → Option Value) (base : Heap) (x : Str) (k n : Nat) (g : List D → R (D × List D)) : Prop where
  ex : ∃ f fd ps, FnOk P w K mg base (L2N.CX P w) k f fd ps (spP K mg n g) ∧ mg x = some (.ref f) ∧ PySem.W.keepIn K (.ref f) = true ∧ Binds K fd ps []
theorem KnP.mk' {P : Program} {w : World} {K : PySem.W.Frag} {mg : Str → Option Value} {base : Heap} {x : Str} {st : Stmt} {N ps : List Str} {k n : Nat} {M : List Nat} {ms : Env → R Fp} (F : FnAt K mg x st ps) (S : FnScope N ps (defScope st)) (hp : ps.length = n + 1) (hM : ∀ i ∈ M, i = 0 ∨ n + 1 ≤ i) (h0 : 0 ∈ M) (hD0 : deep M 0 = false)
    (hb : ∀ (f : Addr) (cdv : Value) (A : Around) (outer : List PySem.Env) (s : Shared) (H : Hp) (E : XK), Room k (A.deeper (PyProof.Rows.envOfC x (defScope st) s.heap.objs.size f cdv)) →
      ∃ ts, MPs (cxOf (L2N.CX P w) P w K mg base N x (defScope st) f cdv A outer s H E) E M (defBody st) ts ms) : KnP P w K mg base x (k + 1) n (runP N.length ms) := by
  obtain ⟨f, fd, F, g, b⟩ := F.ex
  exact ⟨f, fd, ps, fn_mirP F S hp hM h0 hD0 (hb f), g, F.kp, b⟩
end DL
namespace DL
open PySem PySem.Spec PyProof.Rows L2
/-! ### sorted(xs), xs a list of lists that are alike -/
def okH (ds : List D) : Bool := ds.all fun d => d.fine 60 && (match d with | .lst _ => true | _ => false) && ds.all fun e => PySem.W.alike d.py e.py
def sortedH : List D → R D
  | [.lst ds] => if okH ds = true then .ok (.lst (sortG ds)) else .stuck
  | _ => .stuck
theorem rSortedH_of {K : PySem.W.Frag} {mg : Gm} {I H : Hp} {a : Addr} {vs : List V} {es : List D} {Q : VK} (ex : Same I H) (hh : H a = some (.lst vs)) (ra : Reps K mg I vs es) (ho : okH es = true) (fin : ∀ (p : Addr) (zs : List V), H p = none → Reps K mg I zs (sortG es) → Q (.ref p) (upd H p (.lst zs))) : rSortedG K [.ref a] H Q := by
  obtain ⟨z1, z2, z3⟩ := ra.zip
  have hall := List.all_eq_true.mp ho
  have hok : ∀ d ∈ es, d.fine 60 = true ∧ (∃ l, d = .lst l) ∧ ∀ e ∈ es, PySem.W.alike d.py e.py = true := fun d hd => by
    have h1 := hall d hd
    rw [Bool.and_eq_true, Bool.and_eq_true] at h1
    refine ⟨h1.1.1, ?_, fun e he => List.all_eq_true.mp h1.2 e he⟩
    have h2 := h1.1.2
    cases d with
    | lst l => exact ⟨l, rfl⟩
    | _ => cases h2
  have hmem : ∀ b ∈ vs.zip es, b.2 ∈ es := fun b hb => by
    rw [← z2]
    exact List.mem_map_of_mem hb
  have hs : (vs.zip es).map (fun b => b.2.py) = es.map D.py := by
    conv => rhs; rw [← z2]
    rw [List.map_map]
    rfl
  have hm : ((vs.zip es).mergeSort (PySem.W.dataLe false fun b => b.2.py)).map (·.2) = sortG es := by
    unfold sortG
    conv => rhs; rw [← z2]
    refine PySem.W.sort_maps (fun b : V × D => b.2) fun x _ y _ => ?_
    rw [PySem.W.dataLe_eq]
    rfl
  refine ⟨a, vs.zip es, rfl, by rw [z1]; exact SqL.of hh, fun b hb => ((z3 b hb).mono ex).dp 60 (hok _ (hmem b hb)).1, ?_, ?_, fun b hb => (D.fine_lay 60 _ (hok _ (hmem b hb)).1).2, fun p hp => ?_⟩
  · rw [hs]
    intro x hx y hy
    obtain ⟨d, hd, rfl⟩ := List.mem_map.mp hx
    obtain ⟨e, he, rfl⟩ := List.mem_map.mp hy
    exact (hok d hd).2.2 e he
  · rw [hs]
    refine .inr fun x hx => ?_
    obtain ⟨d, hd, rfl⟩ := List.mem_map.mp hx
    obtain ⟨_, ⟨l, rfl⟩, _⟩ := hok d hd
    simp only [D.py]
    exact ⟨by simp, by simp⟩
  · have hr := reps_zip (K := K) (mg := mg) (I := I) (bs := (vs.zip es).mergeSort (PySem.W.dataLe false fun b => b.2.py)) fun b hb => z3 b (List.mem_mergeSort.mp hb)
    rw [hm] at hr
    exact fin p _ hp hr
theorem cs_sortedH {K : PySem.W.Frag} {mg : Gm} : CSn K mg (rSortedG K) sortedH := by
  intro xs I H ds d Q ex rs h q
  unfold sortedH at h
  split at h
  · rename_i es
    by_cases ho : okH es = true
    · rw [if_pos ho] at h
      cases h
      obtain ⟨v, rfl, r⟩ := reps1 rs
      cases r with
      | @lst a vs _ hh ra => exact rSortedH_of ex (ex _ _ hh) ra ho fun p zs hp r => q _ _ _ (.new ex hp) (new_lst ex hp r)
    · rw [if_neg ho] at h
      cases h
  · cases h
/-! ### x = [.. for k in d ..], d a dict that is data -/
section
variable {X : Cx} {E : XK} {Mb M : List Nat} {elt tg : Expr} {ifs : List Expr} {scope : Scope} {own : List (Str × Nat)} {pos p spos py : Pos} {g : TG} {tt : TT} {te : TE} {ag : D → R As} {mt : Env → R Bool} {me : Env → R D} {x y : Str}
end
end DL
namespace PySem
open Sem (wp)
section
variable {M : Model} {A : Around} {E : Value → Shared → Prop} {s : Shared} {env : Env}
/-- a built-in class called with keywords -/
theorem dl_callWith_typeKw {pos : Pos} {T : String} {e : Expr} {rest : List Expr} {kws : List Keyword} {Q : Value → Shared → Prop}
    (h : wpAny M A (spliced (backTo pos (starEach (e :: rest) env))) (fun vs s₁ => wpAny M A (evalAll ((backToKw pos (keywordEach kws env)).map (·.2)))
      (fun kvs s₂ => wpAny M A (call (.type T) vs (((backToKw pos (keywordEach kws env)).filterMap (·.1)).zip kvs)) Q E s₂) E s₁) E s)
    (he : backTo pos (starEach (e :: rest) env) = (false, eval e env) :: backTo pos (starEach rest env) := by rfl)
    (hplain : (backTo pos (starEach (e :: rest) env)).any (·.1) = false := by rfl)
    (hall : (backToKw pos (keywordEach kws env)).all (·.1.isSome) = true := by rfl)
    (hkw : (backToKw pos (keywordEach kws env)).any (·.1.isNone) = false := by rfl) :
    wpAny M A (callWith pos (.type T) [] (backTo pos (starEach (e :: rest) env)) (backToKw pos (keywordEach kws env))) Q E s := by
  have h2 : wpAny M A (evalArgs (.type T) true (backTo pos (starEach (e :: rest) env)) (backToKw pos (keywordEach kws env))) (fun a s₁ => wpAny M A (call (.type T) ([] ++ a.pos) a.kw) Q E s₁) E s := by
    rw [he] at h ⊢
    exact PyProof.Rows.evalArgs_kwB hall h
  unfold callWith
  refine wpAny_bind (wpAny_holding (wpAny_mono h2 (fun a s₁ h₁ => wpAny_bind (wpAny_standAt ?_)) fun _ _ x => x))
  simp only [hplain, hkw, Bool.or_false]
  refine wpAny_bind (wpAny_pure ?_)
  exact wpAny_bind (wpAny_mono h₁ (fun r s₂ hr => wpAny_bind (wpAny_holding (wpAny_point (wpAny_pure hr)))) fun _ _ x => x)
/-- the same items, counted from k0 -/
theorem dl_draws_from {prog : Program} {w : World} {it : Addr} {fp : List Addr} {n : Nat} {P : Nat → Value → Prop} {St : Nat → Heap → Prop} (D : Draws prog w A it fp n P St) (k0 : Nat) :
    Draws prog w A it fp (n + k0) (fun j v => P (j - k0) v) (fun j h => k0 ≤ j ∧ St (j - k0) h) where
  live := fun i h st => D.live _ _ st.2
  frame := fun i h h' st hk => ⟨st.1, D.frame _ _ _ st.2 hk⟩
  item := fun i s Q E hi st hQ => D.item (i - k0) s Q E (by have := st.1; omega) st.2 fun x h' tk hp hs hb => hQ x h' tk hp ⟨by have := st.1; omega, by rw [show i + 1 - k0 = i - k0 + 1 from by have := st.1; omega]; exact hs⟩ hb
  done := fun s Q E st h => D.done s Q E (by have := st.2; rwa [Nat.add_sub_cancel] at this) h
end
theorem dl_enum_endL {prog : Program} {w : World} {A : Around} {E : Value → Shared → Prop} {s : Shared} {e it t : Addr} {items : Array Value} {i : Nat} {k : Int} {old : Value} {Q : Option Value → Shared → Prop}
    (hh : A.in1.handled = none) (he : IsEnum s.heap e it k old) (hit : s.heap.IsListIter it t i) (ht : s.heap.IsList t items) (hx : items[i]? = none)
    (hQ : ∀ h', Heap.ExtBut it s.heap h' → Q none { s with heap := h' }) : wpAny (model prog w) A (pyNext (.ref e)) Q E s := by
  have hT : s.TypeIs (.ref e) "enumerate" := ⟨_, he, rfl⟩
  unfold pyNext
  refine wpAny_bind (wpAny_attempt (wpAny_callSpecial?_slot (name := Str.ofString "__next__") hT F.slot_enumerate_next
    (wpAny_call_entry F.slot_enumerate_next hT F.entry_enumerate_next ?_ (F.args_enumerate_next_1 _))))
  show wpAny _ _ (field (.ref e) 2 >>= _) _ _ _
  refine wpAny_bind (wpAny_field he rfl (x := .ref it) rfl ?_)
  refine wpAny_bind (wpAny_nextOf_list_end hh hit ht hx fun h' x he' hx' => ?_)
  obtain ⟨o, ho, hc⟩ := hx'
  refine wpAny_bind (wpAny_isInstance (T := "StopIteration") (b := true) ⟨o, ho, hc⟩ isSubtype_stop ?_)
  exact wpAny_pure (hQ _ he')
end PySem
namespace DL
open PySem PySem.Spec PyProof.Rows L2
/-! ### enumerate(xs, start=k0) -/
/-- the list at a, each item in a new pair, counted from k0 -/
def IteK (K : PySem.W.Frag) (a : Addr) (k0 : Nat) : It :=
  ⟨fun i H => ∃ (xs : List V) (x : V), SqL K H a xs ∧ xs[i]? = some x, fun i H v H' => ∃ T x, v = .ref T ∧ H T = none ∧ H' = upd H T (.tup [.int ((k0 + i : Nat) : Int), x]) ∧ ∀ xs, SqL K H a xs → xs[i]? = some x, fun i H => ∃ xs : List V, SqL K H a xs ∧ xs.length ≤ i⟩
theorem turn_enumK {P : Program} {w : World} {K : PySem.W.Frag} {elts : List Expr} {kk : Nat} {tpos : Pos} (a e it : Addr) (k0 : Nat) :
    Turn P w K (.Tuple elts kk tpos) (IteK K a k0) [e, it] e (fun i h => (∃ old, IsEnum h e it ((k0 + i : Nat) : Int) old) ∧ h.IsListIter it a i ∧ e ≠ it) where
  mem := by simp
  obj := fun i h st b hb => by
    obtain ⟨⟨old, he⟩, ⟨o, ho, hc, hd⟩, _⟩ := st
    have e' : b = e ∨ b = it := by simpa using hb
    rcases e' with z | z
    · rw [z]; exact ⟨_, he, fun v q => nomatch q⟩
    · rw [z]; exact ⟨o, ho, fun v q => by rw [hd] at q; cases q⟩
  keep := fun i h h' st k => let ⟨⟨old, he⟩, hi, hne⟩ := st; ⟨⟨old, k e (by simp) _ he⟩, hi.at fun o q => k it (by simp) o q, hne⟩
  item := by
    intro X hP hw hK hc i pins s σ H E I hf st hg
    subst hP hw hK
    obtain ⟨⟨old, he⟩, hit, hne⟩ := st
    obtain ⟨xs, x, hq, hx⟩ := hg
    obtain ⟨its, rv, pl, hz⟩ := I.list hq
    have p : s.heap.IsList a its.toArray := let ⟨o, n, ho, hc, _, hd⟩ := pl; ⟨o, ho, hc, n, hd⟩
    obtain ⟨u, hu, ru⟩ := rv.get hx
    have hel : e < s.heap.objs.size := Heap.lt_size he
    have hil : it < s.heap.objs.size := by obtain ⟨_, q, _⟩ := hit; exact Heap.lt_size q
    have hea : e ≠ a := fun z => by
      obtain ⟨o, ho, hcl, _⟩ := p
      rw [← z] at ho
      cases he.symm.trans ho
      injection hcl with z
      exact absurd z (by decide)
    have hta : a ≠ it := fun z => by
      obtain ⟨o, ho, hcl, _⟩ := p
      obtain ⟨o', ho', hcl', _⟩ := hit
      rw [z] at ho
      cases ho.symm.trans ho'
      rw [hcl] at hcl'
      injection hcl' with z
      exact absurd z (by decide)
    have hlt : i < its.toArray.size := by
      have := (List.getElem?_eq_some_iff.mp hu).1
      simpa using this
    have hD := dl_draws_from (Draws.list (prog := X.prog) (w := X.w) (A := X.A.in1) (I.ok.hd hc) it a hta its.toArray) k0
    refine wpAny_pyNext_enum_itemD (i := k0 + i) hD he ⟨by omega, by rw [Nat.add_sub_cancel_left]; exact hit, p⟩ (by omega) hne (by simp [hne, hea]) fun x' h' tk hP ho hit' hT hsz hk => ?_
    have hxu : x' = u := by
      have hP : its.toArray[k0 + i - k0]? = some x' := hP
      rw [Nat.add_sub_cancel_left, List.getElem?_toArray, hu] at hP
      exact (Option.some.inj hP).symm
    subst hxu
    refine ⟨_, rfl, wpAny_letOwnedTupleGo_enum (s := { s with heap := h', toks := tk + 1 }) ho fun h'' he' sb => ?_⟩
    have hT2 : h''.get? s.heap.objs.size = some { cls := .type "tuple", data := .seq #[.int ((k0 + i : Nat) : Int) tk, x'] } := (sb.2 _ (Nat.ne_of_gt hel)).trans hT
    have new : ObjOk X.prog X.w (upd H s.heap.objs.size (.tup [.int ((k0 + i : Nat) : Int), x])) h'' s.heap.objs.size (.tup [.int ((k0 + i : Nat) : Int), x]) :=
      ⟨by show 2 ≤ sizeLine; decide, [.int ((k0 + i : Nat) : Int) tk, x'], .cons ⟨_, rfl⟩ (.cons ru .nil), ⟨_, hT2, rfl, _, rfl⟩⟩
    have I1 : Inv X pins σ (upd H s.heap.objs.size (.tup [.int ((k0 + i : Nat) : Int), x])) { s with heap := h'', toks := tk + 1 } :=
      I.turnedNew (ch := [e, it]) (fun b ob hb q => (sb.2 b (fun z => hb (by simp [z]))).trans (hk b ob (fun z => hb (by simp [z])) (fun z => hb (by simp [z])) q)) hf (Nat.le_refl _) new
    have hit2 := hit'.2
    rw [show k0 + i + 1 - k0 = i + 1 from by omega] at hit2
    refine ⟨.ref s.heap.objs.size, _, I1, rfl, ⟨_, x, rfl, I.hok.fresh (Nat.le_refl _), rfl, fun ys hy => by rw [I.list_inj hy hq]; exact hx⟩, ⟨⟨x', ?_⟩, hit2.1.at fun o q => (sb.2 it (Ne.symm hne)).trans q, hne⟩, fun b hb => ?_⟩
    · have e1 : ((k0 + (i + 1) : Nat) : Int) = ((k0 + i : Nat) : Int) + 1 := by omega
      rw [e1]; exact he'
    · have hb' : b < s.heap.objs.size := by
        have e' : b = e ∨ b = it := by simpa using hb
        rcases e' with z | z
        · rw [z]; exact hel
        · rw [z]; exact hil
      rw [upd_ne (Nat.ne_of_lt hb')]
      exact (hf b hb).1
  done := by
    intro X hP hw hK hc i pins s σ H E I hf st hg
    subst hP hw hK
    obtain ⟨⟨old, he⟩, hit, hne⟩ := st
    obtain ⟨xs, hq, hx⟩ := hg
    obtain ⟨its, rv, pl, hz⟩ := I.list hq
    have p : s.heap.IsList a its.toArray := let ⟨o, n, ho, hc, _, hd⟩ := pl; ⟨o, ho, hc, n, hd⟩
    obtain ⟨f0, f1, f2, f3, f4, f5⟩ := hf it (by simp)
    have hl := rv.length
    exact dl_enum_endL (I.ok.hd hc) he hit p (by simp; omega) fun h' eb => ⟨rfl, I.turned (t' := s.toks) (fun b o hb q => eb b o hb q) f0 f1 f3 f4 f5⟩
  self := fun A i s Q E st h => let ⟨⟨_, he⟩, _⟩ := st; wpAny_pyIter_enum he h
def iEnumK (K : PySem.W.Frag) (k0 : Nat) (ta : TA) : TI := fun σ H R => ta σ H fun vs H1 => ∃ a xs, vs = [.ref a] ∧ SqL K H1 a xs ∧ R (IteK K a k0) H1
theorem pi_enumK {X : Cx} {e : Expr} {ta : TA} {p p1 p2 pos tpos : Pos} {elts : List Expr} {kk j k0 : Nat} (hg : Gl X "enumerate") (hm : X.mg "enumerate" = none) (ha : PA X [e] ta) (hk : k0 < 1000000 := by decide) (hs : starEach [e] X.env = [(false, eval e X.env)] := by rfl) :
    PI X (.Tuple elts kk tpos) (.Call (.Name "enumerate" p) [e] [⟨some "start", .Constant (.int (k0 : Int)) j p1, p2⟩] pos) (iEnumK X.K k0 ta) := by
  refine ⟨fun pins s σ H R I h => ?_⟩
  refine wpAny_Call_Name_kw (ld_blt I hg hm boot_enumerate ?_)
  refine dl_callWith_typeKw (thn (ha.run pos pins s σ H _ I h) fun us s1 ⟨vs, H1, I1, r1, q1⟩ => ?_) (by rw [hs]; rfl) (by rw [hs]; rfl)
  obtain ⟨a, xs, ex, hq, q⟩ := q1
  subst ex
  cases r1 with
  | cons r rr =>
    cases rr
    cases r
    obtain ⟨its, rv, pl, hz⟩ := I1.list hq
    have p' : s1.heap.IsList a its.toArray := let ⟨o, n, ho, hc, _, hd⟩ := pl; ⟨o, ho, hc, n, hd⟩
    refine kws_cons ((pe_int (X := X) (i := (k0 : Int)) (j := j) (pos := p1)).run pins s1 σ H1 (fun v H => v = .int (k0 : Int) ∧ H = H1) I1 ⟨rfl, rfl⟩ |> fun z => thn z fun u s2 ⟨v, H2, I2, r2, e2, e3⟩ => kws_nil ?_)
    subst e2 e3
    obtain ⟨t, rfl⟩ := r2
    obtain ⟨its, rv, pl, hz⟩ := I2.list hq
    have p' : s2.heap.IsList a its.toArray := let ⟨o, n, ho, hc, _, hd⟩ := pl; ⟨o, ho, hc, n, hd⟩
    refine enum_begins_start (begins_list a its.toArray) p' (by omega) (by omega) fun h' he hit hsz hk => wpAny_pyIter_enum he ?_
    have I3 : L2.Inv X pins σ H2 { s2 with heap := h' } := I2.kept (t' := s2.toks) hk
    refine ⟨s2.heap.objs.size + 1, [s2.heap.objs.size + 1, s2.heap.objs.size], _, _, H2, rfl, I3, turn_enumK a (s2.heap.objs.size + 1) s2.heap.objs.size k0, ⟨⟨.none, he⟩, ⟨_, hit, rfl, rfl⟩, Nat.succ_ne_self _⟩, fun b hb => ?_, q⟩
    have e' : b = s2.heap.objs.size + 1 ∨ b = s2.heap.objs.size := by simpa using hb
    have hle : s2.heap.objs.size ≤ b := by
      rcases e' with z | z
      · rw [z]; exact Nat.le_add_right _ _
      · rw [z]; exact Nat.le_refl _
    exact I2.fpOk hle (I2.hok.fresh hle)
section
variable {X : Cx} {E : Wh} {K : PySem.W.Frag} {mg : Gm} {I I' H H' : Hp} {σ : L2.St} {ρ : Env} {a b c e tg : Expr} {es : List Expr} {pos p p1 p2 tpos : Pos} {m : Env → R D} {ms : Env → R (List D)} {t : TE} {tas : TA}
theorem it_enumK {a : Addr} {vs : List V} {ds : List D} (k0 : Nat) (h : SqL K I a vs) (r : Reps K mg I vs ds) : ItOk K mg I (IteK K a k0) (enumD k0 ds) := fun I1 H e1 e2 => ⟨fun i d hd => by
    obtain ⟨d', hd', rfl⟩ := enumD_get k0 ds i hd
    obtain ⟨v, hv, rv⟩ := r.get hd'
    refine ⟨⟨vs, v, (e1.trans e2).seq h, hv⟩, fun x H' y => ?_⟩
    obtain ⟨T, x', rfl, hn, rfl, hx⟩ := y
    have e := hx vs ((e1.trans e2).seq h)
    rw [hv] at e
    cases e
    refine ⟨_, .new e2 hn, ?_⟩
    exact new_tup e2 hn (.cons (.int _) (.cons (rv.mono e1) .nil)), ⟨vs, (e1.trans e2).seq h, by rw [enumD_len]; exact Nat.le_of_eq r.len⟩⟩
def enumK (k0 : Nat) : List D → R (List D)
  | [.lst ds] => .ok (enumD k0 ds)
  | _ => .stuck
theorem mi_enumK {elts : List Expr} {kk j : Nat} (k0 : Nat) (hg : Gl X "enumerate") (hm : X.mg "enumerate" = none) (ha : MA X E [e] tas ms) (hk : k0 < 1000000 := by decide) (hs : starEach [e] X.env = [(false, eval e X.env)] := by rfl) :
    MI X E (.Tuple elts kk tpos) (.Call (.Name "enumerate" p) [e] [⟨some "start", .Constant (.int (k0 : Int)) j p1, p2⟩] pos) (iEnumK X.K k0 tas) (fun ρ => dsp (enumK k0) (ms ρ)) := by
  obtain ⟨pt, st⟩ := ha
  refine ⟨pi_enumK hg hm pt hk hs, fun σ I H ρ Q re ex h => ?_⟩
  refine st.run re ex h fun ds vs I1 H1 _ s1 rs h => ?_
  unfold enumK at h
  split at h
  · obtain ⟨v, rfl, r⟩ := reps1 rs
    cases r with
    | lst hh ra => exact ⟨_, _, rfl, SqL.of (s1.e _ _ hh), h.here s1.e (it_enumK k0 (SqL.of hh) ra)⟩
  · exact h.elim
end
end DL
namespace DL
open PySem PySem.Spec PyProof.Rows L2
/-! ### texts: str(i), int(text), join, split, isdigit, isascii -/
def strD : List D → R D
  | [.int i] => if i.natAbs.log2 < 1920 then .ok (.str (Str.ofString (toString i))) else .stuck
  | _ => .stuck
theorem cs_strI {K : PySem.W.Frag} {mg : Gm} : CSn K mg (fun xs H Q => ∃ i, xs = [.int i] ∧ i.natAbs.log2 < 1920 ∧ Q (.str (Str.ofString (toString i))) H) strD := by
  intro xs I H ds d Q ex rs h q
  unfold strD at h
  split at h
  · rename_i i
    by_cases hi : i.natAbs.log2 < 1920
    · rw [if_pos hi] at h
      cases h
      obtain ⟨v, rfl, r⟩ := reps1 rs
      cases r
      exact ⟨_, rfl, hi, q _ _ _ (.refl ex) (.str _)⟩
    · rw [if_neg hi] at h
      cases h
  · cases h
def intT : List D → R D
  | [.str a] => match intText? a with
    | some n => if a.length ≤ 640 then .ok (.int n) else .stuck
    | none => .stuck
  | ds => intD ds
theorem cs_intT {K : PySem.W.Frag} {mg : Gm} : CSn K mg (fun xs H Q => ((∃ i, xs = [.int i] ∧ Q (.int i) H) ∨ ∃ k, xs = [.bl k] ∧ Q (.int (if k then 1 else 0)) H) ∨ ∃ a n, xs = [.str a] ∧ intText? a = some n ∧ a.length ≤ 640 ∧ Q (.int n) H) intT := by
  intro xs I H ds d Q ex rs h q
  unfold intT at h
  split at h
  · rename_i a
    cases e : intText? a with
    | none =>
      rw [e] at h
      cases h
    | some n =>
      rw [e] at h
      simp only [] at h
      by_cases hl : a.length ≤ 640
      · rw [if_pos hl] at h
        cases h
        obtain ⟨v, rfl, r⟩ := reps1 rs
        cases r
        exact .inr ⟨_, _, rfl, e, hl, q _ _ _ (.refl ex) (.int _)⟩
      · rw [if_neg hl] at h
        cases h
  · exact .inl (cs_int xs I H ds d Q ex rs h q)
theorem cr_intT {X : Cx} : CallR X (.type "int") (fun xs H Q => ((∃ i, xs = [.int i] ∧ Q (.int i) H) ∨ ∃ k, xs = [.bl k] ∧ Q (.int (if k then 1 else 0)) H) ∨ ∃ a n, xs = [.str a] ∧ intText? a = some n ∧ a.length ≤ 640 ∧ Q (.int n) H) := CallR.or call_int1 call_int_str
theorem mt_isascii {X : Cx} : MtR X "str.isascii" fun x xs H Q => ∃ a, x = .str a ∧ xs = [] ∧ True ∧ Q (.bl (Txt.isascii a)) H := by
  intro pins s σ H x xs v us Q I rx rs h
  obtain ⟨a, rfl, rfl, _, q⟩ := h
  obtain ⟨t, rfl⟩ := rx
  cases rs
  exact PySem.SC.isascii ⟨.bl _, H, I, rfl, q⟩
def strsOf : List D → Option (List Str)
  | [] => some []
  | .str a :: ds => (strsOf ds).map (a :: ·)
  | _ :: _ => none
theorem strsOf_eq : ∀ {ds : List D} {ys : List Str}, strsOf ds = some ys → ds = ys.map D.str
  | [], ys, h => by
    cases h
    rfl
  | d :: ds, ys, h => by
    cases d with
    | str a =>
      have h : (strsOf ds).map (a :: ·) = some ys := h
      cases e : strsOf ds with
      | none =>
        rw [e] at h
        cases h
      | some zs =>
        rw [e] at h
        cases h
        rw [strsOf_eq e]
        rfl
    | _ => cases h
theorem strsOf_map : ∀ ys : List Str, strsOf (ys.map D.str) = some ys
  | [] => rfl
  | y :: ys => by
    show (strsOf (ys.map D.str)).map (y :: ·) = _
    rw [strsOf_map ys]
    rfl
theorem reps_strs {K : PySem.W.Frag} {mg : Gm} {I : Hp} : ∀ {ys : List Str} {vs : List V}, Reps K mg I vs (ys.map D.str) → vs = ys.map V.str
  | [], _, h => by
    cases h
    rfl
  | y :: ys, _, h => by
    cases h with
    | cons r h =>
      cases r
      rw [reps_strs h]
      rfl
theorem strs_reps {K : PySem.W.Frag} {mg : Gm} {I : Hp} : ∀ ys : List Str, Reps K mg I (ys.map V.str) (ys.map D.str)
  | [] => .nil
  | y :: ys => .cons (.str y) (strs_reps ys)
/-- a text's method with one argument -/
def oS (f : Str → D → R D) (a b : R D) : R D := a >>= fun x => match x with
  | .str s => b >>= fun y => calm (f s y)
  | _ => .stuck
@[simp] theorem oS_ok (f : Str → D → R D) (s : Str) (d : D) : oS f (.ok (.str s)) (.ok d) = calm (f s d) := rfl
def joinD (a : Str) : D → R D
  | .lst ds => match strsOf ds with
    | some ys => if (ys.map fun (x : Str) => x.length).sum + ys.length * a.length ≤ 1000000 then .ok (.str (Txt.join a ys)) else .stuck
    | none => .stuck
  | _ => .stuck
def splitD (a : Str) : D → R D
  | .str b => if (b.length == 0) = false ∧ a.length + 2 ≤ 1000000 then .ok (.lst ((Txt.split a b).map D.str)) else .stuck
  | _ => .stuck
def isdigitD : D → R D
  | .str a => .ok (.bl (Txt.isdigit a))
  | _ => .stuck
def isasciiD : D → R D
  | .str a => .ok (.bl (Txt.isascii a))
  | _ => .stuck
section
variable {X : Cx} {E : Wh} {o e : Expr} {to te : TE} {mo m : Env → R D} {ap pos : Pos}
theorem me_join (ho : ME X E o to mo) (he : ME X E e te m) (hp : PE X o to → PE X e te → PE X (.Call (.Attribute o "join" ap) [e] [] pos) (tM1 (fun x xs H Q => ∃ a p ys, x = .str a ∧ xs = [.ref p] ∧ (SqL X.K H p (ys.map V.str) ∨ SqT X.K H p (ys.map V.str)) ∧ (ys.map fun (x : Str) => x.length).sum + ys.length * a.length ≤ 16777216 ∧ Q (.str (Txt.join a ys)) H) to te) := by exact fun h1 h2 => pe_join h1 h2) :
    ME X E (.Call (.Attribute o "join" ap) [e] [] pos) (tM1 (fun x xs H Q => ∃ a p ys, x = .str a ∧ xs = [.ref p] ∧ (SqL X.K H p (ys.map V.str) ∨ SqT X.K H p (ys.map V.str)) ∧ (ys.map fun (x : Str) => x.length).sum + ys.length * a.length ≤ 16777216 ∧ Q (.str (Txt.join a ys)) H) to te) (fun ρ => oS joinD (mo ρ) (m ρ)) := by
  refine ⟨hp ho.pe he.pe, fun σ I H ρ Q re ex h => ?_⟩
  refine ho.sn.run re ex h fun d v I1 H1 _ s1 rx h => ?_
  cases rx with
  | str a =>
    refine ⟨⟨a, rfl⟩, he.sn.run (re.mono s1.i) s1.e h fun d2 v2 I2 H2 _ s2 ry h => ?_⟩
    obtain ⟨z, hz, h9⟩ := out_calm h
    cases ry with
    | @lst p vs ds hh ra =>
      have hz : (match strsOf ds with
        | some ys => if (ys.map fun (x : Str) => x.length).sum + ys.length * a.length ≤ 1000000 then R.ok (D.str (Txt.join a ys)) else .stuck
        | none => .stuck) = .ok z := hz
      cases es : strsOf ds with
      | none =>
        rw [es] at hz
        cases hz
      | some ys =>
        rw [es] at hz
        simp only [] at hz
        by_cases hl : (ys.map fun (x : Str) => x.length).sum + ys.length * a.length ≤ 1000000
        · rw [if_pos hl] at hz
          cases hz
          have e1 := strsOf_eq es
          subst e1
          have e2 := reps_strs ra
          subst e2
          exact ⟨a, p, ys, rfl, rfl, .inl (SqL.of (s2.e _ _ hh)), Nat.le_trans hl (by decide), h9 _ _ _ (.refl s2.e) (.str _)⟩
        · rw [if_neg hl] at hz
          cases hz
    | _ => cases hz
  | _ => exact h.elim
theorem me_split (ho : ME X E o to mo) (he : ME X E e te m) (hp : PE X o to → PE X e te → PE X (.Call (.Attribute o "split" ap) [e] [] pos) (tM1 (fun x xs H Q => ∃ a b, x = .str a ∧ xs = [.str b] ∧ (b.length == 0) = false ∧ a.length + 2 ≤ sizeLine ∧ rNewStrs (Txt.split a b) H Q) to te) := by exact fun h1 h2 => pe_split h1 h2) :
    ME X E (.Call (.Attribute o "split" ap) [e] [] pos) (tM1 (fun x xs H Q => ∃ a b, x = .str a ∧ xs = [.str b] ∧ (b.length == 0) = false ∧ a.length + 2 ≤ sizeLine ∧ rNewStrs (Txt.split a b) H Q) to te) (fun ρ => oS splitD (mo ρ) (m ρ)) := by
  refine ⟨hp ho.pe he.pe, fun σ I H ρ Q re ex h => ?_⟩
  refine ho.sn.run re ex h fun d v I1 H1 _ s1 rx h => ?_
  cases rx with
  | str a =>
    refine ⟨⟨a, rfl⟩, he.sn.run (re.mono s1.i) s1.e h fun d2 v2 I2 H2 _ s2 ry h => ?_⟩
    obtain ⟨z, hz, h⟩ := out_calm h
    cases ry with
    | str b =>
      have hz : (if (b.length == 0) = false ∧ a.length + 2 ≤ 1000000 then R.ok (D.lst ((Txt.split a b).map D.str)) else .stuck) = .ok z := hz
      by_cases hl : (b.length == 0) = false ∧ a.length + 2 ≤ 1000000
      · rw [if_pos hl] at hz
        cases hz
        exact ⟨a, b, rfl, rfl, hl.1, Nat.le_trans hl.2 (by decide), fun p hp => h _ _ _ (.new s2.e hp) (new_lst s2.e hp (strs_reps _))⟩
      · rw [if_neg hl] at hz
        cases hz
    | _ => cases hz
  | _ => exact h.elim
theorem me_str0 {nm : Str} {id : String} {g : Str → Bool} {f : D → R D} (hf : ∀ d z, f d = .ok z → ∃ a, d = .str a ∧ z = .bl (g a)) (ho : ME X E o to mo) (hp : PE X o to → PE X (.Call (.Attribute o nm ap) [] [] pos) (tM0 (fun x xs H Q => ∃ a, x = .str a ∧ xs = [] ∧ True ∧ Q (.bl (g a)) H) to)) :
    ME X E (.Call (.Attribute o nm ap) [] [] pos) (tM0 (fun x xs H Q => ∃ a, x = .str a ∧ xs = [] ∧ True ∧ Q (.bl (g a)) H) to) (fun ρ => o1 f (mo ρ)) := by
  refine ⟨hp ho.pe, fun σ I H ρ Q re ex h => ?_⟩
  refine ho.sn.run re ex h fun d v I1 H1 _ s1 rx h => ?_
  obtain ⟨z, hz, h⟩ := out_calm h
  obtain ⟨a, rfl, rfl⟩ := hf d z hz
  cases rx
  exact ⟨⟨a, rfl⟩, a, rfl, rfl, trivial, h _ _ _ (.refl s1.e) (.bl _)⟩
theorem me_isdigit (ho : ME X E o to mo) (hp : PE X o to → PE X (.Call (.Attribute o "isdigit" ap) [] [] pos) (tM0 (fun x xs H Q => ∃ a, x = .str a ∧ xs = [] ∧ True ∧ Q (.bl (Txt.isdigit a)) H) to) := by exact fun h => pe_m0 PySem.F.slot_str_isdigit PySem.F.type_str_isdigit mt_isdigit h) :
    ME X E (.Call (.Attribute o "isdigit" ap) [] [] pos) (tM0 (fun x xs H Q => ∃ a, x = .str a ∧ xs = [] ∧ True ∧ Q (.bl (Txt.isdigit a)) H) to) (fun ρ => o1 isdigitD (mo ρ)) :=
  me_str0 (id := "str.isdigit") (fun d z h => by cases d <;> first | cases h; exact ⟨_, rfl, rfl⟩ | cases h) ho hp
theorem me_isascii (ho : ME X E o to mo) (hp : PE X o to → PE X (.Call (.Attribute o "isascii" ap) [] [] pos) (tM0 (fun x xs H Q => ∃ a, x = .str a ∧ xs = [] ∧ True ∧ Q (.bl (Txt.isascii a)) H) to) := by exact fun h => pe_m0 PySem.F.slot_str_isascii PySem.F.type_str_isascii mt_isascii h) :
    ME X E (.Call (.Attribute o "isascii" ap) [] [] pos) (tM0 (fun x xs H Q => ∃ a, x = .str a ∧ xs = [] ∧ True ∧ Q (.bl (Txt.isascii a)) H) to) (fun ρ => o1 isasciiD (mo ρ)) :=
  me_str0 (id := "str.isascii") (fun d z h => by cases d <;> first | cases h; exact ⟨_, rfl, rfl⟩ | cases h) ho hp
end
/-! ### f-strings -/
/-- the parts of a text that is joined -/
structure PJ (X : Cx) (es : List Expr) (t : Str → TE) : Prop where
  run : ∀ (acc : Str) (pins : List (Addr × Obj)) (s : Shared) (σ : L2.St) (H : Hp) (Q : VK), L2.Inv X pins σ H s → t acc σ H Q → Joins (model X.prog X.w) X.A X.xe (evalEach es X.env) acc (fun out s₁ => out.length ≤ sizeLine ∧ EP X pins σ Q (.str out s₁.toks) { s₁ with toks := s₁.toks + 1 }) s
def tJ0 : Str → TE := fun acc σ H Q => acc.length ≤ sizeLine ∧ Q (.str acc) H
def tJ (te : TE) (t : Str → TE) : Str → TE := fun acc σ H Q => te σ H fun v H1 => ∃ y, v = .str y ∧ (acc ++ y).length ≤ sizeLine ∧ t (acc ++ y) σ H1 Q
def tFv (te : TE) : TE := fun σ H Q => te σ H fun v H1 => ∃ i, v = .int i ∧ i.natAbs.log2 < 1920 ∧ Q (.str (Str.ofString (toString i))) H1
section
variable {X : Cx} {E : Wh} {e : Expr} {es : List Expr} {te : TE} {t : Str → TE} {m : Env → R D} {pos : Pos}
theorem pj_nil : PJ X [] tJ0 := ⟨fun acc pins s σ H Q I h => ⟨h.1, .str acc, H, L2.Inv.tok I _, ⟨_, rfl⟩, h.2⟩⟩
theorem pj_cons (he : PE X e te) (hr : PJ X es t) : PJ X (e :: es) (tJ te t) := ⟨fun acc pins s σ H Q I h => by
  show Joins _ _ _ (eval e X.env :: evalEach es X.env) acc _ s
  refine thn (he.run pins s σ H _ I h) fun u s1 ⟨v, H1, I1, r1, y, ev, hl, q⟩ => ?_
  subst ev
  obtain ⟨tk, rfl⟩ := r1
  exact ⟨y, tk, rfl, hl, hr.run _ pins s1 σ H1 Q I1 q⟩⟩
theorem pe_fv (he : PE X e te) : PE X (.FormattedValue e (-1) none pos) (tFv te) := ⟨fun pins s σ H Q I h => by
  refine wpAny_FormattedValue_plain (thn (he.run pins s σ H _ I h) fun u s1 ⟨v, H1, I1, r1, i, ev, hl, q⟩ => ?_)
  subst ev
  obtain ⟨tk, rfl⟩ := r1
  exact wpAny_formatField_int hl ⟨.str _, H1, L2.Inv.tok I1 _, ⟨_, rfl⟩, q⟩⟩
theorem pe_joined {a b : Expr} {es : List Expr} (h : PJ X (a :: b :: es) t) : PE X (.JoinedStr (a :: b :: es) pos) (t Str.empty) := ⟨fun pins s σ H Q I q => wpAny_JoinedStr (h.run _ pins s σ H Q I q)⟩
def fvD : D → R D
  | .int i => if i.natAbs.log2 < 1920 then .ok (.str (Str.ofString (toString i))) else .stuck
  | _ => .stuck
theorem me_fv (he : ME X E e te m) : ME X E (.FormattedValue e (-1) none pos) (tFv te) (fun ρ => o1 fvD (m ρ)) := by
  refine ⟨pe_fv he.pe, fun σ I H ρ Q re ex h => ?_⟩
  refine he.sn.run re ex h fun d v I1 H1 _ s1 rx h => ?_
  obtain ⟨z, hz, h⟩ := out_calm h
  cases rx with
  | int i =>
    have hz : (if i.natAbs.log2 < 1920 then R.ok (D.str (Str.ofString (toString i))) else .stuck) = .ok z := hz
    by_cases hi : i.natAbs.log2 < 1920
    · rw [if_pos hi] at hz
      cases hz
      exact ⟨i, rfl, hi, h _ _ _ (.refl s1.e) (.str _)⟩
    · rw [if_neg hi] at hz
      cases hz
  | _ => cases hz
/-- the parts, reckoned -/
def jn (a : R D) (k : Str → R D) (acc : Str) : R D := a >>= fun d => match d with
  | .str y => if (acc ++ y).length ≤ 1000000 then k (acc ++ y) else .stuck
  | _ => .stuck
def jn0 (acc : Str) : R D := if acc.length ≤ 1000000 then .ok (.str acc) else .stuck
structure MJ (X : Cx) (E : Wh) (es : List Expr) (t : Str → TE) (mj : Env → Str → R D) : Prop where
  pe : PJ X es t
  sn : ∀ (acc : Str) (σ : L2.St) (I H : Hp) (ρ : Env) (Q : VK), RE X.K (gm X E) I σ ρ → Same I H → Out X.K (gm X E) (E.e σ) (Rep X.K (gm X E)) I H (mj ρ acc) Q → t acc σ H Q
theorem mj_nil : MJ X E [] tJ0 (fun _ => jn0) := ⟨pj_nil, fun acc σ I H ρ Q re ex h => by
  unfold jn0 at h
  by_cases hl : acc.length ≤ 1000000
  · rw [if_pos hl] at h
    exact ⟨Nat.le_trans hl (by decide), h _ _ _ (.refl ex) (.str _)⟩
  · rw [if_neg hl] at h
    exact h.elim⟩
theorem mj_cons {mj : Env → Str → R D} (he : ME X E e te m) (hr : MJ X E es t mj) : MJ X E (e :: es) (tJ te t) (fun ρ => jn (m ρ) (mj ρ)) := ⟨pj_cons he.pe hr.pe, fun acc σ I H ρ Q re ex h => by
  refine he.sn.run re ex h fun d v I1 H1 _ s1 rx h => ?_
  cases rx with
  | str y =>
    have h : Out X.K (gm X E) (E.e σ) (Rep X.K (gm X E)) I1 H1 (if (acc ++ y).length ≤ 1000000 then mj ρ (acc ++ y) else .stuck) Q := h
    by_cases hl : (acc ++ y).length ≤ 1000000
    · rw [if_pos hl] at h
      exact ⟨y, rfl, Nat.le_trans hl (by decide), hr.sn _ σ I1 H1 ρ Q (re.mono s1.i) s1.e h⟩
    · rw [if_neg hl] at h
      exact h.elim
  | _ => exact h.elim⟩
theorem me_joined {a b : Expr} {es : List Expr} {mj : Env → Str → R D} (h : MJ X E (a :: b :: es) t mj) : ME X E (.JoinedStr (a :: b :: es) pos) (t Str.empty) (fun ρ => mj ρ Str.empty) := ⟨pe_joined h.pe, fun σ I H ρ Q re ex q => h.sn _ σ I H ρ Q re ex q⟩
end
/-! ### len of a text -/
def lenT : List D → R D
  | [.str a] => if a.length ≤ 1000000 then .ok (.int (a.length : Int)) else .stuck
  | ds => lenD ds
theorem cr_lenT {X : Cx} : CallR X (.builtin "len") (fun xs H Q => rLenX X.K xs H Q ∨ ∃ z, xs = [.str z] ∧ z.length ≤ sizeLine ∧ Q (.int (z.length : Int)) H) := CallR.or cr_lenX call_len_str
theorem cs_lenT {K : PySem.W.Frag} {mg : Gm} : CSn K mg (fun xs H Q => rLenX K xs H Q ∨ ∃ z, xs = [.str z] ∧ z.length ≤ sizeLine ∧ Q (.int (z.length : Int)) H) lenT := by
  intro xs I H ds d Q ex rs h q
  unfold lenT at h
  split at h
  · rename_i a
    by_cases hl : a.length ≤ 1000000
    · rw [if_pos hl] at h
      cases h
      obtain ⟨v, rfl, r⟩ := reps1 rs
      cases r
      exact .inr ⟨_, rfl, Nat.le_trans hl (by decide), q _ _ _ (.refl ex) (.int _)⟩
    · rw [if_neg hl] at h
      cases h
  · exact .inl (cs_len xs I H ds d Q ex rs h q)
/-! ### a <= b of tuples of ints -/
theorem lexAt_le (ns ms : List Int) : Ob.lexAt (fun j => decide (ns.getD j 0 = ms.getD j 0)) (fun j => decide (ns.getD j 0 ≤ ms.getD j 0)) (decide (ns.length ≤ ms.length)) 0 (min ns.length ms.length) = !HT.lexLt ms ns := by
  rw [← lexAt_ge ms ns, Nat.min_comm]
  congr 1
  funext j
  exact decide_eq_decide.mpr eq_comm
def rLeT (K : PySem.W.Frag) : R2 := fun x y H Q => ∃ (a b : Addr) (ns ms : List Int), x = .ref a ∧ y = .ref b ∧ SqT K H a (ns.map V.int) ∧ SqT K H b (ms.map V.int) ∧ Q (.bl (!HT.lexLt ms ns)) H
theorem op_leT {X : Cx} (hu : X.A.units < cLine) : OpR X (compareOp .LtE) (rLeT X.K) := by
  intro pins s σ H x y v u Q I rx ry h
  obtain ⟨a, b, ns, ms, rfl, rfl, ha, hb, q⟩ := h
  cases rx
  cases ry
  obtain ⟨its, r1, p1, _⟩ := I.tuple ha
  obtain ⟨its2, r2, p2, _⟩ := I.tuple hb
  have i1 : PyProof.Rows.IntsAre its ns := Vals.ints r1
  have i2 : PyProof.Rows.IntsAre its2 ms := Vals.ints r2
  have e1 : its.toArray.size = ns.length := by rw [List.size_toArray]; exact i1.length
  have e2 : its2.toArray.size = ms.length := by rw [List.size_toArray]; exact i2.length
  have at1 : ∀ j (h1 : j < its.toArray.size), ∃ t, its.toArray[j] = .int (ns.getD j 0) t := fun j h1 => PyProof.Rows.IntsAre.int_at i1 _ _ (by simp at h1; simp [h1])
  have at2 : ∀ j (h1 : j < its2.toArray.size), ∃ t, its2.toArray[j] = .int (ms.getD j 0) t := fun j h1 => PyProof.Rows.IntsAre.int_at i2 _ _ (by simp at h1; simp [h1])
  have R := Ob.RcOp.tuples_le (A := X.A) (s := s) (e := fun j => decide (ns.getD j 0 = ms.getD j 0)) (r := fun j => decide (ns.getD j 0 ≤ ms.getD j 0)) p1 p2 hu (fun j h1 h2 => by
    obtain ⟨t, et⟩ := at1 j h1
    obtain ⟨t', et'⟩ := at2 j h2
    rw [et, et']
    have z : (ns.getD j 0 == ms.getD j 0) = decide (ns.getD j 0 = ms.getD j 0) := by
      by_cases q : ns.getD j 0 = ms.getD j 0
      · rw [decide_eq_true q]; exact beq_iff_eq.mpr q
      · rw [decide_eq_false q]; exact beq_eq_false_iff_ne.mpr q
    rw [← z]
    exact SeqAt.EqAt.int_int _ _ _ _) (fun j h1 h2 _ => by
    obtain ⟨t, et⟩ := at1 j h1
    obtain ⟨t', et'⟩ := at2 j h2
    rw [et, et']
    exact Ob.RcOp.le_int _ _ _ _)
  rw [e1, e2] at R
  refine R _ _ _ _ ⟨.bl _, H, I, rfl, ?_⟩
  rw [← lexAt_le] at q
  exact q
def leX : D → D → R D
  | .int i, .int j => .ok (.bl (decide (i ≤ j)))
  | .tup xs, .tup ys => match intsOf xs, intsOf ys with
    | some ns, some ms => .ok (.bl (!HT.lexLt ms ns))
    | _, _ => .stuck
  | _, _ => .stuck
def rLeX (K : PySem.W.Frag) : R2 := fun x y H Q => rI0 (fun i j => .bl (decide (i ≤ j))) x y H Q ∨ rLeT K x y H Q
theorem op_leX {X : Cx} {k : Nat} (hr : Room k X.A) : OpR X (compareOp .LtE) (rLeX X.K) := OpR.or op_le (op_leT hr.units0)
theorem rs_leX {K : PySem.W.Frag} {mg : Gm} : RSn K mg (rLeX K) leX := by
  intro x y I H dx dy d Q ex rx ry h q
  cases rx with
  | int i =>
    cases ry with
    | int j =>
      cases h
      exact .inl ⟨i, j, rfl, rfl, q _ _ _ (.refl ex) (.bl _)⟩
    | _ => cases h
  | @tup a vs ds ha ra =>
    cases ry with
    | @tup b ws es hb rb =>
      have h : (match intsOf ds, intsOf es with | some ns, some ms => R.ok (.bl (!HT.lexLt ms ns)) | _, _ => .stuck) = R.ok d := h
      cases e1 : intsOf ds with
      | none =>
        rw [e1] at h
        cases h
      | some ns =>
        cases e2 : intsOf es with
        | none =>
          rw [e1, e2] at h
          cases h
        | some ms =>
          rw [e1, e2] at h
          cases h
          obtain ⟨rfl, _⟩ := reps_ints ra e1
          obtain ⟨rfl, _⟩ := reps_ints rb e2
          exact .inr ⟨a, b, ns, ms, rfl, rfl, SqT.of (ex _ _ ha), SqT.of (ex _ _ hb), q _ _ _ (.refl ex) (.bl _)⟩
    | _ => cases h
  | _ => cases h
end DL
namespace DL
open PySem
/-! ### a text of parts is split into its parts -/
/-- where a sign stands -/
def posC (c : Nat) : List Nat → Nat → List Nat
  | [], _ => []
  | a :: l, o => if a = c then o :: posC c l (o + 1) else posC c l (o + 1)
theorem posC_app (c : Nat) : ∀ (l m : List Nat) (o : Nat), posC c (l ++ m) o = posC c l o ++ posC c m (o + l.length)
  | [], m, o => by simp [posC]
  | a :: l, m, o => by
    rw [List.cons_append, posC, posC, posC_app c l m (o + 1), List.length_cons, show o + 1 + l.length = o + (l.length + 1) from by omega]
    split
    · rfl
    · rfl
theorem posC_free (c : Nat) : ∀ (l : List Nat) (o : Nat), c ∉ l → posC c l o = []
  | [], _, _ => rfl
  | a :: l, o, h => by
    rw [posC, if_neg (fun e : a = c => h (by rw [e]; exact List.mem_cons_self)), posC_free c l (o + 1) fun m => h (List.mem_cons_of_mem _ m)]
theorem occ_go (x : Str) (c : Nat) : ∀ (l : List Nat) (o : Nat) (st : Array Nat × Nat), x.cps.toList.drop o = l → o + l.length = x.length → st.2 ≤ o → st.1.size ≤ o →
    (forIn (m := Id) (List.range' o (l.length + 1)) st (StrLaws.occBody x ⟨#[c]⟩ x.length (x.length + 1))).run.fst.toList = st.1.toList ++ posC c l o
  | [], o, st, h1, h2, h3, h4 => by
    have hn : ¬ (((st.fst.size < x.length + 1 ∧ st.snd ≤ o) ∧ o + (⟨#[c]⟩ : Str).length ≤ x.length) ∧ Builtin.Str.subAt x ⟨#[c]⟩ o = true) := fun h => by
      have := h.1.2
      have h5 : (⟨#[c]⟩ : Str).length = 1 := rfl
      have h6 : o = x.length := by simpa using h2
      omega
    show (forIn (m := Id) [o] st _).run.fst.toList = _
    rw [List.forIn_cons]
    simp only [StrLaws.occBody, if_neg hn]
    show st.fst.toList = st.fst.toList ++ []
    rw [List.append_nil]
  | a :: l, o, st, h1, h2, h3, h4 => by
    have hg : x.cps.toList[o]? = some a := by
      have := congrArg (fun z => z[0]?) h1
      simp only [List.getElem?_drop, Nat.add_zero] at this
      rw [this]
      rfl
    have hd : x.cps.toList.drop (o + 1) = l := by
      rw [← List.drop_drop, h1]
      rfl
    rw [List.length_cons] at h2
    rw [List.length_cons, show List.range' o (l.length + 1 + 1) = o :: List.range' (o + 1) (l.length + 1) from rfl, List.forIn_cons]
    have hs := StrLaws.subAt_one x c o
    rw [hg] at hs
    by_cases e : a = c
    · have hc := hs.mpr (by rw [e])
      have hp : ((st.fst.size < x.length + 1 ∧ st.snd ≤ o) ∧ o + (⟨#[c]⟩ : Str).length ≤ x.length) ∧ Builtin.Str.subAt x ⟨#[c]⟩ o = true := ⟨⟨⟨by omega, h3⟩, hc.1⟩, hc.2⟩
      have ih := occ_go x c l (o + 1) (st.fst.push o, o + 1) hd (by omega) (Nat.le_refl _) (by simp; omega)
      simp only [StrLaws.occBody, if_pos hp]
      refine Eq.trans ih ?_
      rw [posC, if_pos e]
      simp
    · have hp : ¬ (((st.fst.size < x.length + 1 ∧ st.snd ≤ o) ∧ o + (⟨#[c]⟩ : Str).length ≤ x.length) ∧ Builtin.Str.subAt x ⟨#[c]⟩ o = true) := fun h => e (by
        have := hs.mp ⟨h.1.2, h.2⟩
        exact Option.some.inj this)
      have ih := occ_go x c l (o + 1) st hd (by omega) (by omega) (by omega)
      simp only [StrLaws.occBody, if_neg hp]
      refine Eq.trans ih ?_
      rw [posC, if_neg e]
theorem occ_pos (x : Str) (c : Nat) : Builtin.Str.occurrences x ⟨#[c]⟩ 0 x.length (x.length + 1) = posC c x.cps.toList 0 := by
  rw [StrLaws.occ_eq]
  have hl : x.cps.toList.length = x.length := rfl
  have := occ_go x c x.cps.toList 0 (#[], 0) rfl (by omega) (Nat.le_refl _) (Nat.zero_le _)
  rw [hl] at this
  refine Eq.trans this ?_
  simp
theorem split_parts (x : Str) (c : Nat) (hc : c < 256) : Txt.split x ⟨#[c]⟩ = StrLaws.partsFrom x 1 0 (posC c x.cps.toList 0) := by
  have hk : ¬ Builtin.Str.strKind x < Builtin.Str.strKind ⟨#[c]⟩ := by
    have h1 : Builtin.Str.strKind ⟨#[c]⟩ = 1 := by
      unfold Builtin.Str.strKind
      rw [if_pos (by simp [hc])]
    have h2 : 1 ≤ Builtin.Str.strKind x := by
      unfold Builtin.Str.strKind
      split
      · decide
      · split <;> decide
    omega
  have h0 : posC c x.cps.toList 0 = [] → [x] = StrLaws.partsFrom x 1 0 (posC c x.cps.toList 0) := fun h => by
    rw [h]
    show [x] = [Builtin.Str.strSub x 0 x.length]
    rw [StrLaws.sub_whole]
  unfold Txt.split
  by_cases hx : x.length < (⟨#[c]⟩ : Str).length
  · rw [if_pos (by simp [hx])]
    refine h0 ?_
    have h1 : (⟨#[c]⟩ : Str).length = 1 := rfl
    have h2 : x.cps.toList.length = x.length := rfl
    have h3 : x.cps.toList = [] := List.eq_nil_of_length_eq_zero (by omega)
    rw [h3]
    rfl
  · rw [if_neg (by simp [hx, hk]), occ_pos]
    by_cases he : posC c x.cps.toList 0 = []
    · rw [if_pos (by rw [he]; rfl)]
      exact h0 he
    · rw [if_neg (by simpa using he), StrLaws.partsBetween_eq]
      rfl
theorem parts_from (x : Str) (c : Nat) : ∀ (ps : List Str) (p : Str) (o : Nat), (∀ q ∈ p :: ps, c ∉ q.cps.toList) → x.cps.toList.drop o = (Str.join ⟨#[c]⟩ (p :: ps)).cps.toList → o ≤ x.length → StrLaws.partsFrom x 1 o (posC c (x.cps.toList.drop o) o) = p :: ps
  | [], p, o, hf, h, ho => by
    have h : x.cps.toList.drop o = p.cps.toList := h
    rw [h, posC_free c _ o (hf p List.mem_cons_self)]
    show [Builtin.Str.strSub x o x.length] = [p]
    congr 1
    refine Str.ext' ?_
    rw [← Array.toList_inj, StrLaws.strSub_toList, ← h, List.take_of_length_le (by rw [List.length_drop]; exact Nat.le_refl _)]
  | q :: ps, p, o, hf, h, ho => by
    have hj : (Str.join ⟨#[c]⟩ (p :: q :: ps)).cps.toList = p.cps.toList ++ c :: (Str.join ⟨#[c]⟩ (q :: ps)).cps.toList := by
      show ((p ++ (⟨#[c]⟩ : Str)) ++ Str.join ⟨#[c]⟩ (q :: ps)).cps.toList = _
      simp [Str.cps_append]
    rw [hj] at h
    have hl : x.cps.toList.length = x.length := rfl
    have hlen := congrArg List.length h
    rw [List.length_drop, List.length_append, List.length_cons, hl] at hlen
    have hd : x.cps.toList.drop (o + p.cps.toList.length + 1) = (Str.join ⟨#[c]⟩ (q :: ps)).cps.toList := by
      rw [show o + p.cps.toList.length + 1 = o + (p.cps.toList.length + 1) from by omega, ← List.drop_drop, h, List.drop_append]
      simp
    have ih := parts_from x c ps q (o + p.cps.toList.length + 1) (fun r hr => hf r (List.mem_cons_of_mem _ hr)) hd (by omega)
    rw [hd] at ih
    rw [h, posC_app, posC_free c _ o (hf p List.mem_cons_self), List.nil_append, posC, if_pos rfl]
    show Builtin.Str.strSub x o (o + p.cps.toList.length) :: StrLaws.partsFrom x 1 (o + p.cps.toList.length + 1) (posC c _ (o + p.cps.toList.length + 1)) = _
    rw [ih]
    congr 1
    refine Str.ext' ?_
    rw [← Array.toList_inj, StrLaws.strSub_toList, h, Nat.add_sub_cancel_left, List.take_left]
/-- what is joined by a sign that no part has is split at it again -/
theorem split_join (c : Nat) (hc : c < 256) (p : Str) (ps : List Str) (h : ∀ q ∈ p :: ps, c ∉ q.cps.toList) : Txt.split (Txt.join ⟨#[c]⟩ (p :: ps)) ⟨#[c]⟩ = p :: ps := by
  have e : Txt.join ⟨#[c]⟩ (p :: ps) = Str.join ⟨#[c]⟩ (p :: ps) := StrLaws.glued_eq_join _ _
  rw [e, split_parts _ c hc]
  exact parts_from _ c ps p 0 h rfl (Nat.zero_le _)
end DL
namespace Lk06
open PySem PySem.Spec PyProof.Rows L2 DL
set_option maxHeartbeats 4000000
def topS (i : Nat) : Stmt := PySem.Challenge.pw_neveralone_k06_book_texts_there_and_back.main.body.getD i (.Pass ⟨0, 0, 0, 0⟩)
def xT : Str → Str → Option Bool := tab [("BadBook", "BadText", false), ("BadBook", "NeverAloneError", true), ("Mismatch", "BadText", false), ("Mismatch", "NeverAloneError", true), ("BadText", "BadText", true), ("BadText", "NeverAloneError", true)]
def xB : Str → String → Option Bool := tab [("BadBook", "ValueError", true), ("Mismatch", "ValueError", true), ("BadText", "ValueError", true)]
def oT : Str → Str → Option Bool := tab [("Book", "Book", true)]
def oB : Str → String → Option Bool := tab [("Book", "str", false), ("Book", "tuple", false), ("Book", "int", false), ("Book", "bool", false)]
section
variable {P : Program} {w : World} {K : PySem.W.Frag} {mg : Str → Option Value} {base : Heap}
abbrev s_Book_len : Stmt := inC (topS 15) 4
abbrev N_Book_len : List Str := ["self"]
theorem sc_Book_len : FnScope N_Book_len ["self"] (defScope s_Book_len) := ⟨rfl, rfl, rfl, by decide +kernel, rfl, by decide +kernel, by decide +kernel⟩
def b_Book_len : DL.Env → R Fl := fun r => (ret (cbf lenD (acons (o1 (fldD ["Book"] "rooms") (get r 0)) (.ok []))))
def m_Book_len : List D → R D := runX 1 b_Book_len
theorem t_Book___len__ {f : Addr} {fd : FuncData} (F : Fun K "__len__" "Book.__len__" s_Book_len f fd) (b : Binds K fd ["self"] []) {C_Book : Addr} (h_Book : mg "Book" = some (.ref C_Book)) (b_len : mg "len" = none) (f_rooms : ClF K (g0 mg) ["Book"] "rooms") (hc : Cls K C_Book) (hm : Meth K C_Book "__len__" f) : MtAt P w K mg base "Book" C_Book "__len__" 1 1 m_Book_len :=
  MtAt.mk' (M := []) (M' := []) F h_Book hc hm b sc_Book_len (by decide) fun cdv A outer s H E hr => ⟨_,
(mss_one (ms_ret (me_callB (r := rLenX K) cr_lenX cs_len (by rfl) b_len (by decide +kernel) (ma_cons (me_fldK K ["Book"] f_rooms (me_var 0)) ma_nil))))⟩
def opT_len : List (Str × (List D → R D)) := [("Book", m_Book_len)]
abbrev s_Book_iter : Stmt := inC (topS 15) 6
abbrev N_Book_iter : List Str := ["self"]
theorem sc_Book_iter : FnScope N_Book_iter ["self"] (defScope s_Book_iter) := ⟨rfl, rfl, rfl, by decide +kernel, rfl, by decide +kernel, by decide +kernel⟩
def opT_iter : List (Str × Str) := [("Book", "rooms")]
abbrev s_mask_of : Stmt := topS 12
abbrev N_mask_of : List Str := ["room", "mask", "place"]
theorem sc_mask_of : FnScope N_mask_of ["room"] (defScope s_mask_of) := ⟨rfl, rfl, rfl, by decide +kernel, rfl, by decide +kernel, by decide +kernel⟩
def b_mask_of : DL.Env → R Fl := fun r => (then_ (asg 1 r (.ok (.int 0))) (fun r => (then_ (forS (agV 2) (fun r => (asg 1 r (o2 orD (get r 1) (o2 shlD (.ok (.int 1)) (get r 2))))) r (itsO opT_iter (get r 0))) (fun r => (ret (get r 1))))))
def m_mask_of : List D → R D := runX 3 b_mask_of
theorem k_mask_of (F : FnAt K mg "mask_of" s_mask_of ["room"]) (O_iter : ItsAt P w K mg base 1 opT_iter) : KnX P w K mg base "mask_of" 5 1 m_mask_of :=
  KnX.mk' (M := []) (M' := []) F sc_mask_of (by decide) fun f cdv A outer s H E hr => ⟨_,
(mss_cons (ms_set 1 sc_mask_of.nd me_int)
(mss_cons (ms_for (passes_of rfl) rfl (mi_seqO K O_iter hr (me_var 0)) (mg_name 2 sc_mask_of.nd) (agin_name (by decide))
(mss_one (ms_set 1 sc_mask_of.nd (me_op op_or rs_or (me_var 1) (me_op op_shl rs_shl me_int (me_var 2))))))
(mss_one (ms_ret (me_var 1)))))⟩
abbrev s_room_of : Stmt := topS 13
abbrev N_room_of : List Str := ["mask", "place"]
theorem sc_room_of : FnScope N_room_of ["mask"] (defScope s_room_of) := ⟨rfl, rfl, rfl, by decide +kernel, rfl, by decide +kernel, by decide +kernel⟩
def b_room_of : DL.Env → R Fl := fun r => (ret (cbf tupleD (acons (lcM [1] (fun r => (dsp rg1 (acons (o1 bitsD (get r 0)) (.ok [])))) (agV 1) (fun r => (tru (o2 andD (o2 shrD (get r 0) (get r 1)) (.ok (.int 1))))) (fun r => (get r 1)) r) (.ok []))))
def m_room_of : List D → R D := runX 2 b_room_of
theorem k_room_of (F : FnAt K mg "room_of" s_room_of ["mask"]) (b_range : mg "range" = none) (b_tuple : mg "tuple" = none) : KnX P w K mg base "room_of" 1 1 m_room_of :=
  KnX.mk' (M := []) (M' := []) F sc_room_of (by decide) fun f cdv A outer s H E hr => ⟨_,
(mss_one (ms_ret (me_callTy (r := rTupOf K) cr_tupOf cs_tuple (by rfl) b_tuple (by decide +kernel) (ma_cons (me_lc (own := [("place", 1)]) rfl sc_room_of.nd (mi_rng1 (by rfl) b_range (ma_cons (me_bits (me_var 0)) ma_nil)) (blkOk_by (N := N_room_of) (sc := defScope s_room_of) (own := [("place", 1)]) (by decide +kernel)) (fun _ _ _ _ _ => (mg_name 1 sc_room_of.nd)) (fun _ _ _ _ _ => (mts_one (mt_truK K (me_op op_and rs_and (me_op op_shr rs_shr (me_var 0) (me_var 1)) me_int)))) (fun _ _ _ _ _ => (me_var 1)) (agin_name (by decide))) ma_nil))))⟩
abbrev s_odd_unions : Stmt := topS 16
abbrev N_odd_unions : List Str := ["first", "second", "masks", "odd", "room", "mine", "mask"]
theorem sc_odd_unions : FnScope N_odd_unions ["first", "second"] (defScope s_odd_unions) := ⟨rfl, rfl, rfl, by decide +kernel, rfl, by decide +kernel, by decide +kernel⟩
def b_odd_unions : DL.Env → R Fl := fun r => (then_ (asg 2 r (lcM [4] (fun r => (itsO opT_iter (get r 1))) (agV 4) (fun _ => .ok true) (fun r => (call_ 1 m_mask_of (acons (get r 4) (.ok [])))) (wipeE r [3]))) (fun r => (then_ (.ok (.nx (r.set 3 (some (.dk [] []))))) (fun r => (then_ (forS (agV 4) (fun r => (then_ (asg 5 r (call_ 1 m_mask_of (acons (get (wipeE r [3]) 4) (.ok [])))) (fun r => (forS (agV 6) (fun r => (ifv (tst (o2 eqD (o2 andD (get r 5) (get r 6)) (.ok (.int 0)))) (dputS [3] 3 r (vnot (og2 dgetE (get r 3) (o2 orD (get r 5) (get r 6)) (.ok (.bl false)))) (o2 orD (get r 5) (get r 6))) (.ok (.nx r)))) r (itsO opT_iter (get (wipeE r [3]) 2)))))) r (itsO opT_iter (get (wipeE r [3]) 0))) (fun r => (ret (lcK 3 [6] (agV 6) (fun r => (tst (o2 ixA (get r 3) (get r 6)))) (fun r => (call_ 1 m_room_of (acons (get r 6) (.ok [])))) r))))))))
def m_odd_unions : List D → R D := runX 7 b_odd_unions
theorem k_odd_unions (F : FnAt K mg "odd_unions" s_odd_unions ["first", "second"]) (k_mask_of : KnX P w K mg base "mask_of" 5 1 m_mask_of) (k_room_of : KnX P w K mg base "room_of" 1 1 m_room_of) (O_iter : ItsAt P w K mg base 1 opT_iter) : KnX P w K mg base "odd_unions" 6 2 m_odd_unions :=
  KnX.mk' (M := [3]) (M' := [3]) F sc_odd_unions (by decide) fun f cdv A outer s H E hr => ⟨_,
(mss_cons (ms_setLc 2 (own := [("room", 4)]) rfl sc_odd_unions.nd (mi_seqO K O_iter hr (me_var 1)) (blkOk_by (N := N_odd_unions) (sc := defScope s_odd_unions) (own := [("room", 4)]) (by decide +kernel)) (fun _ _ _ _ _ => (mg_name 4 sc_odd_unions.nd)) (fun _ _ _ _ _ => mts_nil) (fun _ _ _ _ _ => (me_callX k_mask_of hr pxL (by rfl) (ma_cons (me_var 4) ma_nil))) (agin_name (by decide)) (sw_true rfl rfl rfl (by decide +kernel)))
(mss_cons (ms_newK 3 sc_odd_unions.nd)
(mss_cons (ms_for (passes_of rfl) rfl (mi_seqO K O_iter hr (me_var 0)) (mg_name 4 sc_odd_unions.nd) (agin_name (by decide))
(mss_cons (ms_set 5 sc_odd_unions.nd (me_callX k_mask_of hr (px (L2N.takes_of rfl rfl rfl rfl)) (by rfl) (ma_cons (me_var 4) ma_nil)))
(mss_one (ms_for (passes_of rfl) rfl (mi_seqO K O_iter hr (me_var 2)) (mg_name 6 sc_odd_unions.nd) (agin_name (by decide))
(mss_one (ms_if (mt_cmp (r := rEqD K) (op_eqD hr.units) rs_eq (me_op op_and rs_and (me_var 5) (me_var 6)) me_int)
(mss_one (ms_dputV 3 (hu_of hr) (me_not (me_get2 (hu_of hr) (me_var 3) (me_op op_or rs_or (me_var 5) (me_var 6)) me_bl)) (me_op op_or rs_or (me_var 5) (me_var 6))))
mss_nil))))))
(mss_one (ms_ret (me_lcK (own := [("mask", 6)]) 3 rfl sc_odd_unions.nd (blkOk_by (N := N_odd_unions) (sc := defScope s_odd_unions) (own := [("mask", 6)]) (by decide +kernel)) (fun _ _ _ _ _ => (mg_name 6 sc_odd_unions.nd)) (fun _ _ _ _ _ => (mts_one (mt_val (me_ixA K (hu_of hr) (me_var 3) (me_var 6))))) (fun _ _ _ _ _ => (me_callX k_room_of hr pxL (by rfl) (ma_cons (me_var 6) ma_nil))) (agin_name (by decide))))))))⟩
abbrev s_room_fault : Stmt := topS 8
abbrev N_room_fault : List Str := ["places", "size", "room", "place"]
theorem sc_room_fault : FnScope N_room_fault ["places", "size", "room"] (defScope s_room_fault) := ⟨rfl, rfl, rfl, by decide +kernel, rfl, by decide +kernel, by decide +kernel⟩
def b_room_fault : DL.Env → R Fl := fun r => (then_ (ifv (tst (o2 neD (cbf (orC (lenO opT_len) lenD) (acons (get r 2) (.ok []))) (get r 1))) (ret (.ok (.str "count"))) (.ok (.nx r))) (fun r => (then_ (ifv (tst (cbf anyD (acons (lcM [3] (fun r => (itsO opT_iter (get r 2))) (agV 3) (fun _ => .ok true) (fun r => (vnot (ch2 leD ltD (.ok (.int 0)) (get r 3) (get r 0)))) r) (.ok [])))) (ret (.ok (.str "place"))) (.ok (.nx r))) (fun r => (then_ (ifv (tst (o2 neD (o1 lenSetD (get r 2)) (cbf (orC (lenO opT_len) lenD) (acons (get r 2) (.ok []))))) (ret (.ok (.str "twice"))) (.ok (.nx r))) (fun r => (ret (.ok (.str "")))))))))
def m_room_fault : List D → R D := runX 4 b_room_fault
theorem k_room_fault (F : FnAt K mg "room_fault" s_room_fault ["places", "size", "room"]) (b_len : mg "len" = none) (b_any : mg "any" = none) (b_set : mg "set" = none) (O_len : OpsAt P w K mg base "__len__" 1 1 opT_len) (O_iter : ItsAt P w K mg base 1 opT_iter) : KnX P w K mg base "room_fault" 5 3 m_room_fault :=
  KnX.mk' (M := []) (M' := []) F sc_room_fault (by decide) fun f cdv A outer s H E hr => ⟨_,
(mss_cons (ms_if (mt_cmp (r := rNeD K) (op_neD hr.units) rs_ne (me_lenA K O_len hr (by rfl) b_len (ma_cons (me_var 2) ma_nil)) (me_var 1))
(mss_one (ms_ret me_str))
mss_nil)
(mss_cons (ms_if (mt_val (me_callB (r := rAny K) (cr_any rfl) cs_any (by rfl) b_any (by decide +kernel) (ma_cons (me_lc (own := [("place", 3)]) rfl sc_room_fault.nd (mi_seqO K O_iter hr (me_var 2)) (blkOk_by (N := N_room_fault) (sc := defScope s_room_fault) (own := [("place", 3)]) (by decide +kernel)) (fun _ _ _ _ _ => (mg_name 3 sc_room_fault.nd)) (fun _ _ _ _ _ => mts_nil) (fun _ _ _ _ _ => (me_not (me_chain op_le rs_le (r' := rLtX K) (op_ltX hr) rs_lt me_int (me_var 3) (me_var 0)))) (agin_name (by decide))) ma_nil)))
(mss_one (ms_ret me_str))
mss_nil)
(mss_cons (ms_if (mt_cmp (r := rNeD K) (op_neD hr.units) rs_ne (me_lenSetK K rfl (by rfl) b_len (by rfl) b_set (me_var 2)) (me_lenA K O_len hr (by rfl) b_len (ma_cons (me_var 2) ma_nil)))
(mss_one (ms_ret me_str))
mss_nil)
(mss_one (ms_ret me_str)))))⟩
abbrev s_Book_contains : Stmt := inC (topS 15) 5
abbrev N_Book_contains : List Str := ["self", "x"]
theorem sc_Book_contains : FnScope N_Book_contains ["self", "x"] (defScope s_Book_contains) := ⟨rfl, rfl, rfl, by decide +kernel, rfl, by decide +kernel, by decide +kernel⟩
def b_Book_contains : DL.Env → R Fl := fun r => (ret (o2 inG (get r 1) (o1 (fldD ["Book"] "_known") (get r 0))))
def m_Book_contains : List D → R D := runX 2 b_Book_contains
theorem t_Book___contains__ {f : Addr} {fd : FuncData} (F : Fun K "__contains__" "Book.__contains__" s_Book_contains f fd) (b : Binds K fd ["self", "x"] []) {C_Book : Addr} (h_Book : mg "Book" = some (.ref C_Book)) (f__known : ClF K (g0 mg) ["Book"] "_known") (hc : Cls K C_Book) (hm : Meth K C_Book "__contains__" f) : MtAt P w K mg base "Book" C_Book "__contains__" 1 2 m_Book_contains :=
  MtAt.mk' (M := []) (M' := []) F h_Book hc hm b sc_Book_contains (by decide) fun cdv A outer s H E hr => ⟨_,
(mss_one (ms_ret (me_inG K (hu65 hr) (me_var 1) (me_fldK K ["Book"] f__known (me_var 0)))))⟩
def opT_in : List (Str × (List D → R D)) := [("Book", m_Book_contains)]
abbrev s_book_faults : Stmt := topS 10
abbrev N_book_faults : List Str := ["places", "size", "rooms", "found", "seen", "at", "room", "fault", "kept"]
theorem sc_book_faults : FnScope N_book_faults ["places", "size", "rooms"] (defScope s_book_faults) := ⟨rfl, rfl, rfl, by decide +kernel, rfl, by decide +kernel, by decide +kernel⟩
def b_book_faults : DL.Env → R Fl := fun r => (then_ (ifv (tnot (tst (ch2 leD leD (.ok (.int 1)) (get r 0) (.ok (.int 12))))) (ret (dsp lstD (acons (dsp tupD (acons (.ok (.str "places")) (acons (.ok (.int 0)) (.ok [])))) (.ok [])))) (.ok (.nx r))) (fun r => (then_ (ifv (tnot (tst (ch2 leD leD (.ok (.int 1)) (get r 1) (get r 0)))) (ret (dsp lstD (acons (dsp tupD (acons (.ok (.str "size")) (acons (.ok (.int 0)) (.ok [])))) (.ok [])))) (.ok (.nx r))) (fun r => (then_ (ownS 3 r (dsp lenOk (.ok []))) (fun r => (then_ (.ok (.nx (r.set 4 (some (.dt [] []))))) (fun r => (then_ (forS (tupAs 2 (agC (agV 5) (agC (agV 6) agN))) (fun r => (then_ (asg 7 r (call_ 3 m_room_fault (acons (get (wipeE r [3, 4]) 0) (acons (get (wipeE r [3, 4]) 1) (acons (get (wipeE r [3, 4]) 6) (.ok [])))))) (fun r => (then_ (asg 8 r (cbf tupleD (acons (cbf sortedA (acons (get (wipeE r [3, 4]) 6) (.ok []))) (.ok [])))) (fun r => (then_ (ifv (tand (tst (o2 eqD (get r 7) (.ok (.str "")))) (tst (o2 (orR (inO opT_in) inG) (get r 8) (get r 4)))) (asg 7 r (.ok (.str "again"))) (.ok (.nx r))) (fun r => (ifv (tst (o2 eqD (get r 7) (.ok (.str "")))) (dputS [3, 4] 4 r (.ok (.bl true)) (get r 8)) (appS 3 r (dsp tupD (acons (get (wipeE r [3, 4]) 7) (acons (get (wipeE r [3, 4]) 5) (.ok []))))))))))))) r (dsp enumA (acons (get (wipeE r [3, 4]) 2) (.ok [])))) (fun r => (ret (get r 3))))))))))))
def m_book_faults : List D → R D := runX 9 b_book_faults
theorem k_book_faults (F : FnAt K mg "book_faults" s_book_faults ["places", "size", "rooms"]) (k_room_fault : KnX P w K mg base "room_fault" 5 3 m_room_fault) (b_sorted : mg "sorted" = none) (b_tuple : mg "tuple" = none) (b_enumerate : mg "enumerate" = none) {t_MOST_PLACES : Tok} (g_MOST_PLACES : mg "MOST_PLACES" = some (.int 12 t_MOST_PLACES)) (O_in : OpsAt P w K mg base "__contains__" 1 2 opT_in) : KnX P w K mg base "book_faults" 6 3 m_book_faults :=
  KnX.mk' (M := [3, 4]) (M' := [3, 4]) F sc_book_faults (by decide) fun f cdv A outer s H E hr => ⟨_,
(mss_cons (ms_if (mt_not (mt_chain op_le rs_le op_le rs_le me_int (me_var 0) (me_glb (v := .int 12) (by rfl) g_MOST_PLACES ⟨_, rfl⟩ (fun _ => .int _))))
(mss_one (ms_ret (me_lst (ma_cons (me_tup (ma_cons me_str (ma_cons me_int ma_nil))) ma_nil))))
mss_nil)
(mss_cons (ms_if (mt_not (mt_chain op_le rs_le op_le rs_le me_int (me_var 1) (me_var 0)))
(mss_one (ms_ret (me_lst (ma_cons (me_tup (ma_cons me_str (ma_cons me_int ma_nil))) ma_nil))))
mss_nil)
(mss_cons (ms_own 3 sc_book_faults.nd (mn_lst ma_nil))
(mss_cons (ms_newT 4 sc_book_faults.nd)
(mss_cons (ms_for (passes_of rfl) rfl (mi_enumA K (by rfl) b_enumerate (ma_cons (me_var 2) ma_nil)) (mg_tup K (mgs_cons (mg_name 5 sc_book_faults.nd) (mgs_cons (mg_name 6 sc_book_faults.nd) mgs_nil))) (agin_tup (agsin_cons (agin_name (by decide)) (agsin_cons (agin_name (by decide)) agsin_nil)))
(mss_cons (ms_set 7 sc_book_faults.nd (me_callX k_room_fault hr (px (L2N.takes_of rfl rfl rfl rfl)) (by rfl) (ma_cons (me_var 0) (ma_cons (me_var 1) (ma_cons (me_var 6) ma_nil)))))
(mss_cons (ms_set 8 sc_book_faults.nd (me_callTy (r := rTupOf K) cr_tupOf cs_tuple (by rfl) b_tuple (by decide +kernel) (ma_cons (me_callB (r := rSortedA K) cr_sortedA cs_sortedA (by rfl) b_sorted (by decide +kernel) (ma_cons (me_var 6) ma_nil)) ma_nil)))
(mss_cons (ms_if (MW.mt (mw_and (mt_cmp (r := rEqD K) (op_eqD hr.units) rs_eq (me_var 7) me_str) (mw_and1 (mt_inA' K O_in hr (me_var 8) (me_var 4)))))
(mss_one (ms_set 7 sc_book_faults.nd me_str))
mss_nil)
(mss_one (ms_if (mt_cmp (r := rEqD K) (op_eqD hr.units) rs_eq (me_var 7) me_str)
(mss_one (ms_dputV 4 (hu_of hr) me_bl (me_var 8)))
(mss_one (ms_app 3 (me_tup (ma_cons (me_var 7) (ma_cons (me_var 5) ma_nil))) (hp := fun h1 => pe_bm PySem.F.plainAttrs_list PySem.F.slot_list_append PySem.F.type_list_append mt_append (pv 3) (pa_cons h1 pa_nil))))))))))
(mss_one (ms_ret (me_var 3))))))))⟩
abbrev s_Book_init : Stmt := inC (topS 15) 1
abbrev N_Book_init : List Str := ["self", "places", "size", "rooms", "found", "fault", "at", "room"]
theorem sc_Book_init : FnScope N_Book_init ["self", "places", "size", "rooms"] (defScope s_Book_init) := ⟨rfl, rfl, rfl, by decide +kernel, rfl, by decide +kernel, by decide +kernel⟩
def b_Book_init : DL.Env → R Fl := fun r => (then_ (asg 4 r (call_ 3 m_book_faults (acons (get (wipeE r [0]) 1) (acons (get (wipeE r [0]) 2) (acons (get (wipeE r [0]) 3) (.ok [])))))) (fun r => (then_ (ifv (tst (o2 gtD (cbf (orC (lenO opT_len) lenD) (acons (get r 4) (.ok []))) (.ok (.int 0)))) (then_ (asgG (tupAs 2 (agC (agV 5) (agC (agV 6) agN))) r (o2 ixA (get (wipeE r [0]) 4) (.ok (.int 0)))) (fun r => (raiseS "BadBook" ["fault", "at"] (acons (get r 5) (acons (get r 6) (.ok [])))))) (.ok (.nx r))) (fun r => (then_ (fldS [0] 0 "Book" "places" r (get r 1)) (fun r => (then_ (fldS [0] 0 "Book" "size" r (get r 2)) (fun r => (then_ (fldS [0] 0 "Book" "rooms" r (cbf tupleD (acons (cbf sortedA (acons (lcM [7] (fun r => (itsO opT_iter (get r 3))) (agV 7) (fun _ => .ok true) (fun r => (cbf tupleD (acons (cbf sortedA (acons (get r 7) (.ok []))) (.ok [])))) r) (.ok []))) (.ok [])))) (fun r => (fldS [0] 0 "Book" "_known" r (dcM [7] (fun r => (its (o1 (fldD ["Book"] "rooms") (get r 0)))) (agV 7) (fun _ => .ok true) (fun r => (get r 7)) (fun r => (.ok (.bl true))) r))))))))))))
def m_Book_init : List D → R D := runI 8 "Book" b_Book_init
theorem k_Book_init {f : Addr} {fd : FuncData} (F : Fun K "__init__" "Book.__init__" s_Book_init f fd) (b : Binds K fd ["self", "places", "size", "rooms"] []) {C_Book : Addr} (h_Book : mg "Book" = some (.ref C_Book)) (k_book_faults : KnX P w K mg base "book_faults" 6 3 m_book_faults) (b_len : mg "len" = none) (b_sorted : mg "sorted" = none) (b_tuple : mg "tuple" = none) {C_BadBook : Addr} (x_BadBook : XcAt P w K mg base "BadBook" C_BadBook ["fault", "at"]) (O_len : OpsAt P w K mg base "__len__" 1 1 opT_len) (f_places : ClF K (g0 mg) ["Book"] "places") (f_size : ClF K (g0 mg) ["Book"] "size") (f_rooms : ClF K (g0 mg) ["Book"] "rooms") (O_iter : ItsAt P w K mg base 1 opT_iter) (f__known : ClF K (g0 mg) ["Book"] "_known") (hm : Mk K C_Book f) : CkAt P w K mg base "Book" C_Book 7 3 m_Book_init :=
  CkAt.mk' (M := [0]) F h_Book hm b sc_Book_init rfl (by decide) (by decide) (by decide) fun cdv A outer s H E hr => ⟨_,
(mss_cons (ms_set 4 sc_Book_init.nd (me_callX k_book_faults hr (px (L2N.takes_of rfl rfl rfl rfl)) (by rfl) (ma_cons (me_var 1) (ma_cons (me_var 2) (ma_cons (me_var 3) ma_nil)))))
(mss_cons (ms_if (mt_cmp op_gt rs_gt (me_lenA K O_len hr (by rfl) b_len (ma_cons (me_var 4) ma_nil)) me_int)
(mss_cons (ms_asg (me_ixA K (hu_of hr) (me_var 4) me_int) (mg_tup K (mgs_cons (mg_name 5 sc_Book_init.nd) (mgs_cons (mg_name 6 sc_Book_init.nd) mgs_nil))) (agin_tup (agsin_cons (agin_name (by decide)) (agsin_cons (agin_name (by decide)) agsin_nil))))
(mss_one (ms_raiseX x_BadBook (L2N.takes_of rfl rfl rfl rfl) hr (by rfl) (ma_cons (me_var 5) (ma_cons (me_var 6) ma_nil)))))
mss_nil)
(mss_cons (ms_fldV 0 "Book" (fun C h => f_places "Book" (by decide) C h) (me_var 1))
(mss_cons (ms_fldV 0 "Book" (fun C h => f_size "Book" (by decide) C h) (me_var 2))
(mss_cons (ms_fldV 0 "Book" (fun C h => f_rooms "Book" (by decide) C h) (me_callTy (r := rTupOf K) cr_tupOf cs_tuple (by rfl) b_tuple (by decide +kernel) (ma_cons (me_callB (r := rSortedA K) cr_sortedA cs_sortedA (by rfl) b_sorted (by decide +kernel) (ma_cons (me_lc (own := [("room", 7)]) rfl sc_Book_init.nd (mi_seqO K O_iter hr (me_var 3)) (blkOk_by (N := N_Book_init) (sc := defScope s_Book_init) (own := [("room", 7)]) (by decide +kernel)) (fun _ _ _ _ _ => (mg_name 7 sc_Book_init.nd)) (fun _ _ _ _ _ => mts_nil) (fun _ _ _ _ _ => (me_callTy (r := rTupOf K) cr_tupOf cs_tuple (by rfl) b_tuple (by decide +kernel) (ma_cons (me_callB (r := rSortedA K) cr_sortedA cs_sortedA (by rfl) b_sorted (by decide +kernel) (ma_cons (me_var 7) ma_nil)) ma_nil))) (agin_name (by decide))) ma_nil)) ma_nil)))
(mss_one (ms_fldV 0 "Book" (fun C h => f__known "Book" (by decide) C h) (me_dcT (own := [("room", 7)]) (hu_of hr) rfl sc_Book_init.nd (mi_seq K (me_fldK K ["Book"] f_rooms (me_var 0))) (blkOk_by (N := N_Book_init) (sc := defScope s_Book_init) (own := [("room", 7)]) (by decide +kernel)) (fun _ _ _ _ _ => (mg_name 7 sc_Book_init.nd)) (fun _ _ _ _ _ => mts_nil) (fun _ _ _ _ _ => (me_var 7)) (fun _ _ _ _ _ => me_bl) (agin_name (by decide))))))))))⟩
abbrev s_Book_mul : Stmt := inC (topS 15) 8
abbrev N_Book_mul : List Str := ["self", "other"]
theorem sc_Book_mul : FnScope N_Book_mul ["self", "other"] (defScope s_Book_mul) := ⟨rfl, rfl, rfl, by decide +kernel, rfl, by decide +kernel, by decide +kernel⟩
def b_Book_mul : DL.Env → R Fl := fun r => (then_ (ifv (tnot (tst (cbf (isoD oT oB (fun _ _ => none)) (acons (get r 1) (acons (.ok (.cls "Book")) (.ok [])))))) (ret (.stuck : R D)) (.ok (.nx r))) (fun r => (then_ (ifv (tst (o2 neD (o1 (fldD ["Book"] "places") (get r 0)) (o1 (fldD ["Book"] "places") (get r 1)))) (raiseS "Mismatch" ["fault"] (acons (.ok (.str "places")) (.ok []))) (.ok (.nx r))) (fun r => (then_ (ifv (tst (o2 gtD (o2 addD (o1 (fldD ["Book"] "size") (get r 0)) (o1 (fldD ["Book"] "size") (get r 1))) (o1 (fldD ["Book"] "places") (get r 0)))) (raiseS "Mismatch" ["fault"] (acons (.ok (.str "size")) (.ok []))) (.ok (.nx r))) (fun r => (ret (call_ 3 m_Book_init (acons (o1 (fldD ["Book"] "places") (get r 0)) (acons (o2 addD (o1 (fldD ["Book"] "size") (get r 0)) (o1 (fldD ["Book"] "size") (get r 1))) (acons (call_ 2 m_odd_unions (acons (o1 (fldD ["Book"] "rooms") (get r 0)) (acons (o1 (fldD ["Book"] "rooms") (get r 1)) (.ok [])))) (.ok []))))))))))))
def m_Book_mul : List D → R D := runX 2 b_Book_mul
theorem t_Book___mul__ {f : Addr} {fd : FuncData} (F : Fun K "__mul__" "Book.__mul__" s_Book_mul f fd) (b : Binds K fd ["self", "other"] []) {C_Book : Addr} (h_Book : mg "Book" = some (.ref C_Book)) (k_odd_unions : KnX P w K mg base "odd_unions" 6 2 m_odd_unions) (b_isinstance : mg "isinstance" = none) {C_Mismatch : Addr} (x_Mismatch : XcAt P w K mg base "Mismatch" C_Mismatch ["fault"]) (S_o : OSub K mg oT oB (fun _ _ => none)) (f_places : ClF K (g0 mg) ["Book"] "places") (f_size : ClF K (g0 mg) ["Book"] "size") (f_rooms : ClF K (g0 mg) ["Book"] "rooms") (k_Book_init : CkAt P w K mg base "Book" C_Book 7 3 m_Book_init) (hc : Cls K C_Book) (hm : Meth K C_Book "__mul__" f) : MtAt P w K mg base "Book" C_Book "__mul__" 9 2 m_Book_mul :=
  MtAt.mk' (M := []) (M' := []) F h_Book hc hm b sc_Book_mul (by decide) fun cdv A outer s H E hr => ⟨_,
(mss_cons (ms_if (mt_not (mt_val (me_callB (r := rIsi K) call_isi (cs_iso S_o) (by rfl) b_isinstance (by decide +kernel) (ma_cons (me_var 1) (ma_cons (me_cls (by rfl) h_Book) ma_nil)))))
(mss_one (ms_ret me_stuck))
mss_nil)
(mss_cons (ms_if (mt_cmp (r := rNeD K) (op_neD hr.units) rs_ne (me_fldK K ["Book"] f_places (me_var 0)) (me_fldK K ["Book"] f_places (me_var 1)))
(mss_one (ms_raiseX x_Mismatch (L2N.takes_of rfl rfl rfl rfl) hr (by rfl) (ma_cons me_str ma_nil)))
mss_nil)
(mss_cons (ms_if (mt_cmp op_gt rs_gt (me_op (r := rAddX K) op_addX rs_add (me_fldK K ["Book"] f_size (me_var 0)) (me_fldK K ["Book"] f_size (me_var 1))) (me_fldK K ["Book"] f_places (me_var 0)))
(mss_one (ms_raiseX x_Mismatch (L2N.takes_of rfl rfl rfl rfl) hr (by rfl) (ma_cons me_str ma_nil)))
mss_nil)
(mss_one (ms_ret (me_make k_Book_init hr (px (L2N.takes_of rfl rfl rfl rfl)) (by rfl) (ma_cons (me_fldK K ["Book"] f_places (me_var 0)) (ma_cons (me_op (r := rAddX K) op_addX rs_add (me_fldK K ["Book"] f_size (me_var 0)) (me_fldK K ["Book"] f_size (me_var 1))) (ma_cons (me_callX k_odd_unions hr (px (L2N.takes_of rfl rfl rfl rfl)) (by rfl) (ma_cons (me_fldK K ["Book"] f_rooms (me_var 0)) (ma_cons (me_fldK K ["Book"] f_rooms (me_var 1)) ma_nil))) ma_nil)))))))))⟩
def opT_mul : List (Str × (List D → R D)) := [("Book", m_Book_mul)]
abbrev s__law_cell : Stmt := topS 31
abbrev N__law_cell : List Str := ["_law_script", "_law_k", "_law_cell_here"]
theorem sc__law_cell : FnScope N__law_cell ["_law_script", "_law_k"] (defScope s__law_cell) := ⟨rfl, rfl, rfl, by decide +kernel, rfl, by decide +kernel, by decide +kernel⟩
def b__law_cell : DL.Env → R Fl := fun r => (then_ (asg 2 r (o2 addD (o2 mulD (.ok (.int 17)) (get r 1)) (.ok (.int 5)))) (fun r => (then_ (ifv (tst (o2 ltD (get r 1) (cbf (orC (lenO opT_len) lenD) (acons (get r 0) (.ok []))))) (then_ (asg 2 r (cbf absD (acons (o2 ixA (get r 0) (get r 1)) (.ok [])))) (fun r => (ifv (tst (o2 geX (get r 2) (o2 powD (.ok (.int 10)) (.ok (.int 18))))) (ret (o2 subD (get r 2) (o2 powD (.ok (.int 10)) (.ok (.int 18))))) (.ok (.nx r))))) (ifv (tst (o2 gtD (cbf (orC (lenO opT_len) lenD) (acons (get r 0) (.ok []))) (.ok (.int 0)))) (asg 2 r (o2 addD (cbf absD (acons (o2 ixA (get r 0) (o2 modD (cbf intD (acons (get r 1) (.ok []))) (cbf (orC (lenO opT_len) lenD) (acons (get r 0) (.ok []))))) (.ok []))) (o2 mulD (.ok (.int 101)) (get r 1)))) (.ok (.nx r)))) (fun r => (then_ (asg 2 r (o2 modD (cbf intD (acons (o2 addD (o2 addD (o2 mulD (get r 2) (.ok (.int 48271))) (o2 mulD (.ok (.int 11)) (get r 1))) (.ok (.int 7))) (.ok []))) (.ok (.int 2147483647)))) (fun r => (ret (o2 fdivD (o2 modD (cbf intD (acons (o2 mulD (o2 addD (o2 addD (o2A opT_mul mulD (get r 2) (get r 2)) (o2 mulD (.ok (.int 69621)) (get r 2))) (get r 1)) (.ok (.int 1000000000039))) (.ok []))) (.ok (.int 2305843009213693951))) (.ok (.int 2))))))))))
def m__law_cell : List D → R D := runX 3 b__law_cell
theorem k__law_cell (F : FnAt K mg "_law_cell" s__law_cell ["_law_script", "_law_k"]) (b_len : mg "len" = none) (b_abs : mg "abs" = none) (b_int : mg "int" = none) (O_len : OpsAt P w K mg base "__len__" 1 1 opT_len) (O_mul : OpsAt P w K mg base "__mul__" 9 2 opT_mul) : KnX P w K mg base "_law_cell" 13 2 m__law_cell :=
  KnX.mk' (M := []) (M' := []) F sc__law_cell (by decide) fun f cdv A outer s H E hr => ⟨_,
(mss_cons (ms_set 2 sc__law_cell.nd (me_op (r := rAddX K) op_addX rs_add (me_op DL.op_mulX rs_mul me_int (me_var 1)) me_int))
(mss_cons (ms_if (mt_cmp (r := rLtX K) (op_ltX hr) rs_lt (me_var 1) (me_lenA K O_len hr (by rfl) b_len (ma_cons (me_var 0) ma_nil)))
(mss_cons (ms_set 2 sc__law_cell.nd (me_callB call_abs cs_abs (by rfl) b_abs (by decide +kernel) (ma_cons (me_ixA K (hu_of hr) (me_var 0) (me_var 1)) ma_nil)))
(mss_one (ms_if (mt_cmp (r := rGeX K) (op_geX hr) rs_geX (me_var 2) (me_op op_pow rs_pow me_int me_int))
(mss_one (ms_ret (me_op op_sub rs_sub (me_var 2) (me_op op_pow rs_pow me_int me_int))))
mss_nil)))
(mss_one (ms_if (mt_cmp op_gt rs_gt (me_lenA K O_len hr (by rfl) b_len (ma_cons (me_var 0) ma_nil)) me_int)
(mss_one (ms_set 2 sc__law_cell.nd (me_op (r := rAddX K) op_addX rs_add (me_callB call_abs cs_abs (by rfl) b_abs (by decide +kernel) (ma_cons (me_ixA K (hu_of hr) (me_var 0) (me_op op_mod rs_mod (me_callTy call_int1 cs_int (by rfl) b_int (by decide +kernel) (ma_cons (me_var 1) ma_nil)) (me_lenA K O_len hr (by rfl) b_len (ma_cons (me_var 0) ma_nil)))) ma_nil)) (me_op DL.op_mulX rs_mul me_int (me_var 1)))))
mss_nil)))
(mss_cons (ms_set 2 sc__law_cell.nd (me_op op_mod rs_mod (me_callTy call_int1 cs_int (by rfl) b_int (by decide +kernel) (ma_cons (me_op (r := rAddX K) op_addX rs_add (me_op (r := rAddX K) op_addX rs_add (me_op DL.op_mulX rs_mul (me_var 2) me_int) (me_op DL.op_mulX rs_mul me_int (me_var 1))) me_int) ma_nil)) me_int))
(mss_one (ms_ret (me_op op_fdiv rs_fdiv (me_op op_mod rs_mod (me_callTy call_int1 cs_int (by rfl) b_int (by decide +kernel) (ma_cons (me_op DL.op_mulX rs_mul (me_op (r := rAddX K) op_addX rs_add (me_op (r := rAddX K) op_addX rs_add (me_binA K O_mul hr (px (L2N.takes_of rfl rfl rfl rfl)) (me_var 2) (me_var 2) (me_op DL.op_mulX rs_mul (me_var 2) (me_var 2))) (me_op DL.op_mulX rs_mul me_int (me_var 2))) (me_var 1)) me_int) ma_nil)) me_int) me_int))))))⟩
abbrev s_Book_eq : Stmt := inC (topS 15) 3
abbrev N_Book_eq : List Str := ["self", "other"]
theorem sc_Book_eq : FnScope N_Book_eq ["self", "other"] (defScope s_Book_eq) := ⟨rfl, rfl, rfl, by decide +kernel, rfl, by decide +kernel, by decide +kernel⟩
def b_Book_eq : DL.Env → R Fl := fun r => (ret (vand (cbf (isoD oT oB (fun _ _ => none)) (acons (get r 1) (acons (.ok (.cls "Book")) (.ok [])))) (vand (o2 eqD (o1 (fldD ["Book"] "places") (get r 0)) (o1 (fldD ["Book"] "places") (get r 1))) (vand (o2 eqD (o1 (fldD ["Book"] "size") (get r 0)) (o1 (fldD ["Book"] "size") (get r 1))) (o2 eqD (o1 (fldD ["Book"] "rooms") (get r 0)) (o1 (fldD ["Book"] "rooms") (get r 1)))))))
def m_Book_eq : List D → R D := runX 2 b_Book_eq
theorem t_Book___eq__ {f : Addr} {fd : FuncData} (F : Fun K "__eq__" "Book.__eq__" s_Book_eq f fd) (b : Binds K fd ["self", "other"] []) {C_Book : Addr} (h_Book : mg "Book" = some (.ref C_Book)) (b_isinstance : mg "isinstance" = none) (S_o : OSub K mg oT oB (fun _ _ => none)) (f_places : ClF K (g0 mg) ["Book"] "places") (f_size : ClF K (g0 mg) ["Book"] "size") (f_rooms : ClF K (g0 mg) ["Book"] "rooms") (hc : Cls K C_Book) (hm : Meth K C_Book "__eq__" f) : MtAt P w K mg base "Book" C_Book "__eq__" 1 2 m_Book_eq :=
  MtAt.mk' (M := []) (M' := []) F h_Book hc hm b sc_Book_eq (by decide) fun cdv A outer s H E hr => ⟨_,
(mss_one (ms_ret (me_and (me_callB (r := rIsi K) call_isi (cs_iso S_o) (by rfl) b_isinstance (by decide +kernel) (ma_cons (me_var 1) (ma_cons (me_cls (by rfl) h_Book) ma_nil))) (me_and (me_cmp (r := rEqD K) (op_eqD hr.units) rs_eq (me_fldK K ["Book"] f_places (me_var 0)) (me_fldK K ["Book"] f_places (me_var 1))) (me_and (me_cmp (r := rEqD K) (op_eqD hr.units) rs_eq (me_fldK K ["Book"] f_size (me_var 0)) (me_fldK K ["Book"] f_size (me_var 1))) (me_one (me_cmp (r := rEqD K) (op_eqD hr.units) rs_eq (me_fldK K ["Book"] f_rooms (me_var 0)) (me_fldK K ["Book"] f_rooms (me_var 1)))))))))⟩
def opT_eq : List (Str × (List D → R D)) := [("Book", m_Book_eq)]
abbrev s__law_subsets : Stmt := topS 32
abbrev N__law_subsets : List Str := ["_law_n", "_law_size", "_law_found", "_law_p", "_law_room_here"]
theorem sc__law_subsets : FnScope N__law_subsets ["_law_n", "_law_size"] (defScope s__law_subsets) := ⟨rfl, rfl, rfl, by decide +kernel, rfl, by decide +kernel, by decide +kernel⟩
def b__law_subsets : DL.Env → R Fl := fun r => (then_ (asg 2 r (dsp lstD (acons (dsp lstD (.ok [])) (.ok [])))) (fun r => (then_ (forR rg1 (agV 3) (fun r => (asg 2 r (o2 addD (get r 2) (lcM [4] (fun r => (itsO opT_iter (get r 2))) (agV 4) (fun _ => .ok true) (fun r => (o2 addD (get r 4) (dsp lstD (acons (get r 3) (.ok []))))) r)))) r (acons (get r 0) (.ok []))) (fun r => (ret (cbf sortedH (acons (lcM [4] (fun r => (itsO opT_iter (get r 2))) (agV 4) (fun r => (tst (o2 (orL (eqO opT_eq) eqD) (cbf (orC (lenO opT_len) lenD) (acons (get r 4) (.ok []))) (get r 1)))) (fun r => (get r 4)) r) (.ok []))))))))
def m__law_subsets : List D → R D := runX 5 b__law_subsets
theorem k__law_subsets (F : FnAt K mg "_law_subsets" s__law_subsets ["_law_n", "_law_size"]) (b_range : mg "range" = none) (b_len : mg "len" = none) (b_sorted : mg "sorted" = none) (O_iter : ItsAt P w K mg base 1 opT_iter) (O_len : OpsAt P w K mg base "__len__" 1 1 opT_len) (O_eq : OpsAt P w K mg base "__eq__" 1 2 opT_eq) : KnX P w K mg base "_law_subsets" 5 2 m__law_subsets :=
  KnX.mk' (M := []) (M' := []) F sc__law_subsets (by decide) fun f cdv A outer s H E hr => ⟨_,
(mss_cons (ms_set 2 sc__law_subsets.nd (me_lst (ma_cons (me_lst ma_nil) ma_nil)))
(mss_cons (ms_forR1 (passes_of rfl) rfl (by rfl) b_range (ma_cons (me_var 0) ma_nil) (mg_name 3 sc__law_subsets.nd) (agin_name (by decide))
(mss_one (ms_set 2 sc__law_subsets.nd (me_op (r := rAddX K) op_addX rs_add (me_var 2) (me_lc (own := [("_law_room_here", 4)]) rfl sc__law_subsets.nd (mi_seqO K O_iter hr (me_var 2)) (blkOk_by (N := N__law_subsets) (sc := defScope s__law_subsets) (own := [("_law_room_here", 4)]) (by decide +kernel)) (fun _ _ _ _ _ => (mg_name 4 sc__law_subsets.nd)) (fun _ _ _ _ _ => mts_nil) (fun _ _ _ _ _ => (me_op (r := rAddX K) op_addX rs_add (me_var 4) (me_lst (ma_cons (me_var 3) ma_nil)))) (agin_name (by decide)))))))
(mss_one (ms_ret (me_callB (r := rSortedG K) (cr_sortedG (hu65 hr)) cs_sortedH (by rfl) b_sorted (by decide +kernel) (ma_cons (me_lc (own := [("_law_room_here", 4)]) rfl sc__law_subsets.nd (mi_seqO K O_iter hr (me_var 2)) (blkOk_by (N := N__law_subsets) (sc := defScope s__law_subsets) (own := [("_law_room_here", 4)]) (by decide +kernel)) (fun _ _ _ _ _ => (mg_name 4 sc__law_subsets.nd)) (fun _ _ _ _ _ => (mts_one (mt_eqA K O_eq hr (me_lenA K O_len hr (by rfl) b_len (ma_cons (me_var 4) ma_nil)) (me_var 1)))) (fun _ _ _ _ _ => (me_var 4)) (agin_name (by decide))) ma_nil))))))⟩
abbrev s__law_chosen : Stmt := topS 33
abbrev N__law_chosen : List Str := ["_law_n", "_law_size", "_law_cell_here", "_law_left", "_law_room_here", "_law_k"]
theorem sc__law_chosen : FnScope N__law_chosen ["_law_n", "_law_size", "_law_cell_here"] (defScope s__law_chosen) := ⟨rfl, rfl, rfl, by decide +kernel, rfl, by decide +kernel, by decide +kernel⟩
def b__law_chosen : DL.Env → R Fl := fun r => (then_ (ownS 3 r (dsp rgL1 (acons (get (wipeE r [3, 4]) 0) (.ok [])))) (fun r => (then_ (ownS 4 r (dsp lenOk (.ok []))) (fun r => (then_ (forR rg1 (agV 5) (fun r => (then_ (appPopS 4 3 r (o2 modD (cbf intD (acons (get r 2) (.ok []))) (o2 subD (get r 0) (get r 5)))) (fun r => (asg 2 r (o2 fdivD (get (wipeE r [3, 4]) 2) (o2 subD (get (wipeE r [3, 4]) 0) (get (wipeE r [3, 4]) 5))))))) r (acons (get r 1) (.ok []))) (fun r => (ret (cbf sortedA (acons (get r 4) (.ok []))))))))))
def m__law_chosen : List D → R D := runX 6 b__law_chosen
theorem k__law_chosen (F : FnAt K mg "_law_chosen" s__law_chosen ["_law_n", "_law_size", "_law_cell_here"]) (b_list : mg "list" = none) (b_range : mg "range" = none) (b_int : mg "int" = none) (b_sorted : mg "sorted" = none) : KnX P w K mg base "_law_chosen" 1 3 m__law_chosen :=
  KnX.mk' (M := [3, 4]) (M' := [3, 4]) F sc__law_chosen (by decide) fun f cdv A outer s H E hr => ⟨_,
(mss_cons (ms_own 3 sc__law_chosen.nd (mn_rg1 rfl (by rfl) b_list (by rfl) b_range (me_var 0)))
(mss_cons (ms_own 4 sc__law_chosen.nd (mn_lst ma_nil))
(mss_cons (ms_forR1 (passes_of rfl) rfl (by rfl) b_range (ma_cons (me_var 1) ma_nil) (mg_name 5 sc__law_chosen.nd) (agin_name (by decide))
(mss_cons (ms_appPop 4 3 (me_op op_mod rs_mod (me_callTy call_int1 cs_int (by rfl) b_int (by decide +kernel) (ma_cons (me_var 2) ma_nil)) (me_op op_sub rs_sub (me_var 0) (me_var 5))) (hp := fun h1 => pe_bm PySem.F.plainAttrs_list PySem.F.slot_list_append PySem.F.type_list_append mt_append (pv 4) (pa_cons (pe_bm PySem.F.plainAttrs_list PySem.F.slot_list_pop PySem.F.type_list_pop mt_popAt (pv 3) (pa_cons h1 pa_nil)) pa_nil)))
(mss_one (ms_set 2 sc__law_chosen.nd (me_op op_fdiv rs_fdiv (me_var 2) (me_op op_sub rs_sub (me_var 0) (me_var 5)))))))
(mss_one (ms_ret (me_callB (r := rSortedA K) cr_sortedA cs_sortedA (by rfl) b_sorted (by decide +kernel) (ma_cons (me_var 4) ma_nil)))))))⟩
abbrev s__law_rooms : Stmt := topS 34
abbrev N__law_rooms : List Str := ["_law_script", "_law_at", "_law_n", "_law_size", "_law_rooms_here", "_law_cell_here", "_law_room_here", "_law_k"]
theorem sc__law_rooms : FnScope N__law_rooms ["_law_script", "_law_at", "_law_n", "_law_size"] (defScope s__law_rooms) := ⟨rfl, rfl, rfl, by decide +kernel, rfl, by decide +kernel, by decide +kernel⟩
def b__law_rooms : DL.Env → R Fl := fun r => (then_ (ownS 4 r (dsp lenOk (.ok []))) (fun r => (then_ (ifv (tst (o2 leD (get r 2) (.ok (.int 6)))) (then_ (asg 5 r (call_ 2 m__law_cell (acons (get (wipeE r [4]) 0) (acons (get (wipeE r [4]) 1) (.ok []))))) (fun r => (then_ (forS (agV 6) (fun r => (then_ (ifv (tst (o2 eqD (o2 modD (cbf intD (acons (get r 5) (.ok []))) (.ok (.int 2))) (.ok (.int 1)))) (appS 4 r (get (wipeE r [4]) 6)) (.ok (.nx r))) (fun r => (asg 5 r (o2 fdivD (get (wipeE r [4]) 5) (.ok (.int 2))))))) r (its (call_ 2 m__law_subsets (acons (get (wipeE r [4]) 2) (acons (get (wipeE r [4]) 3) (.ok [])))))) (fun r => (ret (get r 4)))))) (.ok (.nx r))) (fun r => (then_ (forR rg1 (agV 7) (fun r => (then_ (asg 6 r (call_ 3 m__law_chosen (acons (get (wipeE r [4]) 2) (acons (get (wipeE r [4]) 3) (acons (call_ 2 m__law_cell (acons (get (wipeE r [4]) 0) (acons (o2 addD (o2 addD (get (wipeE r [4]) 1) (.ok (.int 1))) (get (wipeE r [4]) 7)) (.ok [])))) (.ok [])))))) (fun r => (ifv (tst (o2 (orR (fun x y => notD (inO opT_in x y)) ninG) (get r 6) (get r 4))) (appS 4 r (get (wipeE r [4]) 6)) (.ok (.nx r)))))) r (acons (o2 modD (cbf intD (acons (call_ 2 m__law_cell (acons (get r 0) (acons (get r 1) (.ok [])))) (.ok []))) (.ok (.int 10))) (.ok []))) (fun r => (ret (cbf sortedH (acons (get r 4) (.ok []))))))))))
def m__law_rooms : List D → R D := runX 8 b__law_rooms
theorem k__law_rooms (F : FnAt K mg "_law_rooms" s__law_rooms ["_law_script", "_law_at", "_law_n", "_law_size"]) (k__law_cell : KnX P w K mg base "_law_cell" 13 2 m__law_cell) (k__law_subsets : KnX P w K mg base "_law_subsets" 5 2 m__law_subsets) (k__law_chosen : KnX P w K mg base "_law_chosen" 1 3 m__law_chosen) (b_int : mg "int" = none) (b_range : mg "range" = none) (b_sorted : mg "sorted" = none) (O_in : OpsAt P w K mg base "__contains__" 1 2 opT_in) : KnX P w K mg base "_law_rooms" 14 4 m__law_rooms :=
  KnX.mk' (M := [4]) (M' := [4]) F sc__law_rooms (by decide) fun f cdv A outer s H E hr => ⟨_,
(mss_cons (ms_own 4 sc__law_rooms.nd (mn_lst ma_nil))
(mss_cons (ms_if (mt_cmp op_le rs_le (me_var 2) me_int)
(mss_cons (ms_set 5 sc__law_rooms.nd (me_callX k__law_cell hr (px (L2N.takes_of rfl rfl rfl rfl)) (by rfl) (ma_cons (me_var 0) (ma_cons (me_var 1) ma_nil))))
(mss_cons (ms_for (passes_of rfl) rfl (mi_seq K (me_callX k__law_subsets hr (px (L2N.takes_of rfl rfl rfl rfl)) (by rfl) (ma_cons (me_var 2) (ma_cons (me_var 3) ma_nil)))) (mg_name 6 sc__law_rooms.nd) (agin_name (by decide))
(mss_cons (ms_if (mt_cmp (r := rEqD K) (op_eqD hr.units) rs_eq (me_op op_mod rs_mod (me_callTy call_int1 cs_int (by rfl) b_int (by decide +kernel) (ma_cons (me_var 5) ma_nil)) me_int) me_int)
(mss_one (ms_app 4 (me_var 6) (hp := fun h1 => pe_bm PySem.F.plainAttrs_list PySem.F.slot_list_append PySem.F.type_list_append mt_append (pv 4) (pa_cons h1 pa_nil))))
mss_nil)
(mss_one (ms_set 5 sc__law_rooms.nd (me_op op_fdiv rs_fdiv (me_var 5) me_int)))))
(mss_one (ms_ret (me_var 4)))))
mss_nil)
(mss_cons (ms_forR1 (passes_of rfl) rfl (by rfl) b_range (ma_cons (me_op op_mod rs_mod (me_callTy call_int1 cs_int (by rfl) b_int (by decide +kernel) (ma_cons (me_callX k__law_cell hr (px (L2N.takes_of rfl rfl rfl rfl)) (by rfl) (ma_cons (me_var 0) (ma_cons (me_var 1) ma_nil))) ma_nil)) me_int) ma_nil) (mg_name 7 sc__law_rooms.nd) (agin_name (by decide))
(mss_cons (ms_set 6 sc__law_rooms.nd (me_callX k__law_chosen hr (px (L2N.takes_of rfl rfl rfl rfl)) (by rfl) (ma_cons (me_var 2) (ma_cons (me_var 3) (ma_cons (me_callX k__law_cell hr (px (L2N.takes_of rfl rfl rfl rfl)) (by rfl) (ma_cons (me_var 0) (ma_cons (me_op (r := rAddX K) op_addX rs_add (me_op (r := rAddX K) op_addX rs_add (me_var 1) me_int) (me_var 7)) ma_nil))) ma_nil)))))
(mss_one (ms_if (mt_ninA' K O_in hr (me_var 6) (me_var 4))
(mss_one (ms_app 4 (me_var 6) (hp := fun h1 => pe_bm PySem.F.plainAttrs_list PySem.F.slot_list_append PySem.F.type_list_append mt_append (pv 4) (pa_cons h1 pa_nil))))
mss_nil))))
(mss_one (ms_ret (me_callB (r := rSortedG K) (cr_sortedG (hu65 hr)) cs_sortedH (by rfl) b_sorted (by decide +kernel) (ma_cons (me_var 4) ma_nil)))))))⟩
abbrev s__law_text : Stmt := topS 35
abbrev N__law_text : List Str := ["_law_n", "_law_size", "_law_rooms_here", "_law_lines", "_law_room_here", "_law_p"]
theorem sc__law_text : FnScope N__law_text ["_law_n", "_law_size", "_law_rooms_here"] (defScope s__law_text) := ⟨rfl, rfl, rfl, by decide +kernel, rfl, by decide +kernel, by decide +kernel⟩
def b__law_text : DL.Env → R Fl := fun r => (then_ (ownS 3 r (dsp lenOk (acons (o2 addD (o2 addD (o2 addD (.ok (.str "book ")) (cbf strD (acons (get (wipeE r [3]) 0) (.ok [])))) (.ok (.str " "))) (cbf strD (acons (get (wipeE r [3]) 1) (.ok [])))) (.ok [])))) (fun r => (then_ (forS (agV 4) (fun r => (appS 3 r (oS joinD (.ok (.str " ")) (lcM [5] (fun r => (itsO opT_iter (get r 4))) (agV 5) (fun _ => .ok true) (fun r => (cbf strD (acons (get r 5) (.ok [])))) (wipeE r [3]))))) r (itsO opT_iter (get (wipeE r [3]) 2))) (fun r => (ret (oS joinD (.ok (.str "\n")) (get r 3)))))))
def m__law_text : List D → R D := runX 6 b__law_text
theorem k__law_text (F : FnAt K mg "_law_text" s__law_text ["_law_n", "_law_size", "_law_rooms_here"]) (b_str : mg "str" = none) (O_iter : ItsAt P w K mg base 1 opT_iter) : KnX P w K mg base "_law_text" 5 3 m__law_text :=
  KnX.mk' (M := [3]) (M' := [3]) F sc__law_text (by decide) fun f cdv A outer s H E hr => ⟨_,
(mss_cons (ms_own 3 sc__law_text.nd (mn_lst (ma_cons (me_op (r := rAddX K) op_addX rs_add (me_op (r := rAddX K) op_addX rs_add (me_op (r := rAddX K) op_addX rs_add me_str (me_callTy call_str_int cs_strI (by rfl) b_str (by decide +kernel) (ma_cons (me_var 0) ma_nil))) me_str) (me_callTy call_str_int cs_strI (by rfl) b_str (by decide +kernel) (ma_cons (me_var 1) ma_nil))) ma_nil)))
(mss_cons (ms_for (passes_of rfl) rfl (mi_seqO K O_iter hr (me_var 2)) (mg_name 4 sc__law_text.nd) (agin_name (by decide))
(mss_one (ms_app 3 (me_join me_str (me_lc (own := [("_law_p", 5)]) rfl sc__law_text.nd (mi_seqO K O_iter hr (me_var 4)) (blkOk_by (N := N__law_text) (sc := defScope s__law_text) (own := [("_law_p", 5)]) (by decide +kernel)) (fun _ _ _ _ _ => (mg_name 5 sc__law_text.nd)) (fun _ _ _ _ _ => mts_nil) (fun _ _ _ _ _ => (me_callTy call_str_int cs_strI (by rfl) b_str (by decide +kernel) (ma_cons (me_var 5) ma_nil))) (agin_name (by decide)))) (hp := fun h1 => pe_bm PySem.F.plainAttrs_list PySem.F.slot_list_append PySem.F.type_list_append mt_append (pv 3) (pa_cons h1 pa_nil)))))
(mss_one (ms_ret (me_join me_str (me_var 3))))))⟩
abbrev s_places_text : Stmt := topS 19
abbrev N_places_text : List Str := ["room", "place"]
theorem sc_places_text : FnScope N_places_text ["room"] (defScope s_places_text) := ⟨rfl, rfl, rfl, by decide +kernel, rfl, by decide +kernel, by decide +kernel⟩
def b_places_text : DL.Env → R Fl := fun r => (ret (oS joinD (.ok (.str " ")) (lcM [1] (fun r => (itsO opT_iter (get r 0))) (agV 1) (fun _ => .ok true) (fun r => (cbf strD (acons (get r 1) (.ok [])))) r)))
def m_places_text : List D → R D := runX 2 b_places_text
theorem k_places_text (F : FnAt K mg "places_text" s_places_text ["room"]) (b_str : mg "str" = none) (O_iter : ItsAt P w K mg base 1 opT_iter) : KnX P w K mg base "places_text" 5 1 m_places_text :=
  KnX.mk' (M := []) (M' := []) F sc_places_text (by decide) fun f cdv A outer s H E hr => ⟨_,
(mss_one (ms_ret (me_join me_str (me_lc (own := [("place", 1)]) rfl sc_places_text.nd (mi_seqO K O_iter hr (me_var 0)) (blkOk_by (N := N_places_text) (sc := defScope s_places_text) (own := [("place", 1)]) (by decide +kernel)) (fun _ _ _ _ _ => (mg_name 1 sc_places_text.nd)) (fun _ _ _ _ _ => mts_nil) (fun _ _ _ _ _ => (me_callTy call_str_int cs_strI (by rfl) b_str (by decide +kernel) (ma_cons (me_var 1) ma_nil))) (agin_name (by decide))))))⟩
abbrev s_book_lines : Stmt := topS 20
abbrev N_book_lines : List Str := ["book", "room"]
theorem sc_book_lines : FnScope N_book_lines ["book"] (defScope s_book_lines) := ⟨rfl, rfl, rfl, by decide +kernel, rfl, by decide +kernel, by decide +kernel⟩
def b_book_lines : DL.Env → R Fl := fun r => (ret (o2 addD (dsp lstD (acons ((jn (.ok (.str "book ")) (jn (o1 fvD (o1 (fldD ["Book"] "places") (get r 0))) (jn (.ok (.str " ")) (jn (o1 fvD (o1 (fldD ["Book"] "size") (get r 0))) jn0)))) Str.empty) (.ok []))) (lcM [1] (fun r => (its (o1 (fldD ["Book"] "rooms") (get r 0)))) (agV 1) (fun _ => .ok true) (fun r => (call_ 1 m_places_text (acons (get r 1) (.ok [])))) r)))
def m_book_lines : List D → R D := runX 2 b_book_lines
theorem k_book_lines (F : FnAt K mg "book_lines" s_book_lines ["book"]) (k_places_text : KnX P w K mg base "places_text" 5 1 m_places_text) (f_size : ClF K (g0 mg) ["Book"] "size") (f_places : ClF K (g0 mg) ["Book"] "places") (f_rooms : ClF K (g0 mg) ["Book"] "rooms") : KnX P w K mg base "book_lines" 6 1 m_book_lines :=
  KnX.mk' (M := []) (M' := []) F sc_book_lines (by decide) fun f cdv A outer s H E hr => ⟨_,
(mss_one (ms_ret (me_op (r := rAddX K) op_addX rs_add (me_lst (ma_cons (me_joined (mj_cons me_str (mj_cons (me_fv (me_fldK K ["Book"] f_places (me_var 0))) (mj_cons me_str (mj_cons (me_fv (me_fldK K ["Book"] f_size (me_var 0))) mj_nil))))) ma_nil)) (me_lc (own := [("room", 1)]) rfl sc_book_lines.nd (mi_seq K (me_fldK K ["Book"] f_rooms (me_var 0))) (blkOk_by (N := N_book_lines) (sc := defScope s_book_lines) (own := [("room", 1)]) (by decide +kernel)) (fun _ _ _ _ _ => (mg_name 1 sc_book_lines.nd)) (fun _ _ _ _ _ => mts_nil) (fun _ _ _ _ _ => (me_callX k_places_text hr pxL (by rfl) (ma_cons (me_var 1) ma_nil))) (agin_name (by decide))))))⟩
abbrev s_format_book : Stmt := topS 21
abbrev N_format_book : List Str := ["book"]
theorem sc_format_book : FnScope N_format_book ["book"] (defScope s_format_book) := ⟨rfl, rfl, rfl, by decide +kernel, rfl, by decide +kernel, by decide +kernel⟩
def b_format_book : DL.Env → R Fl := fun r => (ret (oS joinD (.ok (.str "\n")) (call_ 1 m_book_lines (acons (get r 0) (.ok [])))))
def m_format_book : List D → R D := runX 1 b_format_book
theorem k_format_book (F : FnAt K mg "format_book" s_format_book ["book"]) (k_book_lines : KnX P w K mg base "book_lines" 6 1 m_book_lines) : KnX P w K mg base "format_book" 7 1 m_format_book :=
  KnX.mk' (M := []) (M' := []) F sc_format_book (by decide) fun f cdv A outer s H E hr => ⟨_,
(mss_one (ms_ret (me_join me_str (me_callX k_book_lines hr (px (L2N.takes_of rfl rfl rfl rfl)) (by rfl) (ma_cons (me_var 0) ma_nil)))))⟩
abbrev s_is_number_word : Stmt := topS 22
abbrev N_is_number_word : List Str := ["word"]
theorem sc_is_number_word : FnScope N_is_number_word ["word"] (defScope s_is_number_word) := ⟨rfl, rfl, rfl, by decide +kernel, rfl, by decide +kernel, by decide +kernel⟩
def b_is_number_word : DL.Env → R Fl := fun r => (then_ (ifv (tnot (tand (tst (o1 isasciiD (get r 0))) (tst (o1 isdigitD (get r 0))))) (ret (.ok (.bl false))) (.ok (.nx r))) (fun r => (ret (vor (o2 eqD (get r 0) (.ok (.str "0"))) (vand (o2 neD (o2 ixA (get r 0) (.ok (.int 0))) (.ok (.str "0"))) (o2 leD (cbf lenT (acons (get r 0) (.ok []))) (.ok (.int 60))))))))
def m_is_number_word : List D → R D := runX 1 b_is_number_word
theorem k_is_number_word (F : FnAt K mg "is_number_word" s_is_number_word ["word"]) (b_len : mg "len" = none) {t_MOST_DIGITS : Tok} (g_MOST_DIGITS : mg "MOST_DIGITS" = some (.int 60 t_MOST_DIGITS)) : KnX P w K mg base "is_number_word" 1 1 m_is_number_word :=
  KnX.mk' (M := []) (M' := []) F sc_is_number_word (by decide) fun f cdv A outer s H E hr => ⟨_,
(mss_cons (ms_if (mt_not (MW.mt (mw_and (mt_val (me_isascii (me_var 0))) (mw_and1 (mt_val (me_isdigit (me_var 0)))))))
(mss_one (ms_ret me_bl))
mss_nil)
(mss_one (ms_ret (me_or (me_cmp (r := rEqD K) (op_eqD hr.units) rs_eq (me_var 0) me_str) (me_one (me_and (me_cmp (r := rNeD K) (op_neD hr.units) rs_ne (me_ixA K (hu_of hr) (me_var 0) me_int) me_str) (me_one (me_cmp op_le rs_le (me_callB cr_lenT cs_lenT (by rfl) b_len (by decide +kernel) (ma_cons (me_var 0) ma_nil)) (me_glb (v := .int 60) (by rfl) g_MOST_DIGITS ⟨_, rfl⟩ (fun _ => .int _))))))))))⟩
abbrev s_are_number_words : Stmt := topS 23
abbrev N_are_number_words : List Str := ["words", "word"]
theorem sc_are_number_words : FnScope N_are_number_words ["words"] (defScope s_are_number_words) := ⟨rfl, rfl, rfl, by decide +kernel, rfl, by decide +kernel, by decide +kernel⟩
def b_are_number_words : DL.Env → R Fl := fun r => (ret (cbf allD (acons (lcM [1] (fun r => (itsO opT_iter (get r 0))) (agV 1) (fun _ => .ok true) (fun r => (call_ 1 m_is_number_word (acons (get r 1) (.ok [])))) r) (.ok []))))
def m_are_number_words : List D → R D := runX 2 b_are_number_words
theorem k_are_number_words (F : FnAt K mg "are_number_words" s_are_number_words ["words"]) (k_is_number_word : KnX P w K mg base "is_number_word" 1 1 m_is_number_word) (b_all : mg "all" = none) (O_iter : ItsAt P w K mg base 1 opT_iter) : KnX P w K mg base "are_number_words" 5 1 m_are_number_words :=
  KnX.mk' (M := []) (M' := []) F sc_are_number_words (by decide) fun f cdv A outer s H E hr => ⟨_,
(mss_one (ms_ret (me_callB (r := rAll K) (cr_all rfl) cs_all (by rfl) b_all (by decide +kernel) (ma_cons (me_lc (own := [("word", 1)]) rfl sc_are_number_words.nd (mi_seqO K O_iter hr (me_var 0)) (blkOk_by (N := N_are_number_words) (sc := defScope s_are_number_words) (own := [("word", 1)]) (by decide +kernel)) (fun _ _ _ _ _ => (mg_name 1 sc_are_number_words.nd)) (fun _ _ _ _ _ => mts_nil) (fun _ _ _ _ _ => (me_callX k_is_number_word hr pxL (by rfl) (ma_cons (me_var 1) ma_nil))) (agin_name (by decide))) ma_nil))))⟩
abbrev s_head_fault : Stmt := topS 24
abbrev N_head_fault : List Str := ["words", "kind"]
theorem sc_head_fault : FnScope N_head_fault ["words", "kind"] (defScope s_head_fault) := ⟨rfl, rfl, rfl, by decide +kernel, rfl, by decide +kernel, by decide +kernel⟩
def b_head_fault : DL.Env → R Fl := fun r => (then_ (ifv (tor (tst (o2 neD (cbf (orC (lenO opT_len) lenD) (acons (get r 0) (.ok []))) (.ok (.int 3)))) (tst (o2 neD (o2 ixA (get r 0) (.ok (.int 0))) (get r 1)))) (ret (.ok (.str "head"))) (.ok (.nx r))) (fun r => (then_ (ifv (tnot (tst (call_ 1 m_are_number_words (acons (o3 sliceD (get r 0) (toI (.ok (.int 1))) (.ok none)) (.ok []))))) (ret (.ok (.str "number"))) (.ok (.nx r))) (fun r => (then_ (ifv (tnot (tst (ch2 leD leD (.ok (.int 1)) (cbf intT (acons (o2 ixA (get r 0) (.ok (.int 1))) (.ok []))) (.ok (.int 12))))) (ret (.ok (.str "places"))) (.ok (.nx r))) (fun r => (ret (.ok (.str "")))))))))
def m_head_fault : List D → R D := runX 2 b_head_fault
theorem k_head_fault (F : FnAt K mg "head_fault" s_head_fault ["words", "kind"]) (k_are_number_words : KnX P w K mg base "are_number_words" 5 1 m_are_number_words) (b_len : mg "len" = none) (b_int : mg "int" = none) {t_MOST_PLACES : Tok} (g_MOST_PLACES : mg "MOST_PLACES" = some (.int 12 t_MOST_PLACES)) (O_len : OpsAt P w K mg base "__len__" 1 1 opT_len) : KnX P w K mg base "head_fault" 6 2 m_head_fault :=
  KnX.mk' (M := []) (M' := []) F sc_head_fault (by decide) fun f cdv A outer s H E hr => ⟨_,
(mss_cons (ms_if (MW.mt (mw_or (mt_cmp (r := rNeD K) (op_neD hr.units) rs_ne (me_lenA K O_len hr (by rfl) b_len (ma_cons (me_var 0) ma_nil)) me_int) (mw_or1 (mt_cmp (r := rNeD K) (op_neD hr.units) rs_ne (me_ixA K (hu_of hr) (me_var 0) me_int) (me_var 1)))))
(mss_one (ms_ret me_str))
mss_nil)
(mss_cons (ms_if (mt_not (mt_val (me_callX k_are_number_words hr (px (L2N.takes_of rfl rfl rfl rfl)) (by rfl) (ma_cons (me_slice (r := rSlX K) sl_X ss_X (me_var 0) (mo_some me_int) mo_none) ma_nil))))
(mss_one (ms_ret me_str))
mss_nil)
(mss_cons (ms_if (mt_not (mt_chain op_le rs_le op_le rs_le me_int (me_callTy cr_intT cs_intT (by rfl) b_int (by decide +kernel) (ma_cons (me_ixA K (hu_of hr) (me_var 0) me_int) ma_nil)) (me_glb (v := .int 12) (by rfl) g_MOST_PLACES ⟨_, rfl⟩ (fun _ => .int _))))
(mss_one (ms_ret me_str))
mss_nil)
(mss_one (ms_ret me_str)))))⟩
abbrev s_read_head : Stmt := topS 27
abbrev N_read_head : List Str := ["words", "line", "kind", "fault"]
theorem sc_read_head : FnScope N_read_head ["words", "line", "kind"] (defScope s_read_head) := ⟨rfl, rfl, rfl, by decide +kernel, rfl, by decide +kernel, by decide +kernel⟩
def b_read_head : DL.Env → R Fl := fun r => (then_ (asg 3 r (call_ 2 m_head_fault (acons (get r 0) (acons (get r 2) (.ok []))))) (fun r => (then_ (ifv (tst (o2 neD (get r 3) (.ok (.str "")))) (raiseS "BadText" ["line", "fault"] (acons (get r 1) (acons (get r 3) (.ok [])))) (.ok (.nx r))) (fun r => (ret (dsp tupD (acons (cbf intT (acons (o2 ixA (get r 0) (.ok (.int 1))) (.ok []))) (acons (cbf intT (acons (o2 ixA (get r 0) (.ok (.int 2))) (.ok []))) (.ok [])))))))))
def m_read_head : List D → R D := runX 4 b_read_head
theorem k_read_head (F : FnAt K mg "read_head" s_read_head ["words", "line", "kind"]) (k_head_fault : KnX P w K mg base "head_fault" 6 2 m_head_fault) (b_int : mg "int" = none) {C_BadText : Addr} (x_BadText : XcAt P w K mg base "BadText" C_BadText ["line", "fault"]) : KnX P w K mg base "read_head" 7 3 m_read_head :=
  KnX.mk' (M := []) (M' := []) F sc_read_head (by decide) fun f cdv A outer s H E hr => ⟨_,
(mss_cons (ms_set 3 sc_read_head.nd (me_callX k_head_fault hr (px (L2N.takes_of rfl rfl rfl rfl)) (by rfl) (ma_cons (me_var 0) (ma_cons (me_var 2) ma_nil))))
(mss_cons (ms_if (mt_cmp (r := rNeD K) (op_neD hr.units) rs_ne (me_var 3) me_str)
(mss_one (ms_raiseX x_BadText (L2N.takes_of rfl rfl rfl rfl) hr (by rfl) (ma_cons (me_var 1) (ma_cons (me_var 3) ma_nil))))
mss_nil)
(mss_one (ms_ret (me_tup (ma_cons (me_callTy cr_intT cs_intT (by rfl) b_int (by decide +kernel) (ma_cons (me_ixA K (hu_of hr) (me_var 0) me_int) ma_nil)) (ma_cons (me_callTy cr_intT cs_intT (by rfl) b_int (by decide +kernel) (ma_cons (me_ixA K (hu_of hr) (me_var 0) me_int) ma_nil)) ma_nil)))))))⟩
abbrev s_read_book_head : Stmt := topS 28
abbrev N_read_book_head : List Str := ["words", "line", "places", "size"]
theorem sc_read_book_head : FnScope N_read_book_head ["words", "line"] (defScope s_read_book_head) := ⟨rfl, rfl, rfl, by decide +kernel, rfl, by decide +kernel, by decide +kernel⟩
def b_read_book_head : DL.Env → R Fl := fun r => (then_ (asgG (tupAs 2 (agC (agV 2) (agC (agV 3) agN))) r (call_ 3 m_read_head (acons (get r 0) (acons (get r 1) (acons (.ok (.str "book")) (.ok [])))))) (fun r => (then_ (ifv (tnot (tst (ch2 leD leD (.ok (.int 1)) (get r 3) (get r 2)))) (raiseS "BadText" ["line", "fault"] (acons (get r 1) (acons (.ok (.str "size")) (.ok [])))) (.ok (.nx r))) (fun r => (ret (dsp tupD (acons (get r 2) (acons (get r 3) (.ok [])))))))))
def m_read_book_head : List D → R D := runX 4 b_read_book_head
theorem k_read_book_head (F : FnAt K mg "read_book_head" s_read_book_head ["words", "line"]) (k_read_head : KnX P w K mg base "read_head" 7 3 m_read_head) {C_BadText : Addr} (x_BadText : XcAt P w K mg base "BadText" C_BadText ["line", "fault"]) : KnX P w K mg base "read_book_head" 8 2 m_read_book_head :=
  KnX.mk' (M := []) (M' := []) F sc_read_book_head (by decide) fun f cdv A outer s H E hr => ⟨_,
(mss_cons (ms_asg (me_callX k_read_head hr (px (L2N.takes_of rfl rfl rfl rfl)) (by rfl) (ma_cons (me_var 0) (ma_cons (me_var 1) (ma_cons me_str ma_nil)))) (mg_tup K (mgs_cons (mg_name 2 sc_read_book_head.nd) (mgs_cons (mg_name 3 sc_read_book_head.nd) mgs_nil))) (agin_tup (agsin_cons (agin_name (by decide)) (agsin_cons (agin_name (by decide)) agsin_nil))))
(mss_cons (ms_if (mt_not (mt_chain op_le rs_le op_le rs_le me_int (me_var 3) (me_var 2)))
(mss_one (ms_raiseX x_BadText (L2N.takes_of rfl rfl rfl rfl) hr (by rfl) (ma_cons (me_var 1) (ma_cons me_str ma_nil))))
mss_nil)
(mss_one (ms_ret (me_tup (ma_cons (me_var 2) (ma_cons (me_var 3) ma_nil)))))))⟩
abbrev s_room_fault_after : Stmt := topS 25
abbrev N_room_fault_after : List Str := ["room", "places", "size", "before", "place", "at"]
theorem sc_room_fault_after : FnScope N_room_fault_after ["room", "places", "size", "before"] (defScope s_room_fault_after) := ⟨rfl, rfl, rfl, by decide +kernel, rfl, by decide +kernel, by decide +kernel⟩
def b_room_fault_after : DL.Env → R Fl := fun r => (then_ (ifv (tst (o2 neD (cbf (orC (lenO opT_len) lenD) (acons (get r 0) (.ok []))) (get r 2))) (ret (.ok (.str "count"))) (.ok (.nx r))) (fun r => (then_ (ifv (tst (cbf anyD (acons (lcM [4] (fun r => (itsO opT_iter (get r 0))) (agV 4) (fun _ => .ok true) (fun r => (o2 geX (get r 4) (get r 1))) r) (.ok [])))) (ret (.ok (.str "place"))) (.ok (.nx r))) (fun r => (then_ (ifv (tst (cbf anyD (acons (lcM [5] (fun r => (dsp rg1 (acons (o2 subD (cbf (orC (lenO opT_len) lenD) (acons (get r 0) (.ok []))) (.ok (.int 1))) (.ok [])))) (agV 5) (fun _ => .ok true) (fun r => (o2 geX (o2 ixA (get r 0) (get r 5)) (o2 ixA (get r 0) (o2 addD (get r 5) (.ok (.int 1)))))) r) (.ok [])))) (ret (.ok (.str "order"))) (.ok (.nx r))) (fun r => (then_ (ifv (tand (tst (o2 gtD (cbf (orC (lenO opT_len) lenD) (acons (get r 3) (.ok []))) (.ok (.int 0)))) (tst (o2 leX (get r 0) (o2 ixA (get r 3) (o1 negD (.ok (.int 1))))))) (ret (.ok (.str "rooms"))) (.ok (.nx r))) (fun r => (ret (.ok (.str "")))))))))))
def m_room_fault_after : List D → R D := runX 6 b_room_fault_after
theorem k_room_fault_after (F : FnAt K mg "room_fault_after" s_room_fault_after ["room", "places", "size", "before"]) (b_len : mg "len" = none) (b_any : mg "any" = none) (b_range : mg "range" = none) (O_len : OpsAt P w K mg base "__len__" 1 1 opT_len) (O_iter : ItsAt P w K mg base 1 opT_iter) : KnX P w K mg base "room_fault_after" 5 4 m_room_fault_after :=
  KnX.mk' (M := []) (M' := []) F sc_room_fault_after (by decide) fun f cdv A outer s H E hr => ⟨_,
(mss_cons (ms_if (mt_cmp (r := rNeD K) (op_neD hr.units) rs_ne (me_lenA K O_len hr (by rfl) b_len (ma_cons (me_var 0) ma_nil)) (me_var 2))
(mss_one (ms_ret me_str))
mss_nil)
(mss_cons (ms_if (mt_val (me_callB (r := rAny K) (cr_any rfl) cs_any (by rfl) b_any (by decide +kernel) (ma_cons (me_lc (own := [("place", 4)]) rfl sc_room_fault_after.nd (mi_seqO K O_iter hr (me_var 0)) (blkOk_by (N := N_room_fault_after) (sc := defScope s_room_fault_after) (own := [("place", 4)]) (by decide +kernel)) (fun _ _ _ _ _ => (mg_name 4 sc_room_fault_after.nd)) (fun _ _ _ _ _ => mts_nil) (fun _ _ _ _ _ => (me_cmp (r := rGeX K) (op_geX hr) rs_geX (me_var 4) (me_var 1))) (agin_name (by decide))) ma_nil)))
(mss_one (ms_ret me_str))
mss_nil)
(mss_cons (ms_if (mt_val (me_callB (r := rAny K) (cr_any rfl) cs_any (by rfl) b_any (by decide +kernel) (ma_cons (me_lc (own := [("at", 5)]) rfl sc_room_fault_after.nd (mi_rng1 (by rfl) b_range (ma_cons (me_op op_sub rs_sub (me_lenA K O_len hr (by rfl) b_len (ma_cons (me_var 0) ma_nil)) me_int) ma_nil)) (blkOk_by (N := N_room_fault_after) (sc := defScope s_room_fault_after) (own := [("at", 5)]) (by decide +kernel)) (fun _ _ _ _ _ => (mg_name 5 sc_room_fault_after.nd)) (fun _ _ _ _ _ => mts_nil) (fun _ _ _ _ _ => (me_cmp (r := rGeX K) (op_geX hr) rs_geX (me_ixA K (hu_of hr) (me_var 0) (me_var 5)) (me_ixA K (hu_of hr) (me_var 0) (me_op (r := rAddX K) op_addX rs_add (me_var 5) me_int)))) (agin_name (by decide))) ma_nil)))
(mss_one (ms_ret me_str))
mss_nil)
(mss_cons (ms_if (MW.mt (mw_and (mt_cmp op_gt rs_gt (me_lenA K O_len hr (by rfl) b_len (ma_cons (me_var 3) ma_nil)) me_int) (mw_and1 (mt_cmp (r := rLeX K) (op_leX hr) rs_leX (me_var 0) (me_ixA K (hu_of hr) (me_var 3) (me_un un_neg us_neg me_int))))))
(mss_one (ms_ret me_str))
mss_nil)
(mss_one (ms_ret me_str))))))⟩
abbrev s_read_room : Stmt := topS 26
abbrev N_read_room : List Str := ["words", "line", "bounds", "before", "room", "places", "size", "fault", "word"]
theorem sc_read_room : FnScope N_read_room ["words", "line", "bounds", "before"] (defScope s_read_room) := ⟨rfl, rfl, rfl, by decide +kernel, rfl, by decide +kernel, by decide +kernel⟩
def b_read_room : DL.Env → R Fl := fun r => (then_ (ifv (tnot (tst (call_ 1 m_are_number_words (acons (get r 0) (.ok []))))) (raiseS "BadText" ["line", "fault"] (acons (get r 1) (acons (.ok (.str "number")) (.ok [])))) (.ok (.nx r))) (fun r => (then_ (asg 4 r (cbf tupleD (acons (lcM [8] (fun r => (itsO opT_iter (get r 0))) (agV 8) (fun _ => .ok true) (fun r => (cbf intT (acons (get r 8) (.ok [])))) r) (.ok [])))) (fun r => (then_ (asgG (tupAs 2 (agC (agV 5) (agC (agV 6) agN))) r (get r 2)) (fun r => (then_ (asg 7 r (call_ 4 m_room_fault_after (acons (get r 4) (acons (get r 5) (acons (get r 6) (acons (get r 3) (.ok []))))))) (fun r => (then_ (ifv (tst (o2 neD (get r 7) (.ok (.str "")))) (raiseS "BadText" ["line", "fault"] (acons (get r 1) (acons (get r 7) (.ok [])))) (.ok (.nx r))) (fun r => (ret (get r 4))))))))))))
def m_read_room : List D → R D := runX 9 b_read_room
theorem k_read_room (F : FnAt K mg "read_room" s_read_room ["words", "line", "bounds", "before"]) (k_are_number_words : KnX P w K mg base "are_number_words" 5 1 m_are_number_words) (k_room_fault_after : KnX P w K mg base "room_fault_after" 5 4 m_room_fault_after) (b_int : mg "int" = none) (b_tuple : mg "tuple" = none) {C_BadText : Addr} (x_BadText : XcAt P w K mg base "BadText" C_BadText ["line", "fault"]) (O_iter : ItsAt P w K mg base 1 opT_iter) : KnX P w K mg base "read_room" 6 4 m_read_room :=
  KnX.mk' (M := []) (M' := []) F sc_read_room (by decide) fun f cdv A outer s H E hr => ⟨_,
(mss_cons (ms_if (mt_not (mt_val (me_callX k_are_number_words hr (px (L2N.takes_of rfl rfl rfl rfl)) (by rfl) (ma_cons (me_var 0) ma_nil))))
(mss_one (ms_raiseX x_BadText (L2N.takes_of rfl rfl rfl rfl) hr (by rfl) (ma_cons (me_var 1) (ma_cons me_str ma_nil))))
mss_nil)
(mss_cons (ms_set 4 sc_read_room.nd (me_callTy (r := rTupOf K) cr_tupOf cs_tuple (by rfl) b_tuple (by decide +kernel) (ma_cons (me_lc (own := [("word", 8)]) rfl sc_read_room.nd (mi_seqO K O_iter hr (me_var 0)) (blkOk_by (N := N_read_room) (sc := defScope s_read_room) (own := [("word", 8)]) (by decide +kernel)) (fun _ _ _ _ _ => (mg_name 8 sc_read_room.nd)) (fun _ _ _ _ _ => mts_nil) (fun _ _ _ _ _ => (me_callTy cr_intT cs_intT (by rfl) b_int (by decide +kernel) (ma_cons (me_var 8) ma_nil))) (agin_name (by decide))) ma_nil)))
(mss_cons (ms_asg (me_var 2) (mg_tup K (mgs_cons (mg_name 5 sc_read_room.nd) (mgs_cons (mg_name 6 sc_read_room.nd) mgs_nil))) (agin_tup (agsin_cons (agin_name (by decide)) (agsin_cons (agin_name (by decide)) agsin_nil))))
(mss_cons (ms_set 7 sc_read_room.nd (me_callX k_room_fault_after hr (px (L2N.takes_of rfl rfl rfl rfl)) (by rfl) (ma_cons (me_var 4) (ma_cons (me_var 5) (ma_cons (me_var 6) (ma_cons (me_var 3) ma_nil))))))
(mss_cons (ms_if (mt_cmp (r := rNeD K) (op_neD hr.units) rs_ne (me_var 7) me_str)
(mss_one (ms_raiseX x_BadText (L2N.takes_of rfl rfl rfl rfl) hr (by rfl) (ma_cons (me_var 1) (ma_cons (me_var 7) ma_nil))))
mss_nil)
(mss_one (ms_ret (me_var 4))))))))⟩
abbrev s_parse_book : Stmt := topS 29
abbrev N_parse_book : List Str := ["text", "lines", "bounds", "rooms", "line", "words", "row"]
theorem sc_parse_book : FnScope N_parse_book ["text"] (defScope s_parse_book) := ⟨rfl, rfl, rfl, by decide +kernel, rfl, by decide +kernel, by decide +kernel⟩
def b_parse_book : DL.Env → R Fl := fun r => (then_ (asg 1 r (oS splitD (get (wipeE r [3]) 0) (.ok (.str "\n")))) (fun r => (then_ (asg 2 r (call_ 2 m_read_book_head (acons (oS splitD (o2 ixA (get (wipeE r [3]) 1) (.ok (.int 0))) (.ok (.str " "))) (acons (.ok (.int 1)) (.ok []))))) (fun r => (then_ (ownS 3 r (dsp lenOk (.ok []))) (fun r => (then_ (forS (tupAs 2 (agC (agV 4) (agC (agV 5) agN))) (fun r => (appSV [3] 3 r (call_ 4 m_read_room (acons (get r 5) (acons (get r 4) (acons (get r 2) (acons (get r 3) (.ok [])))))))) r (dsp (enumK 2) (acons (lcM [6] (fun r => (its (o3 sliceD (get r 1) (toI (.ok (.int 1))) (.ok none)))) (agV 6) (fun _ => .ok true) (fun r => (oS splitD (get r 6) (.ok (.str " ")))) (wipeE r [3])) (.ok [])))) (fun r => (ret (call_ 3 m_Book_init (acons (o2 ixA (get r 2) (.ok (.int 0))) (acons (o2 ixA (get r 2) (.ok (.int 1))) (acons (get r 3) (.ok []))))))))))))))
def m_parse_book : List D → R D := runX 7 b_parse_book
theorem k_parse_book (F : FnAt K mg "parse_book" s_parse_book ["text"]) {C_Book : Addr} (k_read_book_head : KnX P w K mg base "read_book_head" 8 2 m_read_book_head) (k_read_room : KnX P w K mg base "read_room" 6 4 m_read_room) (b_enumerate : mg "enumerate" = none) (k_Book_init : CkAt P w K mg base "Book" C_Book 7 3 m_Book_init) : KnX P w K mg base "parse_book" 9 1 m_parse_book :=
  KnX.mk' (M := [3]) (M' := [3]) F sc_parse_book (by decide) fun f cdv A outer s H E hr => ⟨_,
(mss_cons (ms_set 1 sc_parse_book.nd (me_split (me_var 0) me_str))
(mss_cons (ms_set 2 sc_parse_book.nd (me_callX k_read_book_head hr (px (L2N.takes_of rfl rfl rfl rfl)) (by rfl) (ma_cons (me_split (me_ixA K (hu_of hr) (me_var 1) me_int) me_str) (ma_cons me_int ma_nil))))
(mss_cons (ms_own 3 sc_parse_book.nd (mn_lst ma_nil))
(mss_cons (ms_for (passes_of rfl) rfl (mi_enumK 2 (by rfl) b_enumerate (ma_cons (me_lc (own := [("row", 6)]) rfl sc_parse_book.nd (mi_seq K (me_slice (r := rSlX K) sl_X ss_X (me_var 1) (mo_some me_int) mo_none)) (blkOk_by (N := N_parse_book) (sc := defScope s_parse_book) (own := [("row", 6)]) (by decide +kernel)) (fun _ _ _ _ _ => (mg_name 6 sc_parse_book.nd)) (fun _ _ _ _ _ => mts_nil) (fun _ _ _ _ _ => (me_split (me_var 6) me_str)) (agin_name (by decide))) ma_nil)) (mg_tup K (mgs_cons (mg_name 4 sc_parse_book.nd) (mgs_cons (mg_name 5 sc_parse_book.nd) mgs_nil))) (agin_tup (agsin_cons (agin_name (by decide)) (agsin_cons (agin_name (by decide)) agsin_nil)))
(mss_one (ms_appV 3 (me_callX k_read_room hr (px (L2N.takes_of rfl rfl rfl rfl)) (by rfl) (ma_cons (me_var 5) (ma_cons (me_var 4) (ma_cons (me_var 2) (ma_cons (me_var 3) ma_nil))))) (hp := fun h1 => pe_bm PySem.F.plainAttrs_list PySem.F.slot_list_append PySem.F.type_list_append mt_append (pv 3) (pa_cons h1 pa_nil)))))
(mss_one (ms_ret (me_make k_Book_init hr (px (L2N.takes_of rfl rfl rfl rfl)) (by rfl) (ma_cons (me_ixA K (hu_of hr) (me_var 2) me_int) (ma_cons (me_ixA K (hu_of hr) (me_var 2) me_int) (ma_cons (me_var 3) ma_nil))))))))))⟩
abbrev s__law_whole : Stmt := topS 36
abbrev N__law_whole : List Str := ["_law_actual", "_law_due"]
theorem sc__law_whole : FnScope N__law_whole ["_law_actual", "_law_due"] (defScope s__law_whole) := ⟨rfl, rfl, rfl, by decide +kernel, rfl, by decide +kernel, by decide +kernel⟩
def b__law_whole : DL.Env → R Fl := fun r => (ret (vand (cbf (isoD oT oB (fun _ _ => none)) (acons (get r 0) (acons (.ok (.ty "int")) (.ok [])))) (vand (vnot (cbf (isoD oT oB (fun _ _ => none)) (acons (get r 0) (acons (.ok (.ty "bool")) (.ok []))))) (o2 (orL (eqO opT_eq) eqD) (get r 0) (get r 1)))))
def m__law_whole : List D → R D := runX 2 b__law_whole
theorem k__law_whole (F : FnAt K mg "_law_whole" s__law_whole ["_law_actual", "_law_due"]) (b_int : mg "int" = none) (b_isinstance : mg "isinstance" = none) (b_bool : mg "bool" = none) (S_o : OSub K mg oT oB (fun _ _ => none)) (O_eq : OpsAt P w K mg base "__eq__" 1 2 opT_eq) : KnX P w K mg base "_law_whole" 5 2 m__law_whole :=
  KnX.mk' (M := []) (M' := []) F sc__law_whole (by decide) fun f cdv A outer s H E hr => ⟨_,
(mss_one (ms_ret (me_and (me_callB (r := rIsi K) call_isi (cs_iso S_o) (by rfl) b_isinstance (by decide +kernel) (ma_cons (me_var 0) (ma_cons (me_bty (n := "int") (by rfl) b_int (by decide +kernel)) ma_nil))) (me_and (me_not (me_callB (r := rIsi K) call_isi (cs_iso S_o) (by rfl) b_isinstance (by decide +kernel) (ma_cons (me_var 0) (ma_cons (me_bty (n := "bool") (by rfl) b_bool (by decide +kernel)) ma_nil)))) (me_one (me_eqA K O_eq hr (me_var 0) (me_var 1)))))))⟩
abbrev s__law_room : Stmt := topS 37
abbrev N__law_room : List Str := ["_law_actual", "_law_due", "_law_k"]
theorem sc__law_room : FnScope N__law_room ["_law_actual", "_law_due"] (defScope s__law_room) := ⟨rfl, rfl, rfl, by decide +kernel, rfl, by decide +kernel, by decide +kernel⟩
def b__law_room : DL.Env → R Fl := fun r => (then_ (ifv (tor (tnot (tst (cbf (isoD oT oB (fun _ _ => none)) (acons (get r 0) (acons (.ok (.ty "tuple")) (.ok [])))))) (tst (o2 neD (cbf (orC (lenO opT_len) lenD) (acons (get r 0) (.ok []))) (cbf (orC (lenO opT_len) lenD) (acons (get r 1) (.ok [])))))) (ret (.ok (.bl false))) (.ok (.nx r))) (fun r => (then_ (forR rg1 (agV 2) (fun r => (ifv (tnot (tst (call_ 2 m__law_whole (acons (o2 ixA (get r 0) (get r 2)) (acons (o2 ixA (get r 1) (get r 2)) (.ok [])))))) (ret (.ok (.bl false))) (.ok (.nx r)))) r (acons (cbf (orC (lenO opT_len) lenD) (acons (get r 1) (.ok []))) (.ok []))) (fun r => (ret (.ok (.bl true)))))))
def m__law_room : List D → R D := runX 3 b__law_room
theorem k__law_room (F : FnAt K mg "_law_room" s__law_room ["_law_actual", "_law_due"]) (k__law_whole : KnX P w K mg base "_law_whole" 5 2 m__law_whole) (b_tuple : mg "tuple" = none) (b_isinstance : mg "isinstance" = none) (b_len : mg "len" = none) (b_range : mg "range" = none) (S_o : OSub K mg oT oB (fun _ _ => none)) (O_len : OpsAt P w K mg base "__len__" 1 1 opT_len) : KnX P w K mg base "_law_room" 6 2 m__law_room :=
  KnX.mk' (M := []) (M' := []) F sc__law_room (by decide) fun f cdv A outer s H E hr => ⟨_,
(mss_cons (ms_if (MW.mt (mw_or (mt_not (mt_val (me_callB (r := rIsi K) call_isi (cs_iso S_o) (by rfl) b_isinstance (by decide +kernel) (ma_cons (me_var 0) (ma_cons (me_bty (n := "tuple") (by rfl) b_tuple (by decide +kernel)) ma_nil))))) (mw_or1 (mt_cmp (r := rNeD K) (op_neD hr.units) rs_ne (me_lenA K O_len hr (by rfl) b_len (ma_cons (me_var 0) ma_nil)) (me_lenA K O_len hr (by rfl) b_len (ma_cons (me_var 1) ma_nil))))))
(mss_one (ms_ret me_bl))
mss_nil)
(mss_cons (ms_forR1 (passes_of rfl) rfl (by rfl) b_range (ma_cons (me_lenA K O_len hr (by rfl) b_len (ma_cons (me_var 1) ma_nil)) ma_nil) (mg_name 2 sc__law_room.nd) (agin_name (by decide))
(mss_one (ms_if (mt_not (mt_val (me_callX k__law_whole hr (px (L2N.takes_of rfl rfl rfl rfl)) (by rfl) (ma_cons (me_ixA K (hu_of hr) (me_var 0) (me_var 2)) (ma_cons (me_ixA K (hu_of hr) (me_var 1) (me_var 2)) ma_nil)))))
(mss_one (ms_ret me_bl))
mss_nil)))
(mss_one (ms_ret me_bl))))⟩
abbrev s__law_there_and_back : Stmt := topS 38
abbrev N__law_there_and_back : List Str := ["_law_n", "_law_size", "_law_rooms_here", "_law_text_here", "_law_actual", "_law_book", "_law_k", "_law_room_here"]
theorem sc__law_there_and_back : FnScope N__law_there_and_back ["_law_n", "_law_size", "_law_rooms_here"] (defScope s__law_there_and_back) := ⟨rfl, rfl, rfl, by decide +kernel, rfl, by decide +kernel, by decide +kernel⟩
def b__law_there_and_back : DL.Env → R Fl := fun r => (then_ (asg 3 r (call_ 3 m__law_text (acons (get r 0) (acons (get r 1) (acons (get r 2) (.ok [])))))) (fun r => (then_ (asg 4 r (call_ 1 m_format_book (acons (call_ 3 m_Book_init (acons (get r 0) (acons (get r 1) (acons (lcM [7] (fun r => (its (o2 addD (o3 sliceD (get r 2) (toI (.ok (.int 1))) (.ok none)) (o3 sliceD (get r 2) (.ok none) (toI (.ok (.int 1))))))) (agV 7) (fun _ => .ok true) (fun r => (cbf (orC (listO opT_iter opT_len) listD) (acons (get r 7) (.ok [])))) r) (.ok []))))) (.ok [])))) (fun r => (then_ (ifv (tor (tnot (tst (cbf (isoD oT oB (fun _ _ => none)) (acons (get r 4) (acons (.ok (.ty "str")) (.ok [])))))) (tst (o2 neD (get r 4) (get r 3)))) (ret (.ok (.bl false))) (.ok (.nx r))) (fun r => (then_ (asg 5 r (call_ 1 m_parse_book (acons (get r 3) (.ok [])))) (fun r => (then_ (ifv (tor (tnot (tst (cbf (isoD oT oB (fun _ _ => none)) (acons (get r 5) (acons (.ok (.cls "Book")) (.ok [])))))) (tor (tnot (tst (call_ 2 m__law_whole (acons (o1 (fldD ["Book"] "places") (get r 5)) (acons (get r 0) (.ok [])))))) (tnot (tst (call_ 2 m__law_whole (acons (o1 (fldD ["Book"] "size") (get r 5)) (acons (get r 1) (.ok [])))))))) (ret (.ok (.bl false))) (.ok (.nx r))) (fun r => (then_ (ifv (tor (tnot (tst (cbf (isoD oT oB (fun _ _ => none)) (acons (o1 (fldD ["Book"] "rooms") (get r 5)) (acons (.ok (.ty "tuple")) (.ok [])))))) (tor (tst (o2 neD (cbf (orC (lenO opT_len) lenD) (acons (o1 (fldD ["Book"] "rooms") (get r 5)) (.ok []))) (cbf (orC (lenO opT_len) lenD) (acons (get r 2) (.ok []))))) (tnot (tst (o2 (orL (eqO opT_eq) eqD) (get r 5) (call_ 3 m_Book_init (acons (get r 0) (acons (get r 1) (acons (get r 2) (.ok [])))))))))) (ret (.ok (.bl false))) (.ok (.nx r))) (fun r => (then_ (forR rg1 (agV 6) (fun r => (ifv (tnot (tst (call_ 2 m__law_room (acons (o2 ixA (o1 (fldD ["Book"] "rooms") (get r 5)) (get r 6)) (acons (o2 ixA (get r 2) (get r 6)) (.ok [])))))) (ret (.ok (.bl false))) (.ok (.nx r)))) r (acons (cbf (orC (lenO opT_len) lenD) (acons (get r 2) (.ok []))) (.ok []))) (fun r => (ret (o2 (orL (eqO opT_eq) eqD) (call_ 1 m_format_book (acons (get r 5) (.ok []))) (get r 3)))))))))))))))))
def m__law_there_and_back : List D → R D := runX 8 b__law_there_and_back
theorem k__law_there_and_back (F : FnAt K mg "_law_there_and_back" s__law_there_and_back ["_law_n", "_law_size", "_law_rooms_here"]) {C_Book : Addr} (k__law_text : KnX P w K mg base "_law_text" 5 3 m__law_text) (k_format_book : KnX P w K mg base "format_book" 7 1 m_format_book) (k_parse_book : KnX P w K mg base "parse_book" 9 1 m_parse_book) (k__law_whole : KnX P w K mg base "_law_whole" 5 2 m__law_whole) (k__law_room : KnX P w K mg base "_law_room" 6 2 m__law_room) (b_list : mg "list" = none) (b_str : mg "str" = none) (b_isinstance : mg "isinstance" = none) (b_tuple : mg "tuple" = none) (b_len : mg "len" = none) (b_range : mg "range" = none) (O_iter : ItsAt P w K mg base 1 opT_iter) (O_len : OpsAt P w K mg base "__len__" 1 1 opT_len) (k_Book_init : CkAt P w K mg base "Book" C_Book 7 3 m_Book_init) (S_o : OSub K mg oT oB (fun _ _ => none)) (h_Book : mg "Book" = some (.ref C_Book)) (f_places : ClF K (g0 mg) ["Book"] "places") (f_size : ClF K (g0 mg) ["Book"] "size") (f_rooms : ClF K (g0 mg) ["Book"] "rooms") (O_eq : OpsAt P w K mg base "__eq__" 1 2 opT_eq) : KnX P w K mg base "_law_there_and_back" 10 3 m__law_there_and_back :=
  KnX.mk' (M := []) (M' := []) F sc__law_there_and_back (by decide) fun f cdv A outer s H E hr => ⟨_,
(mss_cons (ms_set 3 sc__law_there_and_back.nd (me_callX k__law_text hr (px (L2N.takes_of rfl rfl rfl rfl)) (by rfl) (ma_cons (me_var 0) (ma_cons (me_var 1) (ma_cons (me_var 2) ma_nil)))))
(mss_cons (ms_set 4 sc__law_there_and_back.nd (me_callX k_format_book hr (px (L2N.takes_of rfl rfl rfl rfl)) (by rfl) (ma_cons (me_make k_Book_init hr (px (L2N.takes_of rfl rfl rfl rfl)) (by rfl) (ma_cons (me_var 0) (ma_cons (me_var 1) (ma_cons (me_lc (own := [("_law_room_here", 7)]) rfl sc__law_there_and_back.nd (mi_seq K (me_op (r := rAddX K) op_addX rs_add (me_slice (r := rSlX K) sl_X ss_X (me_var 2) (mo_some me_int) mo_none) (me_slice (r := rSlX K) sl_X ss_X (me_var 2) mo_none (mo_some me_int)))) (blkOk_by (N := N__law_there_and_back) (sc := defScope s__law_there_and_back) (own := [("_law_room_here", 7)]) (by decide +kernel)) (fun _ _ _ _ _ => (mg_name 7 sc__law_there_and_back.nd)) (fun _ _ _ _ _ => mts_nil) (fun _ _ _ _ _ => (me_listA K O_iter O_len hr (by rfl) b_list (ma_cons (me_var 7) ma_nil))) (agin_name (by decide))) ma_nil)))) ma_nil)))
(mss_cons (ms_if (MW.mt (mw_or (mt_not (mt_val (me_callB (r := rIsi K) call_isi (cs_iso S_o) (by rfl) b_isinstance (by decide +kernel) (ma_cons (me_var 4) (ma_cons (me_bty (n := "str") (by rfl) b_str (by decide +kernel)) ma_nil))))) (mw_or1 (mt_cmp (r := rNeD K) (op_neD hr.units) rs_ne (me_var 4) (me_var 3)))))
(mss_one (ms_ret me_bl))
mss_nil)
(mss_cons (ms_set 5 sc__law_there_and_back.nd (me_callX k_parse_book hr (px (L2N.takes_of rfl rfl rfl rfl)) (by rfl) (ma_cons (me_var 3) ma_nil)))
(mss_cons (ms_if (MW.mt (mw_or (mt_not (mt_val (me_callB (r := rIsi K) call_isi (cs_iso S_o) (by rfl) b_isinstance (by decide +kernel) (ma_cons (me_var 5) (ma_cons (me_cls (by rfl) h_Book) ma_nil))))) (mw_or (mt_not (mt_val (me_callX k__law_whole hr (px (L2N.takes_of rfl rfl rfl rfl)) (by rfl) (ma_cons (me_fldK K ["Book"] f_places (me_var 5)) (ma_cons (me_var 0) ma_nil))))) (mw_or1 (mt_not (mt_val (me_callX k__law_whole hr (px (L2N.takes_of rfl rfl rfl rfl)) (by rfl) (ma_cons (me_fldK K ["Book"] f_size (me_var 5)) (ma_cons (me_var 1) ma_nil)))))))))
(mss_one (ms_ret me_bl))
mss_nil)
(mss_cons (ms_if (MW.mt (mw_or (mt_not (mt_val (me_callB (r := rIsi K) call_isi (cs_iso S_o) (by rfl) b_isinstance (by decide +kernel) (ma_cons (me_fldK K ["Book"] f_rooms (me_var 5)) (ma_cons (me_bty (n := "tuple") (by rfl) b_tuple (by decide +kernel)) ma_nil))))) (mw_or (mt_cmp (r := rNeD K) (op_neD hr.units) rs_ne (me_lenA K O_len hr (by rfl) b_len (ma_cons (me_fldK K ["Book"] f_rooms (me_var 5)) ma_nil)) (me_lenA K O_len hr (by rfl) b_len (ma_cons (me_var 2) ma_nil))) (mw_or1 (mt_not (mt_eqA K O_eq hr (me_var 5) (me_make k_Book_init hr (px (L2N.takes_of rfl rfl rfl rfl)) (by rfl) (ma_cons (me_var 0) (ma_cons (me_var 1) (ma_cons (me_var 2) ma_nil))))))))))
(mss_one (ms_ret me_bl))
mss_nil)
(mss_cons (ms_forR1 (passes_of rfl) rfl (by rfl) b_range (ma_cons (me_lenA K O_len hr (by rfl) b_len (ma_cons (me_var 2) ma_nil)) ma_nil) (mg_name 6 sc__law_there_and_back.nd) (agin_name (by decide))
(mss_one (ms_if (mt_not (mt_val (me_callX k__law_room hr (px (L2N.takes_of rfl rfl rfl rfl)) (by rfl) (ma_cons (me_ixA K (hu_of hr) (me_fldK K ["Book"] f_rooms (me_var 5)) (me_var 6)) (ma_cons (me_ixA K (hu_of hr) (me_var 2) (me_var 6)) ma_nil)))))
(mss_one (ms_ret me_bl))
mss_nil)))
(mss_one (ms_ret (me_eqA K O_eq hr (me_callX k_format_book hr (px (L2N.takes_of rfl rfl rfl rfl)) (by rfl) (ma_cons (me_var 5) ma_nil)) (me_var 3)))))))))))⟩
abbrev s__law_refused : Stmt := topS 39
abbrev N__law_refused : List Str := ["_law_text_here", "e"]
theorem sc__law_refused : FnScope N__law_refused ["_law_text_here"] (defScope s__law_refused) := ⟨rfl, rfl, rfl, by decide +kernel, rfl, by decide +kernel, by decide +kernel⟩
def b__law_refused : DL.Env → R Fl := fun r => (then_ (tryM xT xB [] (fun r => (drp r (call_ 1 m_parse_book (acons (get (wipeE r []) 0) (.ok []))))) [⟨1, true, "BadText", fun r => (ifv (tand (tst (cbf (isxD xT xB) (acons (get r 1) (acons (.ok (.cls "NeverAloneError")) (.ok []))))) (tst (cbf (isxD xT xB) (acons (get r 1) (acons (.ok (.ty "ValueError")) (.ok [])))))) (ret (dsp tupD (acons (o1 (xfD ["BadText"] "line") (get r 1)) (acons (o1 (xfD ["BadBook", "Mismatch", "BadText"] "fault") (get r 1)) (.ok []))))) (.ok (.nx r)))⟩] r) (fun r => (ret (.ok .non))))
def m__law_refused : List D → R D := runX 2 b__law_refused
theorem k__law_refused (F : FnAt K mg "_law_refused" s__law_refused ["_law_text_here"]) {C_BadText : Addr} {C_NeverAloneError : Addr} (k_parse_book : KnX P w K mg base "parse_book" 9 1 m_parse_book) (b_isinstance : mg "isinstance" = none) (b_ValueError : mg "ValueError" = none) (S_x : XSub K mg xT xB) (h_BadText : mg "BadText" = some (.ref C_BadText)) (h_NeverAloneError : mg "NeverAloneError" = some (.ref C_NeverAloneError)) (xf_fault : XcF K mg ["BadBook", "Mismatch", "BadText"] "fault") (xf_line : XcF K mg ["BadText"] "line") : KnX P w K mg base "_law_refused" 10 1 m__law_refused :=
  KnX.mk' (M := []) (M' := []) F sc__law_refused (by decide) fun f cdv A outer s H E hr => ⟨_,
(mss_cons (ms_try S_x (mys_one (my_expr (fun W pn xe tk => (me_callX k_parse_book hr (fun σ => L2N.passAt tk σ) (by rfl) (ma_cons (me_var 0) ma_nil)))))
(ClOk.cons (o := true) (i := 1) ⟨rfl, by decide, .inl h_BadText⟩ h_BadText rfl rfl (fun a oe cls d pn hz hf hx => (mhs_one (mh_if (MW.mt (mw_and (mt_val (me_callB (call_isX hz hf) (cs_isx S_x) (by rfl) b_isinstance (by decide +kernel) (ma_cons (me_var 1) (ma_cons (me_cls (by rfl) h_NeverAloneError) ma_nil)))) (mw_and1 (mt_val (me_callB (call_isX hz hf) (cs_isx S_x) (by rfl) b_isinstance (by decide +kernel) (ma_cons (me_var 1) (ma_cons (me_bty (n := "ValueError") (by rfl) b_ValueError (by decide +kernel)) ma_nil)))))))
(mhs_one (mh_ret (me_tup (ma_cons (me_xf ["BadText"] xf_line hz hf (me_var 1)) (ma_cons (me_xf ["BadBook", "Mismatch", "BadText"] xf_fault hz hf (me_var 1)) ma_nil)))))
mhs_nil)))
ClOk.nil) (L2N.takes_of rfl rfl rfl rfl) sc__law_refused.nd)
(mss_one (ms_ret me_non)))⟩
abbrev s__law_ends : Stmt := topS 40
abbrev N__law_ends : List Str := ["_law_n", "_law_size", "_law_rooms_here", "_law_text_here", "_law_spaced"]
theorem sc__law_ends : FnScope N__law_ends ["_law_n", "_law_size", "_law_rooms_here"] (defScope s__law_ends) := ⟨rfl, rfl, rfl, by decide +kernel, rfl, by decide +kernel, by decide +kernel⟩
def b__law_ends : DL.Env → R Fl := fun r => (then_ (asg 3 r (call_ 3 m__law_text (acons (get r 0) (acons (get r 1) (acons (get r 2) (.ok [])))))) (fun r => (then_ (ifv (tst (o2 neD (call_ 1 m__law_refused (acons (o2 addD (get r 3) (.ok (.str "\n"))) (.ok []))) (dsp tupD (acons (o2 addD (cbf (orC (lenO opT_len) lenD) (acons (get r 2) (.ok []))) (.ok (.int 2))) (acons (.ok (.str "number")) (.ok [])))))) (ret (.ok (.bl false))) (.ok (.nx r))) (fun r => (then_ (asg 4 r (dsp tupD (acons (o2 addD (cbf (orC (lenO opT_len) lenD) (acons (get r 2) (.ok []))) (.ok (.int 1))) (acons (.ok (.str "number")) (.ok []))))) (fun r => (then_ (ifv (tst (o2 eqD (cbf (orC (lenO opT_len) lenD) (acons (get r 2) (.ok []))) (.ok (.int 0)))) (asg 4 r (dsp tupD (acons (.ok (.int 1)) (acons (.ok (.str "head")) (.ok []))))) (.ok (.nx r))) (fun r => (ret (vand (o2 (orL (eqO opT_eq) eqD) (call_ 1 m__law_refused (acons (o2 addD (get r 3) (.ok (.str " "))) (.ok []))) (get r 4)) (o2 eqD (call_ 1 m__law_refused (acons (.ok (.str "")) (.ok []))) (dsp tupD (acons (.ok (.int 1)) (acons (.ok (.str "head")) (.ok [])))))))))))))))
def m__law_ends : List D → R D := runX 5 b__law_ends
theorem k__law_ends (F : FnAt K mg "_law_ends" s__law_ends ["_law_n", "_law_size", "_law_rooms_here"]) (k__law_text : KnX P w K mg base "_law_text" 5 3 m__law_text) (k__law_refused : KnX P w K mg base "_law_refused" 10 1 m__law_refused) (b_len : mg "len" = none) (O_len : OpsAt P w K mg base "__len__" 1 1 opT_len) (O_eq : OpsAt P w K mg base "__eq__" 1 2 opT_eq) : KnX P w K mg base "_law_ends" 11 3 m__law_ends :=
  KnX.mk' (M := []) (M' := []) F sc__law_ends (by decide) fun f cdv A outer s H E hr => ⟨_,
(mss_cons (ms_set 3 sc__law_ends.nd (me_callX k__law_text hr (px (L2N.takes_of rfl rfl rfl rfl)) (by rfl) (ma_cons (me_var 0) (ma_cons (me_var 1) (ma_cons (me_var 2) ma_nil)))))
(mss_cons (ms_if (mt_cmp (r := rNeD K) (op_neD hr.units) rs_ne (me_callX k__law_refused hr (px (L2N.takes_of rfl rfl rfl rfl)) (by rfl) (ma_cons (me_op (r := rAddX K) op_addX rs_add (me_var 3) me_str) ma_nil)) (me_tup (ma_cons (me_op (r := rAddX K) op_addX rs_add (me_lenA K O_len hr (by rfl) b_len (ma_cons (me_var 2) ma_nil)) me_int) (ma_cons me_str ma_nil))))
(mss_one (ms_ret me_bl))
mss_nil)
(mss_cons (ms_set 4 sc__law_ends.nd (me_tup (ma_cons (me_op (r := rAddX K) op_addX rs_add (me_lenA K O_len hr (by rfl) b_len (ma_cons (me_var 2) ma_nil)) me_int) (ma_cons me_str ma_nil))))
(mss_cons (ms_if (mt_cmp (r := rEqD K) (op_eqD hr.units) rs_eq (me_lenA K O_len hr (by rfl) b_len (ma_cons (me_var 2) ma_nil)) me_int)
(mss_one (ms_set 4 sc__law_ends.nd (me_tup (ma_cons me_int (ma_cons me_str ma_nil)))))
mss_nil)
(mss_one (ms_ret (me_and (me_eqA K O_eq hr (me_callX k__law_refused hr (px (L2N.takes_of rfl rfl rfl rfl)) (by rfl) (ma_cons (me_op (r := rAddX K) op_addX rs_add (me_var 3) me_str) ma_nil)) (me_var 4)) (me_one (me_cmp (r := rEqD K) (op_eqD hr.units) rs_eq (me_callX k__law_refused hr (px (L2N.takes_of rfl rfl rfl rfl)) (by rfl) (ma_cons me_str ma_nil)) (me_tup (ma_cons me_int (ma_cons me_str ma_nil))))))))))))⟩
abbrev s_law : Stmt := topS 41
abbrev N_law : List Str := ["_law_script", "_law_n", "_law_size", "_law_rooms_here", "_law_many", "_law_other", "_law_others", "_law_turn"]
theorem sc_law : FnScope N_law ["_law_script"] (defScope s_law) := ⟨rfl, rfl, rfl, by decide +kernel, rfl, by decide +kernel, by decide +kernel⟩
def b_law : DL.Env → R Fl := fun r => (then_ (asg 1 r (o2 addD (.ok (.int 1)) (o2 modD (cbf intD (acons (call_ 2 m__law_cell (acons (get r 0) (acons (.ok (.int 0)) (.ok [])))) (.ok []))) (.ok (.int 12))))) (fun r => (then_ (asg 2 r (o2 addD (.ok (.int 1)) (o2 modD (cbf intD (acons (call_ 2 m__law_cell (acons (get r 0) (acons (.ok (.int 1)) (.ok [])))) (.ok []))) (get r 1)))) (fun r => (then_ (asg 3 r (call_ 4 m__law_rooms (acons (get r 0) (acons (.ok (.int 2)) (acons (get r 1) (acons (get r 2) (.ok []))))))) (fun r => (then_ (asg 4 r (o2 addD (.ok (.int 1)) (o2 modD (cbf intD (acons (call_ 2 m__law_cell (acons (get r 0) (acons (.ok (.int 12)) (.ok [])))) (.ok []))) (.ok (.int 12))))) (fun r => (then_ (asg 5 r (o2 addD (.ok (.int 1)) (o2 modD (cbf intD (acons (call_ 2 m__law_cell (acons (get r 0) (acons (.ok (.int 13)) (.ok [])))) (.ok []))) (get r 4)))) (fun r => (then_ (asg 6 r (call_ 4 m__law_rooms (acons (get r 0) (acons (.ok (.int 14)) (acons (get r 4) (acons (get r 5) (.ok []))))))) (fun r => (then_ (forR rg1 (agV 7) (fun r => (then_ (ifv (tor (tnot (tst (call_ 3 m__law_there_and_back (acons (get r 1) (acons (get r 2) (acons (get r 3) (.ok []))))))) (tnot (tst (call_ 3 m__law_there_and_back (acons (get r 4) (acons (get r 5) (acons (get r 6) (.ok [])))))))) (ret (.ok (.bl false))) (.ok (.nx r))) (fun r => (ifv (tnot (tst (call_ 3 m__law_ends (acons (get r 1) (acons (get r 2) (acons (get r 3) (.ok []))))))) (ret (.ok (.bl false))) (.ok (.nx r)))))) r (acons (.ok (.int 2)) (.ok []))) (fun r => (ret (vand (call_ 3 m__law_there_and_back (acons (get r 1) (acons (get r 2) (acons (dsp lstD (.ok [])) (.ok []))))) (call_ 3 m__law_ends (acons (get r 1) (acons (get r 2) (acons (dsp lstD (.ok [])) (.ok [])))))))))))))))))))))
def m_law : List D → R D := runX 8 b_law
theorem ok_law {f : Addr} {fd : FuncData} (F : Fun K "law" "law" s_law f fd) (k__law_cell : KnX P w K mg base "_law_cell" 13 2 m__law_cell) (k__law_rooms : KnX P w K mg base "_law_rooms" 14 4 m__law_rooms) (k__law_there_and_back : KnX P w K mg base "_law_there_and_back" 10 3 m__law_there_and_back) (k__law_ends : KnX P w K mg base "_law_ends" 11 3 m__law_ends) (b_int : mg "int" = none) (b_range : mg "range" = none) : FnOk P w K mg base (L2N.CX P w) 15 f fd ["_law_script"] (spOf K (g0 mg) 1 m_law) :=
  fn_mirX (M := []) (M' := []) F sc_law (by decide) fun cdv A outer s H E hr => ⟨_,
(mss_cons (ms_set 1 sc_law.nd (me_op (r := rAddX K) op_addX rs_add me_int (me_op op_mod rs_mod (me_callTy call_int1 cs_int (by rfl) b_int (by decide +kernel) (ma_cons (me_callX k__law_cell hr (px (L2N.takes_of rfl rfl rfl rfl)) (by rfl) (ma_cons (me_var 0) (ma_cons me_int ma_nil))) ma_nil)) me_int)))
(mss_cons (ms_set 2 sc_law.nd (me_op (r := rAddX K) op_addX rs_add me_int (me_op op_mod rs_mod (me_callTy call_int1 cs_int (by rfl) b_int (by decide +kernel) (ma_cons (me_callX k__law_cell hr (px (L2N.takes_of rfl rfl rfl rfl)) (by rfl) (ma_cons (me_var 0) (ma_cons me_int ma_nil))) ma_nil)) (me_var 1))))
(mss_cons (ms_set 3 sc_law.nd (me_callX k__law_rooms hr (px (L2N.takes_of rfl rfl rfl rfl)) (by rfl) (ma_cons (me_var 0) (ma_cons me_int (ma_cons (me_var 1) (ma_cons (me_var 2) ma_nil))))))
(mss_cons (ms_set 4 sc_law.nd (me_op (r := rAddX K) op_addX rs_add me_int (me_op op_mod rs_mod (me_callTy call_int1 cs_int (by rfl) b_int (by decide +kernel) (ma_cons (me_callX k__law_cell hr (px (L2N.takes_of rfl rfl rfl rfl)) (by rfl) (ma_cons (me_var 0) (ma_cons me_int ma_nil))) ma_nil)) me_int)))
(mss_cons (ms_set 5 sc_law.nd (me_op (r := rAddX K) op_addX rs_add me_int (me_op op_mod rs_mod (me_callTy call_int1 cs_int (by rfl) b_int (by decide +kernel) (ma_cons (me_callX k__law_cell hr (px (L2N.takes_of rfl rfl rfl rfl)) (by rfl) (ma_cons (me_var 0) (ma_cons me_int ma_nil))) ma_nil)) (me_var 4))))
(mss_cons (ms_set 6 sc_law.nd (me_callX k__law_rooms hr (px (L2N.takes_of rfl rfl rfl rfl)) (by rfl) (ma_cons (me_var 0) (ma_cons me_int (ma_cons (me_var 4) (ma_cons (me_var 5) ma_nil))))))
(mss_cons (ms_forR1 (passes_of rfl) rfl (by rfl) b_range (ma_cons me_int ma_nil) (mg_name 7 sc_law.nd) (agin_name (by decide))
(mss_cons (ms_if (MW.mt (mw_or (mt_not (mt_val (me_callX k__law_there_and_back hr (px (L2N.takes_of rfl rfl rfl rfl)) (by rfl) (ma_cons (me_var 1) (ma_cons (me_var 2) (ma_cons (me_var 3) ma_nil)))))) (mw_or1 (mt_not (mt_val (me_callX k__law_there_and_back hr (px (L2N.takes_of rfl rfl rfl rfl)) (by rfl) (ma_cons (me_var 4) (ma_cons (me_var 5) (ma_cons (me_var 6) ma_nil)))))))))
(mss_one (ms_ret me_bl))
mss_nil)
(mss_one (ms_if (mt_not (mt_val (me_callX k__law_ends hr (px (L2N.takes_of rfl rfl rfl rfl)) (by rfl) (ma_cons (me_var 1) (ma_cons (me_var 2) (ma_cons (me_var 3) ma_nil))))))
(mss_one (ms_ret me_bl))
mss_nil))))
(mss_one (ms_ret (me_and (me_callX k__law_there_and_back hr (px (L2N.takes_of rfl rfl rfl rfl)) (by rfl) (ma_cons (me_var 1) (ma_cons (me_var 2) (ma_cons (me_lst ma_nil) ma_nil)))) (me_one (me_callX k__law_ends hr (px (L2N.takes_of rfl rfl rfl rfl)) (by rfl) (ma_cons (me_var 1) (ma_cons (me_var 2) (ma_cons (me_lst ma_nil) ma_nil)))))))))))))))⟩
abbrev s_xi_BadBook : Stmt := inC (topS 3) 0
theorem sc_xi_BadBook : FnScope ["self", "fault", "at"] ["self", "fault", "at"] (defScope s_xi_BadBook) := ⟨rfl, rfl, rfl, by decide +kernel, rfl, by decide +kernel, by decide +kernel⟩
abbrev s_xi_Mismatch : Stmt := inC (topS 4) 0
theorem sc_xi_Mismatch : FnScope ["self", "fault"] ["self", "fault"] (defScope s_xi_Mismatch) := ⟨rfl, rfl, rfl, by decide +kernel, rfl, by decide +kernel, by decide +kernel⟩
abbrev s_xi_BadText : Stmt := inC (topS 5) 0
theorem sc_xi_BadText : FnScope ["self", "line", "fault"] ["self", "line", "fault"] (defScope s_xi_BadText) := ⟨rfl, rfl, rfl, by decide +kernel, rfl, by decide +kernel, by decide +kernel⟩
end
theorem all_mk {l : PySem.W.OpenLaw} {w : World} {K : PySem.W.Frag} {h : Heap} {mg : Str → Option Value} {fa : Addr} (X : K.In h) (G : h.Ns mainGlobals mg) (hfa : mg "law" = some (.ref fa)) (hlaw : ∀ ns : List Int, ns.length ≤ 63 → m_law [.scr ns] = .ok (.bl true))
    {C_Book : Addr} (aC_Book : PySem.W.nsIn K mainGlobals "Book" = some (some (.ref C_Book)))
    {C_BadText : Addr} (aC_BadText : PySem.W.nsIn K mainGlobals "BadText" = some (some (.ref C_BadText)))
    {C_NeverAloneError : Addr} (aC_NeverAloneError : PySem.W.nsIn K mainGlobals "NeverAloneError" = some (some (.ref C_NeverAloneError)))
    {C_BadBook : Addr} (aC_BadBook : PySem.W.nsIn K mainGlobals "BadBook" = some (some (.ref C_BadBook)))
    {C_Mismatch : Addr} (aC_Mismatch : PySem.W.nsIn K mainGlobals "Mismatch" = some (some (.ref C_Mismatch)))
    {f0 : Addr} (a0 : PySem.W.findIn K (.ref C_Book) "__len__" = some (some (.ref f0)))
    (i0 : PySem.W.isFn K (.ref f0) = true)
    {od0 an0 : Option Addr} {sl0 : Array (Option Value)} {oc0 kV0 dc0 pm0 cd0 ct0 : Value}
    (l0 : K.lookup f0 = some ⟨oc0, od0, .func (PySem.W.fnOf "__len__" "Book.__len__" (defArgs s_Book_len) (defBody s_Book_len) (defScope s_Book_len) .none kV0 dc0 pm0 an0 cd0 ct0), sl0⟩)
    (c0 : PySem.W.codeIn K cd0 "Book.__len__" = true)
    (k0 : PySem.W.keepIn K (.ref f0) = true)
    {f1 : Addr} (a1 : PySem.W.findIn K (.ref C_Book) "__iter__" = some (some (.ref f1)))
    (i1 : PySem.W.isFn K (.ref f1) = true)
    {od1 an1 : Option Addr} {sl1 : Array (Option Value)} {oc1 kV1 dc1 pm1 cd1 ct1 : Value}
    (l1 : K.lookup f1 = some ⟨oc1, od1, .func (PySem.W.fnOf "__iter__" "Book.__iter__" (defArgs s_Book_iter) (defBody s_Book_iter) (defScope s_Book_iter) .none kV1 dc1 pm1 an1 cd1 ct1), sl1⟩)
    (c1 : PySem.W.codeIn K cd1 "Book.__iter__" = true)
    (k1 : PySem.W.keepIn K (.ref f1) = true)
    {f2 : Addr} (a2 : PySem.W.nsIn K mainGlobals "mask_of" = some (some (.ref f2)))
    {od2 an2 : Option Addr} {sl2 : Array (Option Value)} {oc2 kV2 dc2 pm2 cd2 ct2 : Value}
    (l2 : K.lookup f2 = some ⟨oc2, od2, .func (PySem.W.fnOf "mask_of" "mask_of" (defArgs s_mask_of) (defBody s_mask_of) (defScope s_mask_of) .none kV2 dc2 pm2 an2 cd2 ct2), sl2⟩)
    (c2 : PySem.W.codeIn K cd2 "mask_of" = true)
    (k2 : PySem.W.keepIn K (.ref f2) = true)
    {f3 : Addr} (a3 : PySem.W.nsIn K mainGlobals "room_of" = some (some (.ref f3)))
    {od3 an3 : Option Addr} {sl3 : Array (Option Value)} {oc3 kV3 dc3 pm3 cd3 ct3 : Value}
    (l3 : K.lookup f3 = some ⟨oc3, od3, .func (PySem.W.fnOf "room_of" "room_of" (defArgs s_room_of) (defBody s_room_of) (defScope s_room_of) .none kV3 dc3 pm3 an3 cd3 ct3), sl3⟩)
    (c3 : PySem.W.codeIn K cd3 "room_of" = true)
    (k3 : PySem.W.keepIn K (.ref f3) = true)
    {f4 : Addr} (a4 : PySem.W.nsIn K mainGlobals "odd_unions" = some (some (.ref f4)))
    {od4 an4 : Option Addr} {sl4 : Array (Option Value)} {oc4 kV4 dc4 pm4 cd4 ct4 : Value}
    (l4 : K.lookup f4 = some ⟨oc4, od4, .func (PySem.W.fnOf "odd_unions" "odd_unions" (defArgs s_odd_unions) (defBody s_odd_unions) (defScope s_odd_unions) .none kV4 dc4 pm4 an4 cd4 ct4), sl4⟩)
    (c4 : PySem.W.codeIn K cd4 "odd_unions" = true)
    (k4 : PySem.W.keepIn K (.ref f4) = true)
    {f5 : Addr} (a5 : PySem.W.nsIn K mainGlobals "room_fault" = some (some (.ref f5)))
    {od5 an5 : Option Addr} {sl5 : Array (Option Value)} {oc5 kV5 dc5 pm5 cd5 ct5 : Value}
    (l5 : K.lookup f5 = some ⟨oc5, od5, .func (PySem.W.fnOf "room_fault" "room_fault" (defArgs s_room_fault) (defBody s_room_fault) (defScope s_room_fault) .none kV5 dc5 pm5 an5 cd5 ct5), sl5⟩)
    (c5 : PySem.W.codeIn K cd5 "room_fault" = true)
    (k5 : PySem.W.keepIn K (.ref f5) = true)
    {f6 : Addr} (a6 : PySem.W.findIn K (.ref C_Book) "__contains__" = some (some (.ref f6)))
    (i6 : PySem.W.isFn K (.ref f6) = true)
    {od6 an6 : Option Addr} {sl6 : Array (Option Value)} {oc6 kV6 dc6 pm6 cd6 ct6 : Value}
    (l6 : K.lookup f6 = some ⟨oc6, od6, .func (PySem.W.fnOf "__contains__" "Book.__contains__" (defArgs s_Book_contains) (defBody s_Book_contains) (defScope s_Book_contains) .none kV6 dc6 pm6 an6 cd6 ct6), sl6⟩)
    (c6 : PySem.W.codeIn K cd6 "Book.__contains__" = true)
    (k6 : PySem.W.keepIn K (.ref f6) = true)
    {f7 : Addr} (a7 : PySem.W.nsIn K mainGlobals "book_faults" = some (some (.ref f7)))
    {od7 an7 : Option Addr} {sl7 : Array (Option Value)} {oc7 kV7 dc7 pm7 cd7 ct7 : Value}
    (l7 : K.lookup f7 = some ⟨oc7, od7, .func (PySem.W.fnOf "book_faults" "book_faults" (defArgs s_book_faults) (defBody s_book_faults) (defScope s_book_faults) .none kV7 dc7 pm7 an7 cd7 ct7), sl7⟩)
    (c7 : PySem.W.codeIn K cd7 "book_faults" = true)
    (k7 : PySem.W.keepIn K (.ref f7) = true)
    {f8 : Addr} (a8 : PySem.W.findIn K (.ref C_Book) "__init__" = some (some (.ref f8)))
    (i8 : PySem.W.isFn K (.ref f8) = true)
    {od8 an8 : Option Addr} {sl8 : Array (Option Value)} {oc8 kV8 dc8 pm8 cd8 ct8 : Value}
    (l8 : K.lookup f8 = some ⟨oc8, od8, .func (PySem.W.fnOf "__init__" "Book.__init__" (defArgs s_Book_init) (defBody s_Book_init) (defScope s_Book_init) .none kV8 dc8 pm8 an8 cd8 ct8), sl8⟩)
    (c8 : PySem.W.codeIn K cd8 "Book.__init__" = true)
    (k8 : PySem.W.keepIn K (.ref f8) = true)
    {f9 : Addr} (a9 : PySem.W.findIn K (.ref C_Book) "__mul__" = some (some (.ref f9)))
    (i9 : PySem.W.isFn K (.ref f9) = true)
    {od9 an9 : Option Addr} {sl9 : Array (Option Value)} {oc9 kV9 dc9 pm9 cd9 ct9 : Value}
    (l9 : K.lookup f9 = some ⟨oc9, od9, .func (PySem.W.fnOf "__mul__" "Book.__mul__" (defArgs s_Book_mul) (defBody s_Book_mul) (defScope s_Book_mul) .none kV9 dc9 pm9 an9 cd9 ct9), sl9⟩)
    (c9 : PySem.W.codeIn K cd9 "Book.__mul__" = true)
    (k9 : PySem.W.keepIn K (.ref f9) = true)
    {f10 : Addr} (a10 : PySem.W.nsIn K mainGlobals "_law_cell" = some (some (.ref f10)))
    {od10 an10 : Option Addr} {sl10 : Array (Option Value)} {oc10 kV10 dc10 pm10 cd10 ct10 : Value}
    (l10 : K.lookup f10 = some ⟨oc10, od10, .func (PySem.W.fnOf "_law_cell" "_law_cell" (defArgs s__law_cell) (defBody s__law_cell) (defScope s__law_cell) .none kV10 dc10 pm10 an10 cd10 ct10), sl10⟩)
    (c10 : PySem.W.codeIn K cd10 "_law_cell" = true)
    (k10 : PySem.W.keepIn K (.ref f10) = true)
    {f11 : Addr} (a11 : PySem.W.findIn K (.ref C_Book) "__eq__" = some (some (.ref f11)))
    (i11 : PySem.W.isFn K (.ref f11) = true)
    {od11 an11 : Option Addr} {sl11 : Array (Option Value)} {oc11 kV11 dc11 pm11 cd11 ct11 : Value}
    (l11 : K.lookup f11 = some ⟨oc11, od11, .func (PySem.W.fnOf "__eq__" "Book.__eq__" (defArgs s_Book_eq) (defBody s_Book_eq) (defScope s_Book_eq) .none kV11 dc11 pm11 an11 cd11 ct11), sl11⟩)
    (c11 : PySem.W.codeIn K cd11 "Book.__eq__" = true)
    (k11 : PySem.W.keepIn K (.ref f11) = true)
    {f12 : Addr} (a12 : PySem.W.nsIn K mainGlobals "_law_subsets" = some (some (.ref f12)))
    {od12 an12 : Option Addr} {sl12 : Array (Option Value)} {oc12 kV12 dc12 pm12 cd12 ct12 : Value}
    (l12 : K.lookup f12 = some ⟨oc12, od12, .func (PySem.W.fnOf "_law_subsets" "_law_subsets" (defArgs s__law_subsets) (defBody s__law_subsets) (defScope s__law_subsets) .none kV12 dc12 pm12 an12 cd12 ct12), sl12⟩)
    (c12 : PySem.W.codeIn K cd12 "_law_subsets" = true)
    (k12 : PySem.W.keepIn K (.ref f12) = true)
    {f13 : Addr} (a13 : PySem.W.nsIn K mainGlobals "_law_chosen" = some (some (.ref f13)))
    {od13 an13 : Option Addr} {sl13 : Array (Option Value)} {oc13 kV13 dc13 pm13 cd13 ct13 : Value}
    (l13 : K.lookup f13 = some ⟨oc13, od13, .func (PySem.W.fnOf "_law_chosen" "_law_chosen" (defArgs s__law_chosen) (defBody s__law_chosen) (defScope s__law_chosen) .none kV13 dc13 pm13 an13 cd13 ct13), sl13⟩)
    (c13 : PySem.W.codeIn K cd13 "_law_chosen" = true)
    (k13 : PySem.W.keepIn K (.ref f13) = true)
    {f14 : Addr} (a14 : PySem.W.nsIn K mainGlobals "_law_rooms" = some (some (.ref f14)))
    {od14 an14 : Option Addr} {sl14 : Array (Option Value)} {oc14 kV14 dc14 pm14 cd14 ct14 : Value}
    (l14 : K.lookup f14 = some ⟨oc14, od14, .func (PySem.W.fnOf "_law_rooms" "_law_rooms" (defArgs s__law_rooms) (defBody s__law_rooms) (defScope s__law_rooms) .none kV14 dc14 pm14 an14 cd14 ct14), sl14⟩)
    (c14 : PySem.W.codeIn K cd14 "_law_rooms" = true)
    (k14 : PySem.W.keepIn K (.ref f14) = true)
    {f15 : Addr} (a15 : PySem.W.nsIn K mainGlobals "_law_text" = some (some (.ref f15)))
    {od15 an15 : Option Addr} {sl15 : Array (Option Value)} {oc15 kV15 dc15 pm15 cd15 ct15 : Value}
    (l15 : K.lookup f15 = some ⟨oc15, od15, .func (PySem.W.fnOf "_law_text" "_law_text" (defArgs s__law_text) (defBody s__law_text) (defScope s__law_text) .none kV15 dc15 pm15 an15 cd15 ct15), sl15⟩)
    (c15 : PySem.W.codeIn K cd15 "_law_text" = true)
    (k15 : PySem.W.keepIn K (.ref f15) = true)
    {f16 : Addr} (a16 : PySem.W.nsIn K mainGlobals "places_text" = some (some (.ref f16)))
    {od16 an16 : Option Addr} {sl16 : Array (Option Value)} {oc16 kV16 dc16 pm16 cd16 ct16 : Value}
    (l16 : K.lookup f16 = some ⟨oc16, od16, .func (PySem.W.fnOf "places_text" "places_text" (defArgs s_places_text) (defBody s_places_text) (defScope s_places_text) .none kV16 dc16 pm16 an16 cd16 ct16), sl16⟩)
    (c16 : PySem.W.codeIn K cd16 "places_text" = true)
    (k16 : PySem.W.keepIn K (.ref f16) = true)
    {f17 : Addr} (a17 : PySem.W.nsIn K mainGlobals "book_lines" = some (some (.ref f17)))
    {od17 an17 : Option Addr} {sl17 : Array (Option Value)} {oc17 kV17 dc17 pm17 cd17 ct17 : Value}
    (l17 : K.lookup f17 = some ⟨oc17, od17, .func (PySem.W.fnOf "book_lines" "book_lines" (defArgs s_book_lines) (defBody s_book_lines) (defScope s_book_lines) .none kV17 dc17 pm17 an17 cd17 ct17), sl17⟩)
    (c17 : PySem.W.codeIn K cd17 "book_lines" = true)
    (k17 : PySem.W.keepIn K (.ref f17) = true)
    {f18 : Addr} (a18 : PySem.W.nsIn K mainGlobals "format_book" = some (some (.ref f18)))
    {od18 an18 : Option Addr} {sl18 : Array (Option Value)} {oc18 kV18 dc18 pm18 cd18 ct18 : Value}
    (l18 : K.lookup f18 = some ⟨oc18, od18, .func (PySem.W.fnOf "format_book" "format_book" (defArgs s_format_book) (defBody s_format_book) (defScope s_format_book) .none kV18 dc18 pm18 an18 cd18 ct18), sl18⟩)
    (c18 : PySem.W.codeIn K cd18 "format_book" = true)
    (k18 : PySem.W.keepIn K (.ref f18) = true)
    {f19 : Addr} (a19 : PySem.W.nsIn K mainGlobals "is_number_word" = some (some (.ref f19)))
    {od19 an19 : Option Addr} {sl19 : Array (Option Value)} {oc19 kV19 dc19 pm19 cd19 ct19 : Value}
    (l19 : K.lookup f19 = some ⟨oc19, od19, .func (PySem.W.fnOf "is_number_word" "is_number_word" (defArgs s_is_number_word) (defBody s_is_number_word) (defScope s_is_number_word) .none kV19 dc19 pm19 an19 cd19 ct19), sl19⟩)
    (c19 : PySem.W.codeIn K cd19 "is_number_word" = true)
    (k19 : PySem.W.keepIn K (.ref f19) = true)
    {f20 : Addr} (a20 : PySem.W.nsIn K mainGlobals "are_number_words" = some (some (.ref f20)))
    {od20 an20 : Option Addr} {sl20 : Array (Option Value)} {oc20 kV20 dc20 pm20 cd20 ct20 : Value}
    (l20 : K.lookup f20 = some ⟨oc20, od20, .func (PySem.W.fnOf "are_number_words" "are_number_words" (defArgs s_are_number_words) (defBody s_are_number_words) (defScope s_are_number_words) .none kV20 dc20 pm20 an20 cd20 ct20), sl20⟩)
    (c20 : PySem.W.codeIn K cd20 "are_number_words" = true)
    (k20 : PySem.W.keepIn K (.ref f20) = true)
    {f21 : Addr} (a21 : PySem.W.nsIn K mainGlobals "head_fault" = some (some (.ref f21)))
    {od21 an21 : Option Addr} {sl21 : Array (Option Value)} {oc21 kV21 dc21 pm21 cd21 ct21 : Value}
    (l21 : K.lookup f21 = some ⟨oc21, od21, .func (PySem.W.fnOf "head_fault" "head_fault" (defArgs s_head_fault) (defBody s_head_fault) (defScope s_head_fault) .none kV21 dc21 pm21 an21 cd21 ct21), sl21⟩)
    (c21 : PySem.W.codeIn K cd21 "head_fault" = true)
    (k21 : PySem.W.keepIn K (.ref f21) = true)
    {f22 : Addr} (a22 : PySem.W.nsIn K mainGlobals "read_head" = some (some (.ref f22)))
    {od22 an22 : Option Addr} {sl22 : Array (Option Value)} {oc22 kV22 dc22 pm22 cd22 ct22 : Value}
    (l22 : K.lookup f22 = some ⟨oc22, od22, .func (PySem.W.fnOf "read_head" "read_head" (defArgs s_read_head) (defBody s_read_head) (defScope s_read_head) .none kV22 dc22 pm22 an22 cd22 ct22), sl22⟩)
    (c22 : PySem.W.codeIn K cd22 "read_head" = true)
    (k22 : PySem.W.keepIn K (.ref f22) = true)
    {f23 : Addr} (a23 : PySem.W.nsIn K mainGlobals "read_book_head" = some (some (.ref f23)))
    {od23 an23 : Option Addr} {sl23 : Array (Option Value)} {oc23 kV23 dc23 pm23 cd23 ct23 : Value}
    (l23 : K.lookup f23 = some ⟨oc23, od23, .func (PySem.W.fnOf "read_book_head" "read_book_head" (defArgs s_read_book_head) (defBody s_read_book_head) (defScope s_read_book_head) .none kV23 dc23 pm23 an23 cd23 ct23), sl23⟩)
    (c23 : PySem.W.codeIn K cd23 "read_book_head" = true)
    (k23 : PySem.W.keepIn K (.ref f23) = true)
    {f24 : Addr} (a24 : PySem.W.nsIn K mainGlobals "room_fault_after" = some (some (.ref f24)))
    {od24 an24 : Option Addr} {sl24 : Array (Option Value)} {oc24 kV24 dc24 pm24 cd24 ct24 : Value}
    (l24 : K.lookup f24 = some ⟨oc24, od24, .func (PySem.W.fnOf "room_fault_after" "room_fault_after" (defArgs s_room_fault_after) (defBody s_room_fault_after) (defScope s_room_fault_after) .none kV24 dc24 pm24 an24 cd24 ct24), sl24⟩)
    (c24 : PySem.W.codeIn K cd24 "room_fault_after" = true)
    (k24 : PySem.W.keepIn K (.ref f24) = true)
    {f25 : Addr} (a25 : PySem.W.nsIn K mainGlobals "read_room" = some (some (.ref f25)))
    {od25 an25 : Option Addr} {sl25 : Array (Option Value)} {oc25 kV25 dc25 pm25 cd25 ct25 : Value}
    (l25 : K.lookup f25 = some ⟨oc25, od25, .func (PySem.W.fnOf "read_room" "read_room" (defArgs s_read_room) (defBody s_read_room) (defScope s_read_room) .none kV25 dc25 pm25 an25 cd25 ct25), sl25⟩)
    (c25 : PySem.W.codeIn K cd25 "read_room" = true)
    (k25 : PySem.W.keepIn K (.ref f25) = true)
    {f26 : Addr} (a26 : PySem.W.nsIn K mainGlobals "parse_book" = some (some (.ref f26)))
    {od26 an26 : Option Addr} {sl26 : Array (Option Value)} {oc26 kV26 dc26 pm26 cd26 ct26 : Value}
    (l26 : K.lookup f26 = some ⟨oc26, od26, .func (PySem.W.fnOf "parse_book" "parse_book" (defArgs s_parse_book) (defBody s_parse_book) (defScope s_parse_book) .none kV26 dc26 pm26 an26 cd26 ct26), sl26⟩)
    (c26 : PySem.W.codeIn K cd26 "parse_book" = true)
    (k26 : PySem.W.keepIn K (.ref f26) = true)
    {f27 : Addr} (a27 : PySem.W.nsIn K mainGlobals "_law_whole" = some (some (.ref f27)))
    {od27 an27 : Option Addr} {sl27 : Array (Option Value)} {oc27 kV27 dc27 pm27 cd27 ct27 : Value}
    (l27 : K.lookup f27 = some ⟨oc27, od27, .func (PySem.W.fnOf "_law_whole" "_law_whole" (defArgs s__law_whole) (defBody s__law_whole) (defScope s__law_whole) .none kV27 dc27 pm27 an27 cd27 ct27), sl27⟩)
    (c27 : PySem.W.codeIn K cd27 "_law_whole" = true)
    (k27 : PySem.W.keepIn K (.ref f27) = true)
    {f28 : Addr} (a28 : PySem.W.nsIn K mainGlobals "_law_room" = some (some (.ref f28)))
    {od28 an28 : Option Addr} {sl28 : Array (Option Value)} {oc28 kV28 dc28 pm28 cd28 ct28 : Value}
    (l28 : K.lookup f28 = some ⟨oc28, od28, .func (PySem.W.fnOf "_law_room" "_law_room" (defArgs s__law_room) (defBody s__law_room) (defScope s__law_room) .none kV28 dc28 pm28 an28 cd28 ct28), sl28⟩)
    (c28 : PySem.W.codeIn K cd28 "_law_room" = true)
    (k28 : PySem.W.keepIn K (.ref f28) = true)
    {f29 : Addr} (a29 : PySem.W.nsIn K mainGlobals "_law_there_and_back" = some (some (.ref f29)))
    {od29 an29 : Option Addr} {sl29 : Array (Option Value)} {oc29 kV29 dc29 pm29 cd29 ct29 : Value}
    (l29 : K.lookup f29 = some ⟨oc29, od29, .func (PySem.W.fnOf "_law_there_and_back" "_law_there_and_back" (defArgs s__law_there_and_back) (defBody s__law_there_and_back) (defScope s__law_there_and_back) .none kV29 dc29 pm29 an29 cd29 ct29), sl29⟩)
    (c29 : PySem.W.codeIn K cd29 "_law_there_and_back" = true)
    (k29 : PySem.W.keepIn K (.ref f29) = true)
    {f30 : Addr} (a30 : PySem.W.nsIn K mainGlobals "_law_refused" = some (some (.ref f30)))
    {od30 an30 : Option Addr} {sl30 : Array (Option Value)} {oc30 kV30 dc30 pm30 cd30 ct30 : Value}
    (l30 : K.lookup f30 = some ⟨oc30, od30, .func (PySem.W.fnOf "_law_refused" "_law_refused" (defArgs s__law_refused) (defBody s__law_refused) (defScope s__law_refused) .none kV30 dc30 pm30 an30 cd30 ct30), sl30⟩)
    (c30 : PySem.W.codeIn K cd30 "_law_refused" = true)
    (k30 : PySem.W.keepIn K (.ref f30) = true)
    {f31 : Addr} (a31 : PySem.W.nsIn K mainGlobals "_law_ends" = some (some (.ref f31)))
    {od31 an31 : Option Addr} {sl31 : Array (Option Value)} {oc31 kV31 dc31 pm31 cd31 ct31 : Value}
    (l31 : K.lookup f31 = some ⟨oc31, od31, .func (PySem.W.fnOf "_law_ends" "_law_ends" (defArgs s__law_ends) (defBody s__law_ends) (defScope s__law_ends) .none kV31 dc31 pm31 an31 cd31 ct31), sl31⟩)
    (c31 : PySem.W.codeIn K cd31 "_law_ends" = true)
    (k31 : PySem.W.keepIn K (.ref f31) = true)
    {f32 : Addr} (a32 : PySem.W.nsIn K mainGlobals "law" = some (some (.ref f32)))
    {od32 an32 : Option Addr} {sl32 : Array (Option Value)} {oc32 kV32 dc32 pm32 cd32 ct32 : Value}
    (l32 : K.lookup f32 = some ⟨oc32, od32, .func (PySem.W.fnOf "law" "law" (defArgs s_law) (defBody s_law) (defScope s_law) .none kV32 dc32 pm32 an32 cd32 ct32), sl32⟩)
    (c32 : PySem.W.codeIn K cd32 "law" = true)
    (k32 : PySem.W.keepIn K (.ref f32) = true)
    (pg_Book : PySem.W.plainGet K C_Book Str.empty = true)
    (hd_Book : PySem.W.hasDictIn K C_Book = true)
    (po_Book : PySem.W.plainOver K C_Book = true)
    (sa_Book : PySem.W.findIn K (.ref C_Book) "__setattr__" = some (some (.builtin "object.__setattr__")))
    (sf_Book : PySem.W.selfFirst K C_Book = true)
    (mk_Book : PySem.W.makesIn K C_Book = true)
    (kc_Book : PySem.W.keepIn K (.ref C_Book) = true)
    (no_Book_rooms : PySem.W.findIn K (.ref C_Book) "rooms" = some none)
    (no_Book__known : PySem.W.findIn K (.ref C_Book) "_known" = some none)
    (no_Book_places : PySem.W.findIn K (.ref C_Book) "places" = some none)
    (no_Book_size : PySem.W.findIn K (.ref C_Book) "size" = some none)
    {nm_BadBook q_BadBook : Str} {N_BadBook : Addr} {bs_BadBook bm_BadBook : List Value} {sn_BadBook : List Str} {sb_BadBook : List Value} {ab_BadBook : Bool} {co_BadBook : Option Bool} {dd_BadBook : Option Addr} {m0_BadBook m1_BadBook m2_BadBook m3_BadBook m5_BadBook : Option Value}
    (xL_BadBook : K.lookup C_BadBook = some (excClassObj nm_BadBook q_BadBook C_BadBook N_BadBook bs_BadBook bm_BadBook true sn_BadBook sb_BadBook ab_BadBook co_BadBook dd_BadBook m0_BadBook m1_BadBook m2_BadBook m3_BadBook m5_BadBook "ValueError.__new__"))
    (xV_BadBook : PySem.HandSPX.refsVE bm_BadBook = true)
    (eC_BadBook : PySem.W.subIn K (.ref C_BadBook) (.type "BaseException") = some true)
    (tC_BadBook : PySem.W.typeIn K (.ref C_BadBook) = some (.type "type"))
    (sa_BadBook : PySem.W.findIn K (.ref C_BadBook) "__setattr__" = some (some (.builtin "object.__setattr__")))
    (kc_BadBook : PySem.W.keepIn K (.ref C_BadBook) = true)
    (no_BadBook_fault : PySem.W.findIn K (.ref C_BadBook) "fault" = some none)
    (no_BadBook_at : PySem.W.findIn K (.ref C_BadBook) "at" = some none)
    {f_BadBook : Addr} (a_BadBook : PySem.W.findIn K (.ref C_BadBook) "__init__" = some (some (.ref f_BadBook)))
    (t_BadBook : PySem.W.typeIn K (.ref f_BadBook) = some (.type "function"))
    {od_BadBook an_BadBook : Option Addr} {sl_BadBook : Array (Option Value)} {oc_BadBook kV_BadBook dc_BadBook pm_BadBook cd_BadBook ct_BadBook : Value}
    (l_BadBook : K.lookup f_BadBook = some ⟨oc_BadBook, od_BadBook, .func (PySem.W.fnOf "__init__" "BadBook.__init__" (defArgs s_xi_BadBook) (defBody s_xi_BadBook) (defScope s_xi_BadBook) .none kV_BadBook dc_BadBook pm_BadBook an_BadBook cd_BadBook ct_BadBook), sl_BadBook⟩)
    (c_BadBook : PySem.W.codeIn K cd_BadBook "BadBook.__init__" = true)
    (k_BadBook : PySem.W.keepIn K (.ref f_BadBook) = true)
    {nm_Mismatch q_Mismatch : Str} {N_Mismatch : Addr} {bs_Mismatch bm_Mismatch : List Value} {sn_Mismatch : List Str} {sb_Mismatch : List Value} {ab_Mismatch : Bool} {co_Mismatch : Option Bool} {dd_Mismatch : Option Addr} {m0_Mismatch m1_Mismatch m2_Mismatch m3_Mismatch m5_Mismatch : Option Value}
    (xL_Mismatch : K.lookup C_Mismatch = some (excClassObj nm_Mismatch q_Mismatch C_Mismatch N_Mismatch bs_Mismatch bm_Mismatch true sn_Mismatch sb_Mismatch ab_Mismatch co_Mismatch dd_Mismatch m0_Mismatch m1_Mismatch m2_Mismatch m3_Mismatch m5_Mismatch "ValueError.__new__"))
    (xV_Mismatch : PySem.HandSPX.refsVE bm_Mismatch = true)
    (eC_Mismatch : PySem.W.subIn K (.ref C_Mismatch) (.type "BaseException") = some true)
    (tC_Mismatch : PySem.W.typeIn K (.ref C_Mismatch) = some (.type "type"))
    (sa_Mismatch : PySem.W.findIn K (.ref C_Mismatch) "__setattr__" = some (some (.builtin "object.__setattr__")))
    (kc_Mismatch : PySem.W.keepIn K (.ref C_Mismatch) = true)
    (no_Mismatch_fault : PySem.W.findIn K (.ref C_Mismatch) "fault" = some none)
    {f_Mismatch : Addr} (a_Mismatch : PySem.W.findIn K (.ref C_Mismatch) "__init__" = some (some (.ref f_Mismatch)))
    (t_Mismatch : PySem.W.typeIn K (.ref f_Mismatch) = some (.type "function"))
    {od_Mismatch an_Mismatch : Option Addr} {sl_Mismatch : Array (Option Value)} {oc_Mismatch kV_Mismatch dc_Mismatch pm_Mismatch cd_Mismatch ct_Mismatch : Value}
    (l_Mismatch : K.lookup f_Mismatch = some ⟨oc_Mismatch, od_Mismatch, .func (PySem.W.fnOf "__init__" "Mismatch.__init__" (defArgs s_xi_Mismatch) (defBody s_xi_Mismatch) (defScope s_xi_Mismatch) .none kV_Mismatch dc_Mismatch pm_Mismatch an_Mismatch cd_Mismatch ct_Mismatch), sl_Mismatch⟩)
    (c_Mismatch : PySem.W.codeIn K cd_Mismatch "Mismatch.__init__" = true)
    (k_Mismatch : PySem.W.keepIn K (.ref f_Mismatch) = true)
    {nm_BadText q_BadText : Str} {N_BadText : Addr} {bs_BadText bm_BadText : List Value} {sn_BadText : List Str} {sb_BadText : List Value} {ab_BadText : Bool} {co_BadText : Option Bool} {dd_BadText : Option Addr} {m0_BadText m1_BadText m2_BadText m3_BadText m5_BadText : Option Value}
    (xL_BadText : K.lookup C_BadText = some (excClassObj nm_BadText q_BadText C_BadText N_BadText bs_BadText bm_BadText true sn_BadText sb_BadText ab_BadText co_BadText dd_BadText m0_BadText m1_BadText m2_BadText m3_BadText m5_BadText "ValueError.__new__"))
    (xV_BadText : PySem.HandSPX.refsVE bm_BadText = true)
    (eC_BadText : PySem.W.subIn K (.ref C_BadText) (.type "BaseException") = some true)
    (tC_BadText : PySem.W.typeIn K (.ref C_BadText) = some (.type "type"))
    (sa_BadText : PySem.W.findIn K (.ref C_BadText) "__setattr__" = some (some (.builtin "object.__setattr__")))
    (kc_BadText : PySem.W.keepIn K (.ref C_BadText) = true)
    (no_BadText_line : PySem.W.findIn K (.ref C_BadText) "line" = some none)
    (no_BadText_fault : PySem.W.findIn K (.ref C_BadText) "fault" = some none)
    {f_BadText : Addr} (a_BadText : PySem.W.findIn K (.ref C_BadText) "__init__" = some (some (.ref f_BadText)))
    (t_BadText : PySem.W.typeIn K (.ref f_BadText) = some (.type "function"))
    {od_BadText an_BadText : Option Addr} {sl_BadText : Array (Option Value)} {oc_BadText kV_BadText dc_BadText pm_BadText cd_BadText ct_BadText : Value}
    (l_BadText : K.lookup f_BadText = some ⟨oc_BadText, od_BadText, .func (PySem.W.fnOf "__init__" "BadText.__init__" (defArgs s_xi_BadText) (defBody s_xi_BadText) (defScope s_xi_BadText) .none kV_BadText dc_BadText pm_BadText an_BadText cd_BadText ct_BadText), sl_BadText⟩)
    (c_BadText : PySem.W.codeIn K cd_BadText "BadText.__init__" = true)
    (k_BadText : PySem.W.keepIn K (.ref f_BadText) = true)
    (ga_BadText : PySem.W.findIn K (.ref C_BadText) "__getattribute__" = some (some (.builtin "BaseException.__getattribute__")))
    (gg_BadText : PySem.W.findIn K (.ref C_BadText) "__getattr__" = some none)
    (hC_BadText : PySem.W.hasDictIn K C_BadText = true)
    (ga_Mismatch : PySem.W.findIn K (.ref C_Mismatch) "__getattribute__" = some (some (.builtin "BaseException.__getattribute__")))
    (gg_Mismatch : PySem.W.findIn K (.ref C_Mismatch) "__getattr__" = some none)
    (hC_Mismatch : PySem.W.hasDictIn K C_Mismatch = true)
    (ga_BadBook : PySem.W.findIn K (.ref C_BadBook) "__getattribute__" = some (some (.builtin "BaseException.__getattribute__")))
    (gg_BadBook : PySem.W.findIn K (.ref C_BadBook) "__getattr__" = some none)
    (hC_BadBook : PySem.W.hasDictIn K C_BadBook = true)
    (oC : PySem.W.specialIn K (.builtin "object.__class__") "__get__" = some (some (.builtin "getset_descriptor.__get__")))
    (oT_ : PySem.W.takesIn K (.builtin "object.__class__") = some true)
    (cc_BadBook : PySem.W.findIn K (.ref C_BadBook) "__class__" = some (some (.builtin "object.__class__")))
    (mo_BadBook : PySem.W.mroIn K C_BadBook (.type "object") = some true)
    (ic_BadBook : PySem.W.isClsIn K C_BadBook = true)
    (s_BadBook_BadBook : PySem.W.subIn K (.ref C_BadBook) (.ref C_BadBook) = some true)
    (cc_Mismatch : PySem.W.findIn K (.ref C_Mismatch) "__class__" = some (some (.builtin "object.__class__")))
    (mo_Mismatch : PySem.W.mroIn K C_Mismatch (.type "object") = some true)
    (ic_Mismatch : PySem.W.isClsIn K C_Mismatch = true)
    (s_Mismatch_Mismatch : PySem.W.subIn K (.ref C_Mismatch) (.ref C_Mismatch) = some true)
    (cc_BadText : PySem.W.findIn K (.ref C_BadText) "__class__" = some (some (.builtin "object.__class__")))
    (mo_BadText : PySem.W.mroIn K C_BadText (.type "object") = some true)
    (ic_BadText : PySem.W.isClsIn K C_BadText = true)
    (s_BadText_BadText : PySem.W.subIn K (.ref C_BadText) (.ref C_BadText) = some true)
    (eC_NeverAloneError : PySem.W.subIn K (.ref C_NeverAloneError) (.type "BaseException") = some true)
    (tC_NeverAloneError : PySem.W.typeIn K (.ref C_NeverAloneError) = some (.type "type"))
    (ic_NeverAloneError : PySem.W.isClsIn K C_NeverAloneError = true)
    (s_BadText_NeverAloneError : PySem.W.subIn K (.ref C_BadText) (.ref C_NeverAloneError) = some true)
    (s_Mismatch_NeverAloneError : PySem.W.subIn K (.ref C_Mismatch) (.ref C_NeverAloneError) = some true)
    (s_Mismatch_BadText : PySem.W.subIn K (.ref C_Mismatch) (.ref C_BadText) = some false)
    (s_BadBook_NeverAloneError : PySem.W.subIn K (.ref C_BadBook) (.ref C_NeverAloneError) = some true)
    (s_BadBook_BadText : PySem.W.subIn K (.ref C_BadBook) (.ref C_BadText) = some false)
    (eB_ValueError : PySem.W.subIn K (.type "ValueError") (.type "BaseException") = some true)
    (sb_BadText_ValueError : PySem.W.subIn K (.ref C_BadText) (.type "ValueError") = some true)
    (sb_Mismatch_ValueError : PySem.W.subIn K (.ref C_Mismatch) (.type "ValueError") = some true)
    (sb_BadBook_ValueError : PySem.W.subIn K (.ref C_BadBook) (.type "ValueError") = some true)
    (cc_Book : PySem.W.findIn K (.ref C_Book) "__class__" = some (some (.builtin "object.__class__")))
    (mo_Book : PySem.W.mroIn K C_Book (.type "object") = some true)
    (tC_Book : PySem.W.typeIn K (.ref C_Book) = some (.type "type"))
    (s_Book_Book : PySem.W.subIn K (.ref C_Book) (.ref C_Book) = some true)
    (ic_Book : PySem.W.isClsIn K C_Book = true)
    (sb_Book_bool : PySem.W.subIn K (.ref C_Book) (.type "bool") = some false)
    (sb_Book_int : PySem.W.subIn K (.ref C_Book) (.type "int") = some false)
    (sb_Book_tuple : PySem.W.subIn K (.ref C_Book) (.type "tuple") = some false)
    (sb_Book_str : PySem.W.subIn K (.ref C_Book) (.type "str") = some false)
    (z_len : PySem.W.nsIn K mainGlobals "len" = some none)
    (z_iter : PySem.W.nsIn K mainGlobals "iter" = some none)
    (z_range : PySem.W.nsIn K mainGlobals "range" = some none)
    (z_tuple : PySem.W.nsIn K mainGlobals "tuple" = some none)
    (z_any : PySem.W.nsIn K mainGlobals "any" = some none)
    (z_set : PySem.W.nsIn K mainGlobals "set" = some none)
    (z_sorted : PySem.W.nsIn K mainGlobals "sorted" = some none)
    (z_enumerate : PySem.W.nsIn K mainGlobals "enumerate" = some none)
    (z_isinstance : PySem.W.nsIn K mainGlobals "isinstance" = some none)
    (z_abs : PySem.W.nsIn K mainGlobals "abs" = some none)
    (z_int : PySem.W.nsIn K mainGlobals "int" = some none)
    (z_list : PySem.W.nsIn K mainGlobals "list" = some none)
    (z_str : PySem.W.nsIn K mainGlobals "str" = some none)
    (z_all : PySem.W.nsIn K mainGlobals "all" = some none)
    (z_bool : PySem.W.nsIn K mainGlobals "bool" = some none)
    (z_ValueError : PySem.W.nsIn K mainGlobals "ValueError" = some none)
    {t_MOST_PLACES : Tok} (z_MOST_PLACES : PySem.W.nsIn K mainGlobals "MOST_PLACES" = some (some (.int 12 t_MOST_PLACES)))
    {t_MOST_DIGITS : Tok} (z_MOST_DIGITS : PySem.W.nsIn K mainGlobals "MOST_DIGITS" = some (some (.int 60 t_MOST_DIGITS)))
    : ∃ fd : FuncData, (∀ (s : Shared) (v : Value), BindsTo s fd ⟨[v], []⟩ [("_law_script", v)]) ∧ ∀ base : Heap, K.In base → base.Ns mainGlobals mg → FnOk l.prog w K mg base (L2N.CX l.prog w) 15 fa fd ["_law_script"] (spLaw K) := by
  have e := hfa.symm.trans (PySem.W.mg_of X G a32)
  cases e
  have b_len := PySem.W.mg_none_of X G z_len
  have b_iter := PySem.W.mg_none_of X G z_iter
  have b_range := PySem.W.mg_none_of X G z_range
  have b_tuple := PySem.W.mg_none_of X G z_tuple
  have b_any := PySem.W.mg_none_of X G z_any
  have b_set := PySem.W.mg_none_of X G z_set
  have b_sorted := PySem.W.mg_none_of X G z_sorted
  have b_enumerate := PySem.W.mg_none_of X G z_enumerate
  have b_isinstance := PySem.W.mg_none_of X G z_isinstance
  have b_abs := PySem.W.mg_none_of X G z_abs
  have b_int := PySem.W.mg_none_of X G z_int
  have b_list := PySem.W.mg_none_of X G z_list
  have b_str := PySem.W.mg_none_of X G z_str
  have b_all := PySem.W.mg_none_of X G z_all
  have b_bool := PySem.W.mg_none_of X G z_bool
  have b_ValueError := PySem.W.mg_none_of X G z_ValueError
  have g_MOST_PLACES := PySem.W.mg_of X G z_MOST_PLACES
  have g_MOST_DIGITS := PySem.W.mg_of X G z_MOST_DIGITS
  have h_Book := PySem.W.mg_of X G aC_Book
  have h_BadText := PySem.W.mg_of X G aC_BadText
  have h_NeverAloneError := PySem.W.mg_of X G aC_NeverAloneError
  have h_BadBook := PySem.W.mg_of X G aC_BadBook
  have h_Mismatch := PySem.W.mg_of X G aC_Mismatch
  have cls_Book : Cls K C_Book := ⟨pg_Book, hd_Book, po_Book, sa_Book⟩
  have f_rooms : ClF K (g0 mg) ["Book"] "rooms" := (ClF.cons h_Book cls_Book no_Book_rooms ClF.nil)
  have f__known : ClF K (g0 mg) ["Book"] "_known" := (ClF.cons h_Book cls_Book no_Book__known ClF.nil)
  have f_places : ClF K (g0 mg) ["Book"] "places" := (ClF.cons h_Book cls_Book no_Book_places ClF.nil)
  have f_size : ClF K (g0 mg) ["Book"] "size" := (ClF.cons h_Book cls_Book no_Book_size ClF.nil)
  have xc_BadBook : DL.ClX K C_BadBook ["fault", "at"] := ⟨⟨⟨_, _, _, _, _, _, _, _, _, _, _, _, _, _, _, xL_BadBook, xV_BadBook⟩, sa_BadBook, eC_BadBook, tC_BadBook, kc_BadBook⟩, (all_cons no_BadBook_fault (all_cons no_BadBook_at all_nil))⟩
  have xc_Mismatch : DL.ClX K C_Mismatch ["fault"] := ⟨⟨⟨_, _, _, _, _, _, _, _, _, _, _, _, _, _, _, xL_Mismatch, xV_Mismatch⟩, sa_Mismatch, eC_Mismatch, tC_Mismatch, kc_Mismatch⟩, (all_cons no_Mismatch_fault all_nil)⟩
  have xc_BadText : DL.ClX K C_BadText ["line", "fault"] := ⟨⟨⟨_, _, _, _, _, _, _, _, _, _, _, _, _, _, _, xL_BadText, xV_BadText⟩, sa_BadText, eC_BadText, tC_BadText, kc_BadText⟩, (all_cons no_BadText_line (all_cons no_BadText_fault all_nil))⟩
  have xf_fault : XcF K mg ["BadBook", "Mismatch", "BadText"] "fault" := (XcF.cons h_BadBook ⟨ga_BadBook, gg_BadBook, eC_BadBook, hC_BadBook⟩ no_BadBook_fault (XcF.cons h_Mismatch ⟨ga_Mismatch, gg_Mismatch, eC_Mismatch, hC_Mismatch⟩ no_Mismatch_fault (XcF.cons h_BadText ⟨ga_BadText, gg_BadText, eC_BadText, hC_BadText⟩ no_BadText_fault XcF.nil)))
  have xf_line : XcF K mg ["BadText"] "line" := (XcF.cons h_BadText ⟨ga_BadText, gg_BadText, eC_BadText, hC_BadText⟩ no_BadText_line XcF.nil)
  have xo_BadBook : XcOk K C_BadBook := ⟨⟨ga_BadBook, gg_BadBook, eC_BadBook, hC_BadBook, cc_BadBook, oC, oT_, mo_BadBook⟩, tC_BadBook, ic_BadBook, s_BadBook_BadBook⟩
  have xo_Mismatch : XcOk K C_Mismatch := ⟨⟨ga_Mismatch, gg_Mismatch, eC_Mismatch, hC_Mismatch, cc_Mismatch, oC, oT_, mo_Mismatch⟩, tC_Mismatch, ic_Mismatch, s_Mismatch_Mismatch⟩
  have xo_BadText : XcOk K C_BadText := ⟨⟨ga_BadText, gg_BadText, eC_BadText, hC_BadText, cc_BadText, oC, oT_, mo_BadText⟩, tC_BadText, ic_BadText, s_BadText_BadText⟩
  have S_x : XSub K mg xT xB := XSub.rows (all_cons ⟨_, _, h_BadBook, h_BadText, xo_BadBook, eC_BadText, tC_BadText, ic_BadText, s_BadBook_BadText⟩ (all_cons ⟨_, _, h_BadBook, h_NeverAloneError, xo_BadBook, eC_NeverAloneError, tC_NeverAloneError, ic_NeverAloneError, s_BadBook_NeverAloneError⟩ (all_cons ⟨_, _, h_Mismatch, h_BadText, xo_Mismatch, eC_BadText, tC_BadText, ic_BadText, s_Mismatch_BadText⟩ (all_cons ⟨_, _, h_Mismatch, h_NeverAloneError, xo_Mismatch, eC_NeverAloneError, tC_NeverAloneError, ic_NeverAloneError, s_Mismatch_NeverAloneError⟩ (all_cons ⟨_, _, h_BadText, h_BadText, xo_BadText, eC_BadText, tC_BadText, ic_BadText, s_BadText_BadText⟩ (all_cons ⟨_, _, h_BadText, h_NeverAloneError, xo_BadText, eC_NeverAloneError, tC_NeverAloneError, ic_NeverAloneError, s_BadText_NeverAloneError⟩ all_nil)))))) (all_cons ⟨_, h_BadBook, xo_BadBook, by decide +kernel, eB_ValueError, sb_BadBook_ValueError⟩ (all_cons ⟨_, h_Mismatch, xo_Mismatch, by decide +kernel, eB_ValueError, sb_Mismatch_ValueError⟩ (all_cons ⟨_, h_BadText, xo_BadText, by decide +kernel, eB_ValueError, sb_BadText_ValueError⟩ all_nil)))
  have oo_Book : OcOk K C_Book := ⟨cls_Book, cc_Book, oC, oT_, mo_Book⟩
  have S_o : OSub K mg oT oB (fun _ _ => none) := OSub.rows (all_cons ⟨_, _, h_Book, h_Book, oo_Book, s_Book_Book, tC_Book, ic_Book, s_Book_Book⟩ all_nil) (all_cons ⟨_, h_Book, oo_Book, by decide +kernel, sb_Book_str⟩ (all_cons ⟨_, h_Book, oo_Book, by decide +kernel, sb_Book_tuple⟩ (all_cons ⟨_, h_Book, oo_Book, by decide +kernel, sb_Book_int⟩ (all_cons ⟨_, h_Book, oo_Book, by decide +kernel, sb_Book_bool⟩ all_nil))))
  have F_Book_len := fun_mk (st := s_Book_len) l0 c0 k0
  have B_Book_len := (fun_mk (st := s_Book_len) l0 c0 k0).binds (ps := ["self"]) fun _ _ _ _ _ _ us hl => match us, hl with | [_], _ => rfl
  have F_Book_iter := fun_mk (st := s_Book_iter) l1 c1 k1
  have B_Book_iter := (fun_mk (st := s_Book_iter) l1 c1 k1).binds (ps := ["self"]) fun _ _ _ _ _ _ us hl => match us, hl with | [_], _ => rfl
  have F_mask_of : FnAt K mg "mask_of" s_mask_of ["room"] := ⟨f2, _, fun_mk l2 c2 k2, PySem.W.mg_of X G a2, (fun_mk (st := s_mask_of) l2 c2 k2).binds (ps := ["room"]) fun _ _ _ _ _ _ us hl => match us, hl with | [_], _ => rfl⟩
  have F_room_of : FnAt K mg "room_of" s_room_of ["mask"] := ⟨f3, _, fun_mk l3 c3 k3, PySem.W.mg_of X G a3, (fun_mk (st := s_room_of) l3 c3 k3).binds (ps := ["mask"]) fun _ _ _ _ _ _ us hl => match us, hl with | [_], _ => rfl⟩
  have F_odd_unions : FnAt K mg "odd_unions" s_odd_unions ["first", "second"] := ⟨f4, _, fun_mk l4 c4 k4, PySem.W.mg_of X G a4, (fun_mk (st := s_odd_unions) l4 c4 k4).binds (ps := ["first", "second"]) fun _ _ _ _ _ _ us hl => match us, hl with | [_, _], _ => rfl⟩
  have F_room_fault : FnAt K mg "room_fault" s_room_fault ["places", "size", "room"] := ⟨f5, _, fun_mk l5 c5 k5, PySem.W.mg_of X G a5, (fun_mk (st := s_room_fault) l5 c5 k5).binds (ps := ["places", "size", "room"]) fun _ _ _ _ _ _ us hl => match us, hl with | [_, _, _], _ => rfl⟩
  have F_Book_contains := fun_mk (st := s_Book_contains) l6 c6 k6
  have B_Book_contains := (fun_mk (st := s_Book_contains) l6 c6 k6).binds (ps := ["self", "x"]) fun _ _ _ _ _ _ us hl => match us, hl with | [_, _], _ => rfl
  have F_book_faults : FnAt K mg "book_faults" s_book_faults ["places", "size", "rooms"] := ⟨f7, _, fun_mk l7 c7 k7, PySem.W.mg_of X G a7, (fun_mk (st := s_book_faults) l7 c7 k7).binds (ps := ["places", "size", "rooms"]) fun _ _ _ _ _ _ us hl => match us, hl with | [_, _, _], _ => rfl⟩
  have F_Book_init := fun_mk (st := s_Book_init) l8 c8 k8
  have B_Book_init := (fun_mk (st := s_Book_init) l8 c8 k8).binds (ps := ["self", "places", "size", "rooms"]) fun _ _ _ _ _ _ us hl => match us, hl with | [_, _, _, _], _ => rfl
  have F_Book_mul := fun_mk (st := s_Book_mul) l9 c9 k9
  have B_Book_mul := (fun_mk (st := s_Book_mul) l9 c9 k9).binds (ps := ["self", "other"]) fun _ _ _ _ _ _ us hl => match us, hl with | [_, _], _ => rfl
  have F__law_cell : FnAt K mg "_law_cell" s__law_cell ["_law_script", "_law_k"] := ⟨f10, _, fun_mk l10 c10 k10, PySem.W.mg_of X G a10, (fun_mk (st := s__law_cell) l10 c10 k10).binds (ps := ["_law_script", "_law_k"]) fun _ _ _ _ _ _ us hl => match us, hl with | [_, _], _ => rfl⟩
  have F_Book_eq := fun_mk (st := s_Book_eq) l11 c11 k11
  have B_Book_eq := (fun_mk (st := s_Book_eq) l11 c11 k11).binds (ps := ["self", "other"]) fun _ _ _ _ _ _ us hl => match us, hl with | [_, _], _ => rfl
  have F__law_subsets : FnAt K mg "_law_subsets" s__law_subsets ["_law_n", "_law_size"] := ⟨f12, _, fun_mk l12 c12 k12, PySem.W.mg_of X G a12, (fun_mk (st := s__law_subsets) l12 c12 k12).binds (ps := ["_law_n", "_law_size"]) fun _ _ _ _ _ _ us hl => match us, hl with | [_, _], _ => rfl⟩
  have F__law_chosen : FnAt K mg "_law_chosen" s__law_chosen ["_law_n", "_law_size", "_law_cell_here"] := ⟨f13, _, fun_mk l13 c13 k13, PySem.W.mg_of X G a13, (fun_mk (st := s__law_chosen) l13 c13 k13).binds (ps := ["_law_n", "_law_size", "_law_cell_here"]) fun _ _ _ _ _ _ us hl => match us, hl with | [_, _, _], _ => rfl⟩
  have F__law_rooms : FnAt K mg "_law_rooms" s__law_rooms ["_law_script", "_law_at", "_law_n", "_law_size"] := ⟨f14, _, fun_mk l14 c14 k14, PySem.W.mg_of X G a14, (fun_mk (st := s__law_rooms) l14 c14 k14).binds (ps := ["_law_script", "_law_at", "_law_n", "_law_size"]) fun _ _ _ _ _ _ us hl => match us, hl with | [_, _, _, _], _ => rfl⟩
  have F__law_text : FnAt K mg "_law_text" s__law_text ["_law_n", "_law_size", "_law_rooms_here"] := ⟨f15, _, fun_mk l15 c15 k15, PySem.W.mg_of X G a15, (fun_mk (st := s__law_text) l15 c15 k15).binds (ps := ["_law_n", "_law_size", "_law_rooms_here"]) fun _ _ _ _ _ _ us hl => match us, hl with | [_, _, _], _ => rfl⟩
  have F_places_text : FnAt K mg "places_text" s_places_text ["room"] := ⟨f16, _, fun_mk l16 c16 k16, PySem.W.mg_of X G a16, (fun_mk (st := s_places_text) l16 c16 k16).binds (ps := ["room"]) fun _ _ _ _ _ _ us hl => match us, hl with | [_], _ => rfl⟩
  have F_book_lines : FnAt K mg "book_lines" s_book_lines ["book"] := ⟨f17, _, fun_mk l17 c17 k17, PySem.W.mg_of X G a17, (fun_mk (st := s_book_lines) l17 c17 k17).binds (ps := ["book"]) fun _ _ _ _ _ _ us hl => match us, hl with | [_], _ => rfl⟩
  have F_format_book : FnAt K mg "format_book" s_format_book ["book"] := ⟨f18, _, fun_mk l18 c18 k18, PySem.W.mg_of X G a18, (fun_mk (st := s_format_book) l18 c18 k18).binds (ps := ["book"]) fun _ _ _ _ _ _ us hl => match us, hl with | [_], _ => rfl⟩
  have F_is_number_word : FnAt K mg "is_number_word" s_is_number_word ["word"] := ⟨f19, _, fun_mk l19 c19 k19, PySem.W.mg_of X G a19, (fun_mk (st := s_is_number_word) l19 c19 k19).binds (ps := ["word"]) fun _ _ _ _ _ _ us hl => match us, hl with | [_], _ => rfl⟩
  have F_are_number_words : FnAt K mg "are_number_words" s_are_number_words ["words"] := ⟨f20, _, fun_mk l20 c20 k20, PySem.W.mg_of X G a20, (fun_mk (st := s_are_number_words) l20 c20 k20).binds (ps := ["words"]) fun _ _ _ _ _ _ us hl => match us, hl with | [_], _ => rfl⟩
  have F_head_fault : FnAt K mg "head_fault" s_head_fault ["words", "kind"] := ⟨f21, _, fun_mk l21 c21 k21, PySem.W.mg_of X G a21, (fun_mk (st := s_head_fault) l21 c21 k21).binds (ps := ["words", "kind"]) fun _ _ _ _ _ _ us hl => match us, hl with | [_, _], _ => rfl⟩
  have F_read_head : FnAt K mg "read_head" s_read_head ["words", "line", "kind"] := ⟨f22, _, fun_mk l22 c22 k22, PySem.W.mg_of X G a22, (fun_mk (st := s_read_head) l22 c22 k22).binds (ps := ["words", "line", "kind"]) fun _ _ _ _ _ _ us hl => match us, hl with | [_, _, _], _ => rfl⟩
  have F_read_book_head : FnAt K mg "read_book_head" s_read_book_head ["words", "line"] := ⟨f23, _, fun_mk l23 c23 k23, PySem.W.mg_of X G a23, (fun_mk (st := s_read_book_head) l23 c23 k23).binds (ps := ["words", "line"]) fun _ _ _ _ _ _ us hl => match us, hl with | [_, _], _ => rfl⟩
  have F_room_fault_after : FnAt K mg "room_fault_after" s_room_fault_after ["room", "places", "size", "before"] := ⟨f24, _, fun_mk l24 c24 k24, PySem.W.mg_of X G a24, (fun_mk (st := s_room_fault_after) l24 c24 k24).binds (ps := ["room", "places", "size", "before"]) fun _ _ _ _ _ _ us hl => match us, hl with | [_, _, _, _], _ => rfl⟩
  have F_read_room : FnAt K mg "read_room" s_read_room ["words", "line", "bounds", "before"] := ⟨f25, _, fun_mk l25 c25 k25, PySem.W.mg_of X G a25, (fun_mk (st := s_read_room) l25 c25 k25).binds (ps := ["words", "line", "bounds", "before"]) fun _ _ _ _ _ _ us hl => match us, hl with | [_, _, _, _], _ => rfl⟩
  have F_parse_book : FnAt K mg "parse_book" s_parse_book ["text"] := ⟨f26, _, fun_mk l26 c26 k26, PySem.W.mg_of X G a26, (fun_mk (st := s_parse_book) l26 c26 k26).binds (ps := ["text"]) fun _ _ _ _ _ _ us hl => match us, hl with | [_], _ => rfl⟩
  have F__law_whole : FnAt K mg "_law_whole" s__law_whole ["_law_actual", "_law_due"] := ⟨f27, _, fun_mk l27 c27 k27, PySem.W.mg_of X G a27, (fun_mk (st := s__law_whole) l27 c27 k27).binds (ps := ["_law_actual", "_law_due"]) fun _ _ _ _ _ _ us hl => match us, hl with | [_, _], _ => rfl⟩
  have F__law_room : FnAt K mg "_law_room" s__law_room ["_law_actual", "_law_due"] := ⟨f28, _, fun_mk l28 c28 k28, PySem.W.mg_of X G a28, (fun_mk (st := s__law_room) l28 c28 k28).binds (ps := ["_law_actual", "_law_due"]) fun _ _ _ _ _ _ us hl => match us, hl with | [_, _], _ => rfl⟩
  have F__law_there_and_back : FnAt K mg "_law_there_and_back" s__law_there_and_back ["_law_n", "_law_size", "_law_rooms_here"] := ⟨f29, _, fun_mk l29 c29 k29, PySem.W.mg_of X G a29, (fun_mk (st := s__law_there_and_back) l29 c29 k29).binds (ps := ["_law_n", "_law_size", "_law_rooms_here"]) fun _ _ _ _ _ _ us hl => match us, hl with | [_, _, _], _ => rfl⟩
  have F__law_refused : FnAt K mg "_law_refused" s__law_refused ["_law_text_here"] := ⟨f30, _, fun_mk l30 c30 k30, PySem.W.mg_of X G a30, (fun_mk (st := s__law_refused) l30 c30 k30).binds (ps := ["_law_text_here"]) fun _ _ _ _ _ _ us hl => match us, hl with | [_], _ => rfl⟩
  have F__law_ends : FnAt K mg "_law_ends" s__law_ends ["_law_n", "_law_size", "_law_rooms_here"] := ⟨f31, _, fun_mk l31 c31 k31, PySem.W.mg_of X G a31, (fun_mk (st := s__law_ends) l31 c31 k31).binds (ps := ["_law_n", "_law_size", "_law_rooms_here"]) fun _ _ _ _ _ _ us hl => match us, hl with | [_, _, _], _ => rfl⟩
  refine ⟨PySem.W.fnOf "law" "law" (defArgs s_law) (defBody s_law) (defScope s_law) .none kV32 dc32 pm32 an32 cd32 ct32, fun s v => .of_eq rfl, fun base _ _ => ?_⟩
  have x_BadBook : XcAt l.prog w K mg base "BadBook" C_BadBook ["fault", "at"] := XcAt.mk' (fun_mk (st := s_xi_BadBook) l_BadBook c_BadBook k_BadBook) h_BadBook xc_BadBook a_BadBook t_BadBook ((fun_mk (st := s_xi_BadBook) l_BadBook c_BadBook k_BadBook).binds (ps := ["self", "fault", "at"]) fun _ _ _ _ _ _ us hl => match us, hl with | [_, _, _], _ => rfl) sc_xi_BadBook rfl (by decide) (by decide) fun cdv A outer s H E => pss_cons (ps_ost (pv 0) (pv 1)) (pss_one (ps_ost (pv 0) (pv 2)))
  have x_Mismatch : XcAt l.prog w K mg base "Mismatch" C_Mismatch ["fault"] := XcAt.mk' (fun_mk (st := s_xi_Mismatch) l_Mismatch c_Mismatch k_Mismatch) h_Mismatch xc_Mismatch a_Mismatch t_Mismatch ((fun_mk (st := s_xi_Mismatch) l_Mismatch c_Mismatch k_Mismatch).binds (ps := ["self", "fault"]) fun _ _ _ _ _ _ us hl => match us, hl with | [_, _], _ => rfl) sc_xi_Mismatch rfl (by decide) (by decide) fun cdv A outer s H E => pss_one (ps_ost (pv 0) (pv 1))
  have x_BadText : XcAt l.prog w K mg base "BadText" C_BadText ["line", "fault"] := XcAt.mk' (fun_mk (st := s_xi_BadText) l_BadText c_BadText k_BadText) h_BadText xc_BadText a_BadText t_BadText ((fun_mk (st := s_xi_BadText) l_BadText c_BadText k_BadText).binds (ps := ["self", "line", "fault"]) fun _ _ _ _ _ _ us hl => match us, hl with | [_, _, _], _ => rfl) sc_xi_BadText rfl (by decide) (by decide) fun cdv A outer s H E => pss_cons (ps_ost (pv 0) (pv 1)) (pss_one (ps_ost (pv 0) (pv 2)))
  have t_Book___len__ : MtAt l.prog w K mg base "Book" C_Book "__len__" 1 1 m_Book_len := t_Book___len__ F_Book_len B_Book_len h_Book b_len f_rooms cls_Book ⟨a0, i0, k0⟩
  have O_len : OpsAt l.prog w K mg base "__len__" 1 1 opT_len := (OpsAt.cons t_Book___len__ sf_Book (by decide) OpsAt.nil)
  have I_Book : ItAt l.prog w K mg base "Book" "rooms" 1 := ItAt.mk' F_Book_iter h_Book cls_Book no_Book_rooms ⟨a1, i1, k1⟩ B_Book_iter sc_Book_iter rfl b_iter (fun _ _ _ _ _ _ => by rfl) (by first | exact .inl rfl | exact .inr (.inl rfl)) (fun _ _ _ _ _ _ => by rfl)
  have O_iter : ItsAt l.prog w K mg base 1 opT_iter := (ItsAt.cons I_Book (by decide) ItsAt.nil)
  have k_mask_of : KnX l.prog w K mg base "mask_of" 5 1 m_mask_of := k_mask_of F_mask_of O_iter
  have k_room_of : KnX l.prog w K mg base "room_of" 1 1 m_room_of := k_room_of F_room_of b_range b_tuple
  have k_odd_unions : KnX l.prog w K mg base "odd_unions" 6 2 m_odd_unions := k_odd_unions F_odd_unions k_mask_of k_room_of O_iter
  have k_room_fault : KnX l.prog w K mg base "room_fault" 5 3 m_room_fault := k_room_fault F_room_fault b_len b_any b_set O_len O_iter
  have t_Book___contains__ : MtAt l.prog w K mg base "Book" C_Book "__contains__" 1 2 m_Book_contains := t_Book___contains__ F_Book_contains B_Book_contains h_Book f__known cls_Book ⟨a6, i6, k6⟩
  have O_in : OpsAt l.prog w K mg base "__contains__" 1 2 opT_in := (OpsAt.cons t_Book___contains__ sf_Book (by decide) OpsAt.nil)
  have k_book_faults : KnX l.prog w K mg base "book_faults" 6 3 m_book_faults := k_book_faults F_book_faults k_room_fault b_sorted b_tuple b_enumerate g_MOST_PLACES O_in
  have k_Book_init : CkAt l.prog w K mg base "Book" C_Book 7 3 m_Book_init := k_Book_init F_Book_init B_Book_init h_Book k_book_faults b_len b_sorted b_tuple x_BadBook O_len f_places f_size f_rooms O_iter f__known ⟨mk_Book, a8, i8, kc_Book⟩
  have t_Book___mul__ : MtAt l.prog w K mg base "Book" C_Book "__mul__" 9 2 m_Book_mul := t_Book___mul__ F_Book_mul B_Book_mul h_Book k_odd_unions b_isinstance x_Mismatch S_o f_places f_size f_rooms k_Book_init cls_Book ⟨a9, i9, k9⟩
  have O_mul : OpsAt l.prog w K mg base "__mul__" 9 2 opT_mul := (OpsAt.cons t_Book___mul__ sf_Book (by decide) OpsAt.nil)
  have k__law_cell : KnX l.prog w K mg base "_law_cell" 13 2 m__law_cell := k__law_cell F__law_cell b_len b_abs b_int O_len O_mul
  have t_Book___eq__ : MtAt l.prog w K mg base "Book" C_Book "__eq__" 1 2 m_Book_eq := t_Book___eq__ F_Book_eq B_Book_eq h_Book b_isinstance S_o f_places f_size f_rooms cls_Book ⟨a11, i11, k11⟩
  have O_eq : OpsAt l.prog w K mg base "__eq__" 1 2 opT_eq := (OpsAt.cons t_Book___eq__ sf_Book (by decide) OpsAt.nil)
  have k__law_subsets : KnX l.prog w K mg base "_law_subsets" 5 2 m__law_subsets := k__law_subsets F__law_subsets b_range b_len b_sorted O_iter O_len O_eq
  have k__law_chosen : KnX l.prog w K mg base "_law_chosen" 1 3 m__law_chosen := k__law_chosen F__law_chosen b_list b_range b_int b_sorted
  have k__law_rooms : KnX l.prog w K mg base "_law_rooms" 14 4 m__law_rooms := k__law_rooms F__law_rooms k__law_cell k__law_subsets k__law_chosen b_int b_range b_sorted O_in
  have k__law_text : KnX l.prog w K mg base "_law_text" 5 3 m__law_text := k__law_text F__law_text b_str O_iter
  have k_places_text : KnX l.prog w K mg base "places_text" 5 1 m_places_text := k_places_text F_places_text b_str O_iter
  have k_book_lines : KnX l.prog w K mg base "book_lines" 6 1 m_book_lines := k_book_lines F_book_lines k_places_text f_size f_places f_rooms
  have k_format_book : KnX l.prog w K mg base "format_book" 7 1 m_format_book := k_format_book F_format_book k_book_lines
  have k_is_number_word : KnX l.prog w K mg base "is_number_word" 1 1 m_is_number_word := k_is_number_word F_is_number_word b_len g_MOST_DIGITS
  have k_are_number_words : KnX l.prog w K mg base "are_number_words" 5 1 m_are_number_words := k_are_number_words F_are_number_words k_is_number_word b_all O_iter
  have k_head_fault : KnX l.prog w K mg base "head_fault" 6 2 m_head_fault := k_head_fault F_head_fault k_are_number_words b_len b_int g_MOST_PLACES O_len
  have k_read_head : KnX l.prog w K mg base "read_head" 7 3 m_read_head := k_read_head F_read_head k_head_fault b_int x_BadText
  have k_read_book_head : KnX l.prog w K mg base "read_book_head" 8 2 m_read_book_head := k_read_book_head F_read_book_head k_read_head x_BadText
  have k_room_fault_after : KnX l.prog w K mg base "room_fault_after" 5 4 m_room_fault_after := k_room_fault_after F_room_fault_after b_len b_any b_range O_len O_iter
  have k_read_room : KnX l.prog w K mg base "read_room" 6 4 m_read_room := k_read_room F_read_room k_are_number_words k_room_fault_after b_int b_tuple x_BadText O_iter
  have k_parse_book : KnX l.prog w K mg base "parse_book" 9 1 m_parse_book := k_parse_book F_parse_book k_read_book_head k_read_room b_enumerate k_Book_init
  have k__law_whole : KnX l.prog w K mg base "_law_whole" 5 2 m__law_whole := k__law_whole F__law_whole b_int b_isinstance b_bool S_o O_eq
  have k__law_room : KnX l.prog w K mg base "_law_room" 6 2 m__law_room := k__law_room F__law_room k__law_whole b_tuple b_isinstance b_len b_range S_o O_len
  have k__law_there_and_back : KnX l.prog w K mg base "_law_there_and_back" 10 3 m__law_there_and_back := k__law_there_and_back F__law_there_and_back k__law_text k_format_book k_parse_book k__law_whole k__law_room b_list b_str b_isinstance b_tuple b_len b_range O_iter O_len k_Book_init S_o h_Book f_places f_size f_rooms O_eq
  have k__law_refused : KnX l.prog w K mg base "_law_refused" 10 1 m__law_refused := k__law_refused F__law_refused k_parse_book b_isinstance b_ValueError S_x h_BadText h_NeverAloneError xf_fault xf_line
  have k__law_ends : KnX l.prog w K mg base "_law_ends" 11 3 m__law_ends := k__law_ends F__law_ends k__law_text k__law_refused b_len O_len O_eq
  exact law_of (ok_law (fun_mk (st := s_law) l32 c32 k32) k__law_cell k__law_rooms k__law_there_and_back k__law_ends b_int b_range) hlaw
end Lk06
namespace Lk06
open PySem PySem.Spec L2 DL
set_option maxHeartbeats 1000000
def px10x : PX := ⟨isoD oT oB (fun _ _ => none), orC (lenO opT_len) lenD, orL (eqO opT_eq) eqD, ixA⟩
theorem px10x_ok : px10x.Ok := ⟨fun d n h => by cases d <;> first | rfl | (cases h), fun _ => rfl, fun _ => rfl, fun _ => rfl, fun x y h => by cases x <;> first | rfl | (cases h), fun _ _ => rfl, fun _ _ => rfl, fun _ _ => rfl⟩
theorem cell_ok (ns : List Int) (k : Nat) (hk : k ≤ 1000) : ∃ c : Int, 0 ≤ c ∧ m__law_cell [.scr ns, .int k] = .ok (.int c) := g_cellA_ok (tab := opT_mul) px10x_ok ns k hk
theorem half (c : Int) : fdivD (.int c) (.int 2) = .ok (.int (c / 2)) := fdivD_int (by omega)
theorem mod2 (c : Int) : modD (.int c) (.int 2) = .ok (.int (c % 2)) := modD_int (by omega)
end Lk06
namespace Lk06
open PySem PySem.Spec L2 DL
set_option maxHeartbeats 1000000
/-! ### sorted lists of rows -/
theorem rowL_py (r : List Int) : (rowL r).py = .list (r.map PyData.int) := by
  simp only [rowL, D.py]
  rw [pys_intsR]
theorem lt_rowL {r q : List Int} (h : lexL r q = true) : PySem.W.dataLt (rowL r).py (rowL q).py = true := by
  rw [rowL_py, rowL_py, PySem.W.dataLt_list]
  have := PySem.W.dataLt_ints r q
  unfold PySem.W.rowLt at this
  rw [this]
  exact decide_eq_true (lexL_ltR _ _ h)
theorem okH_rows (X : List (List Int)) : okH (X.map rowL) = true := by
  unfold okH
  refine List.all_eq_true.mpr fun d hd => ?_
  obtain ⟨p, hp, rfl⟩ := List.mem_map.mp hd
  rw [fine_rowL 59 p, Bool.true_and]
  refine Bool.and_eq_true_iff.mpr ⟨rfl, List.all_eq_true.mpr fun e he => ?_⟩
  obtain ⟨q, _, rfl⟩ := List.mem_map.mp he
  rw [rowL_py, rowL_py, PySem.W.alike]
  exact alike_intsR p q
theorem sortH_rows {X T : List (List Int)} (hp : X.Perm T) (ha : AscR T) : sortedH [.lst (X.map rowL)] = .ok (.lst (T.map rowL)) := by
  show (if okH (X.map rowL) = true then R.ok (D.lst (sortG (X.map rowL))) else .stuck) = _
  rw [if_pos (okH_rows X), sort_by rowL hp (ha.imp fun h => lt_rowL h)]
/-! ### subsets -/
def subsP : Nat → List (List Int)
  | 0 => [[]]
  | k + 1 => subsP k ++ (subsP k).map fun r => r ++ [(k : Int)]
theorem subsP_len : ∀ k, (subsP k).length = 2 ^ k
  | 0 => rfl
  | k + 1 => by
    rw [subsP, List.length_append, List.length_map, subsP_len k]
    omega
theorem subsP_row : ∀ k, ∀ r ∈ subsP k, r.length ≤ k
  | 0, r, h => by
    rw [List.mem_singleton.mp h]
    simp
  | k + 1, r, h => by
    rcases List.mem_append.mp h with h | h
    · have := subsP_row k r h
      omega
    · obtain ⟨q, hq, rfl⟩ := List.mem_map.mp h
      have := subsP_row k q hq
      simp
      omega
def subsB (n s : Nat) : Bool := ((subsP n).filter fun r => decide (r.length = s)).isPerm (combI s (iotaI n))
theorem subsB_ok : ((List.range 8).all fun n => (List.range 8).all fun s => subsB n s) = true := by decide +kernel
theorem subs_perm {n s : Nat} (hn : n ≤ 7) (hs : s ≤ 7) : ((subsP n).filter fun r => decide (r.length = s)).Perm (combI s (iotaI n)) := by
  have h := List.all_eq_true.mp subsB_ok n (List.mem_range.mpr (by omega))
  have h := List.all_eq_true.mp h s (List.mem_range.mpr (by omega))
  exact List.isPerm_iff.mp h
theorem lenR_rowL (r : List Int) : orC (lenO opT_len) lenD [rowL r] = .ok (.int r.length) := by
  show lenD [.lst (r.map D.int)] = _
  simp -implicitDefEqProofs
theorem catL {xs ys : List Int} (h : xs.length + ys.length ≤ 100000) : o2 addD (.ok (rowL xs)) (.ok (rowL ys)) = .ok (rowL (xs ++ ys)) := by
  show calm (addD (.lst (xs.map D.int)) (.lst (ys.map D.int))) = _
  rw [addD_lst (by rw [List.length_map, List.length_map]; exact lim_le h), ← List.map_append]
  rfl
theorem pow7 {k : Nat} (h : k ≤ 7) : 2 ^ k ≤ 128 := Nat.pow_le_pow_right (n := 2) (by omega) h
theorem subsets_ok {n s : Nat} (hn : n ≤ 7) (hs : s ≤ 7) : m__law_subsets [.int (n : Int), .int (s : Int)] = .ok (.lst ((combI s (iotaI n)).map rowL)) := by
  refine run_wp ?_
  rw [show startE 5 [D.int (n : Int), .int (s : Int)] = [some (.int (n : Int)), some (.int (s : Int)), none, none, none] from rfl]
  unfold b__law_subsets
  refine w_then (w_asg (.lst ([[]].map rowL)) rfl (nxt_nx ?_))
  simp -implicitDefEqProofs only [get_succ, get_zero, wipeE_cons, wipeE_nil, setE_cons, setE_nil, List.set_cons_succ, List.set_cons_zero, acons_ok, cbf_ok, o1_ok, o2_ok, o3_ok, toI_ok, calm_ok, ok_bind, tst_ok, tnot_ok, ifv_ok, tand_ok, tor_ok, vand_ok, vor_ok, vnot_ok, dsp_ok, call1, call2, call3, call4, call5, callF2, callF3, addD_int, subD_int, negD_int, leD_int, ltD_int, gtD_int, geX_int, eqD_int, neD_int, intD_int, lenD_lst, lenD_tup, lenD_scr, tupleD_lst, tupleD_tup, listD_lst, listL_lst, listL_tup, lstD_nil, tupD_nil, tupD_1, tupD_2, lstD_1, lenOk_nil, inD_tup, inD_lst, notInD_tup, notInD_lst, agV_, agN_, agC_, tupAs_, its_ok, itemsD_lst, itemsD_tup]
  refine w_then (w_for (ds := [.int (n : Int)]) (fun (k : Nat) => D.int (k : Int)) (List.range n) (fun i ρ => ∃ a b, ρ = [some (.int (n : Int)), some (.int (s : Int)), some (.lst ((subsP i).map rowL)), a, b]) (by simp -implicitDefEqProofs only [get_succ, get_zero, wipeE_cons, wipeE_nil, setE_cons, setE_nil, List.set_cons_succ, List.set_cons_zero, acons_ok, cbf_ok, o1_ok, o2_ok, o3_ok, toI_ok, calm_ok, ok_bind, tst_ok, tnot_ok, ifv_ok, tand_ok, tor_ok, vand_ok, vor_ok, vnot_ok, dsp_ok, call1, call2, call3, call4, call5, callF2, callF3, addD_int, subD_int, negD_int, leD_int, ltD_int, gtD_int, geX_int, eqD_int, neD_int, intD_int, lenD_lst, lenD_tup, lenD_scr, tupleD_lst, tupleD_tup, listD_lst, listL_lst, listL_tup, lstD_nil, tupD_nil, tupD_1, tupD_2, lstD_1, lenOk_nil, inD_tup, inD_lst, notInD_tup, notInD_lst, agV_, agN_, agC_, tupAs_, its_ok, itemsD_lst, itemsD_tup]) (rg1_nat (lim_le (by omega))) ⟨none, none, rfl⟩ ?_ ?_)
  · rintro i x ρ hx ⟨a, b, rfl⟩
    obtain ⟨hi, hx⟩ := List.getElem?_eq_some_iff.mp hx
    simp only [List.getElem_range] at hx
    subst hx
    have hi : i < n := by simpa using hi
    refine ⟨[(3, .int (i : Int))], rfl, ?_⟩
    simp -implicitDefEqProofs only [get_succ, get_zero, wipeE_cons, wipeE_nil, setE_cons, setE_nil, List.set_cons_succ, List.set_cons_zero, acons_ok, cbf_ok, o1_ok, o2_ok, o3_ok, toI_ok, calm_ok, ok_bind, tst_ok, tnot_ok, ifv_ok, tand_ok, tor_ok, vand_ok, vor_ok, vnot_ok, dsp_ok, call1, call2, call3, call4, call5, callF2, callF3, addD_int, subD_int, negD_int, leD_int, ltD_int, gtD_int, geX_int, eqD_int, neD_int, intD_int, lenD_lst, lenD_tup, lenD_scr, tupleD_lst, tupleD_tup, listD_lst, listL_lst, listL_tup, lstD_nil, tupD_nil, tupD_1, tupD_2, lstD_1, lenOk_nil, inD_tup, inD_lst, notInD_tup, notInD_lst, agV_, agN_, agC_, tupAs_, its_ok, itemsD_lst, itemsD_tup]
    have hl := subsP_len i
    have hp := pow7 (k := i) (by omega)
    have hrow := subsP_row i
    have e := lcM_all (vs := [4]) (ag := agV 4) (mt := fun _ => .ok true) (mi := fun r => itsO opT_iter (get r 2)) (me := fun r => o2 addD (get r 4) (dsp lstD (acons (get r 3) (.ok [])))) (ρ := [some (.int (n : Int)), some (.int (s : Int)), some (.lst ((subsP i).map rowL)), some (.int (i : Int)), b]) rowL (fun r => rowL (r ++ [(i : Int)])) (subsP i) rfl (lim_le (by omega)) fun r hr => ⟨[(4, rowL r)], rfl, rfl, by
      have := hrow r hr
      exact catL (xs := r) (ys := [(i : Int)]) (by simp; omega)⟩
    refine w_asg (.lst ((subsP (i + 1)).map rowL)) ?_ (lp_nx ⟨_, _, rfl⟩)
    rw [e]
    simp -implicitDefEqProofs only [get_succ, get_zero, wipeE_cons, wipeE_nil, setE_cons, setE_nil, List.set_cons_succ, List.set_cons_zero, acons_ok, cbf_ok, o1_ok, o2_ok, o3_ok, toI_ok, calm_ok, ok_bind, tst_ok, tnot_ok, ifv_ok, tand_ok, tor_ok, vand_ok, vor_ok, vnot_ok, dsp_ok, call1, call2, call3, call4, call5, callF2, callF3, addD_int, subD_int, negD_int, leD_int, ltD_int, gtD_int, geX_int, eqD_int, neD_int, intD_int, lenD_lst, lenD_tup, lenD_scr, tupleD_lst, tupleD_tup, listD_lst, listL_lst, listL_tup, lstD_nil, tupD_nil, tupD_1, tupD_2, lstD_1, lenOk_nil, inD_tup, inD_lst, notInD_tup, notInD_lst, agV_, agN_, agC_, tupAs_, its_ok, itemsD_lst, itemsD_tup]
    rw [addD_lst (by rw [List.length_map, List.length_map]; exact lim_le (by omega)), subsP, List.map_append, List.map_map]
    rfl
  · rintro ρ ⟨a, b, rfl⟩
    rw [List.length_range]
    have hl := subsP_len n
    have hp := pow7 hn
    refine nxt_nx (w_rt _ ?_ (fin_rt rfl))
    rw [lcM_map rowL (fun r => decide (r.length = s)) rowL (subsP n) rfl (lim_le (by omega)) fun r hr => ⟨[(4, rowL r)], rfl, ?_, fun _ => rfl⟩]
    · rw [acons_ok, cbf_ok, sortH_rows (subs_perm hn hs) (combI_ascR s _ (iotaI_asc n))]
      rfl
    · have : orL (eqO opT_eq) eqD (.int (r.length : Int)) (.int (s : Int)) = .ok (.bl (decide ((r.length : Int) = (s : Int)))) := eqD_int _ _
      simp -implicitDefEqProofs only [get_succ, get_zero, wipeE_cons, wipeE_nil, setE_cons, setE_nil, List.set_cons_succ, List.set_cons_zero, acons_ok, cbf_ok, o1_ok, o2_ok, o3_ok, toI_ok, calm_ok, ok_bind, tst_ok, tnot_ok, ifv_ok, tand_ok, tor_ok, vand_ok, vor_ok, vnot_ok, dsp_ok, call1, call2, call3, call4, call5, callF2, callF3, addD_int, subD_int, negD_int, leD_int, ltD_int, gtD_int, geX_int, eqD_int, neD_int, intD_int, lenD_lst, lenD_tup, lenD_scr, tupleD_lst, tupleD_tup, listD_lst, listL_lst, listL_tup, lstD_nil, tupD_nil, tupD_1, tupD_2, lstD_1, lenOk_nil, inD_tup, inD_lst, notInD_tup, notInD_lst, agV_, agN_, agC_, tupAs_, its_ok, itemsD_lst, itemsD_tup, lenR_rowL, this]
      congr 1
      by_cases h : r.length = s
      · simp [h]
      · simp [h]
        omega
end Lk06
namespace Lk06
open PySem PySem.Spec L2 DL
set_option maxHeartbeats 1000000
structure RowsR (n s : Nat) (W : List (List Int)) : Prop where
  nd : (W.map sortI).Nodup
  row : ∀ r ∈ W, r.length = s ∧ r.Nodup ∧ ∀ p ∈ r, 0 ≤ p ∧ p < (n : Int)
theorem RowsR.room {n s : Nat} {W : List (List Int)} (h : RowsR n s W) : ∀ r ∈ W.map sortI, RoomR n s r := fun r hr => by
  obtain ⟨w, hw, rfl⟩ := List.mem_map.mp hr
  obtain ⟨h1, h2, h3⟩ := h.row w hw
  exact ⟨by rw [(sortI_perm w).length_eq, h1], nodup_srt_asc ((sortI_perm _).nodup_iff.mpr h2) (sortI_srt _), fun p hp => h3 p ((sortI_perm w).mem_iff.mp hp)⟩
theorem RowsR.len {n s : Nat} {W : List (List Int)} (h : RowsR n s W) (hn : n ≤ 8) (hs : s ≤ 8) : W.length ≤ 70 := by
  have := nodup_rooms8 hn hs h.nd h.room
  rwa [List.length_map] at this
theorem RowsR.take {n s : Nat} {W : List (List Int)} (h : RowsR n s W) {i : Nat} (hi : i < W.length) : sortI (W.getD i []) ∉ (W.take i).map sortI := by
  have hn := h.nd
  rw [List.getD_eq_getElem?_getD, List.getElem?_eq_getElem hi]
  intro hm
  rw [List.map_take, List.mem_take_iff_getElem] at hm
  obtain ⟨j, hj, he⟩ := hm
  unfold List.Nodup at hn
  rw [List.pairwise_iff_getElem] at hn
  rw [List.length_map] at hj
  exact hn j i (by rw [List.length_map]; omega) (by rw [List.length_map]; omega) (by omega) (by rw [he, List.getElem_map]; rfl)
end Lk06
namespace Lk06
open PySem PySem.Spec L2 DL
set_option maxHeartbeats 4000000
/-! ### the fault of one row -/
def faultP (n s : Int) (r : List Int) : Str :=
  if (r.length : Int) ≠ s then "count" else if (r.any fun p => !(decide (0 ≤ p) && decide (p < n))) = true then "place" else if r.Nodup then "" else "twice"
section
variable {n s : Int} {r : List Int}
theorem faultP_1 (h : ¬ (r.length : Int) = s) : faultP n s r = "count" := if_pos h
theorem faultP_2 (h : (r.length : Int) = s) (hp : (r.any fun p => !(decide (0 ≤ p) && decide (p < n))) = true) : faultP n s r = "place" := by
  unfold faultP
  rw [if_neg (fun e => e h), if_pos hp]
theorem faultP_3 (h : (r.length : Int) = s) (hp : ¬ (r.any fun p => !(decide (0 ≤ p) && decide (p < n))) = true) (hn : r.Nodup) : faultP n s r = "" := by
  unfold faultP
  rw [if_neg (fun e => e h), if_neg hp, if_pos hn]
theorem faultP_4 (h : (r.length : Int) = s) (hp : ¬ (r.any fun p => !(decide (0 ≤ p) && decide (p < n))) = true) (hn : ¬ r.Nodup) : faultP n s r = "twice" := by
  unfold faultP
  rw [if_neg (fun e => e h), if_neg hp, if_neg hn]
end
/-- how a row is written -/
structure Rw (rp : List Int → D) : Prop where
  ln : ∀ r, orC (lenO opT_len) lenD [rp r] = .ok (.int r.length)
  its : ∀ r, itsO opT_iter (.ok (rp r)) = .ok (r.map D.int)
  set : ∀ r, r.length ≤ 1000 → lenSetD (rp r) = .ok (.int ((ded r).length : Nat))
  srt : ∀ r, sortedA [rp r] = .ok (rowL (sortI r))
theorem rwL : Rw rowL := ⟨lenR_rowL, fun _ => rfl, fun r hl => by
  show (match intsOf (r.map D.int) with
    | some ns => if ns.length ≤ 1000 then R.ok (D.int ((ded ns).length : Nat)) else .stuck
    | none => .stuck) = _
  rw [intsOf_map]
  exact if_pos hl, fun r => sortedA_ints r⟩
theorem rwD : Rw rowD := ⟨fun r => by
  show lenD [.tup (r.map D.int)] = _
  simp -implicitDefEqProofs, fun _ => rfl, fun r hl => by
  show (match intsOf (r.map D.int) with
    | some ns => if ns.length ≤ 1000 then R.ok (D.int ((ded ns).length : Nat)) else .stuck
    | none => .stuck) = _
  rw [intsOf_map]
  exact if_pos hl, fun r => sortedA_intsT r⟩
theorem room_fault_ok {rp : List Int → D} (R : Rw rp) (n s : Int) (r : List Int) (hl : r.length ≤ 1000) : m_room_fault [.int n, .int s, rp r] = .ok (.str (faultP n s r)) := by
  apply runX_rt
  rw [show startE 4 [D.int n, .int s, rp r] = [some (.int n), some (.int s), some (rp r), none] from rfl]
  unfold b_room_fault
  simp -implicitDefEqProofs only [get_succ, get_zero, acons_ok, cbf_ok, R.ln, calm_ok, o2_ok, neD_int, tst_ok, ifv_ok]
  by_cases hs : (r.length : Int) = s
  · have hc : lcM [3] (fun r => (itsO opT_iter (get r 2))) (agV 3) (fun _ => .ok true) (fun r => (vnot (ch2 leD ltD (.ok (.int 0)) (get r 3) (get r 0)))) [some (.int n), some (.int s), some (rp r), none] = .ok (.lst (r.map fun p => .bl (!(decide (0 ≤ p) && decide (p < n))))) := by
      refine lcM_all D.int _ r (R.its r) (by have : LIM = 1000000 := rfl; omega) fun p hp => ⟨_, rfl, rfl, ?_⟩
      simp -implicitDefEqProofs only [wipeE_cons, wipeE_nil, setE_cons, setE_nil, List.set_cons_succ, List.set_cons_zero, get_succ, get_zero, ch2, ok_bind, leD_int, calm_ok]
      by_cases h0 : 0 ≤ p <;> simp -implicitDefEqProofs [h0, asB, ltD_int]
    have ha : anyD [.lst (r.map fun p => .bl (!(decide (0 ≤ p) && decide (p < n))))] = .ok (.bl (r.any fun p => !(decide (0 ≤ p) && decide (p < n)))) := by
      have h := anyD_ (r.map fun p => !(decide (0 ≤ p) && decide (p < n)))
      rw [List.map_map, List.any_map] at h
      exact h
    have hd := R.set r hl
    rw [if_neg (show ¬ (!decide ((r.length : Int) = s)) = true by rw [decide_eq_true hs]; decide), then_nx]
    simp -implicitDefEqProofs only [hc, acons_ok, cbf_ok, ha, calm_ok, tst_ok, ifv_ok]
    by_cases hp : (r.any fun p => !(decide (0 ≤ p) && decide (p < n))) = true
    · rw [if_pos hp, faultP_2 hs hp]
      rfl
    · rw [if_neg hp, then_nx]
      simp -implicitDefEqProofs only [get_succ, get_zero, o1_ok, hd, acons_ok, cbf_ok, R.ln, calm_ok, o2_ok, neD_int, tst_ok, ifv_ok]
      by_cases hn : r.Nodup
      · rw [ded_self hn, if_neg (by simp), then_nx, faultP_3 hs hp hn]
        rfl
      · have h := ded_lt hn
        rw [if_pos (by simp; omega), faultP_4 hs hp hn]
        rfl
  · rw [if_pos (by simp [hs]), faultP_1 hs]
    rfl
/-! ### all faults -/
theorem eqD_str {a b : Str} (ha : (D.str a).fine 60 = true) (hb : (D.str b).fine 60 = true) : eqD (.str a) (.str b) = .ok (.bl (decide (a = b))) := by
  have h : eqD (.str a) (.str b) = gd ((D.str a).fine 60 = true ∧ (D.str b).fine 60 = true) (.bl (PyData.eqv (D.str a).py (D.str b).py)) := rfl
  rw [h, gd_ok ⟨ha, hb⟩]
  simp only [D.py, PyData.eqv]
  by_cases e : a = b
  · subst e
    simp
  · simp [e]
theorem fine_e : (D.str "").fine 60 = true := by decide +kernel
theorem fine_a : (D.str "again").fine 60 = true := by decide +kernel
theorem fine_faultP (n s : Int) (r : List Int) : (D.str (faultP n s r)).fine 60 = true := by
  unfold faultP
  split
  · decide +kernel
  · split
    · decide +kernel
    · split
      · decide +kernel
      · decide +kernel
theorem again_ne : ¬ (("again" : Str) = "") := by decide +kernel
def fltP (n s : Int) (r : List Int) (S : List (List Int)) : Str := if faultP n s r = "" ∧ sortI r ∈ S then "again" else faultP n s r
theorem fine_fltP (n s : Int) (r : List Int) (S : List (List Int)) : (D.str (fltP n s r S)).fine 60 = true := by
  unfold fltP
  split
  · exact fine_a
  · exact fine_faultP n s r
theorem fltP_e {n s : Int} {r : List Int} {S : List (List Int)} (h : fltP n s r S = "") : faultP n s r = "" ∧ sortI r ∉ S := by
  unfold fltP at h
  split at h
  · exact absurd h again_ne
  · rename_i h2
    exact ⟨h, fun e => h2 ⟨h, e⟩⟩
def stp (n s : Int) (i : Nat) (r : List Int) (q : List (List Int) × List (Str × Nat)) : List (List Int) × List (Str × Nat) :=
  if fltP n s r q.1 = "" then (q.1 ++ [sortI r], q.2) else (q.1, q.2 ++ [(fltP n s r q.1, i)])
def dueN (n s : Int) (R : List (List Int)) : Nat → List (List Int) × List (Str × Nat)
  | 0 => ([], [])
  | i + 1 => stp n s i (R.getD i []) (dueN n s R i)
def faultsP (n s : Int) (R : List (List Int)) : List (Str × Nat) :=
  if ¬ (1 ≤ n ∧ n ≤ 12) then [("places", 0)] else if ¬ (1 ≤ s ∧ s ≤ n) then [("size", 0)] else (dueN n s R R.length).2
def pairD (p : Str × Nat) : D := .tup [.str p.1, .int p.2]
theorem dueN_len (n s : Int) (R : List (List Int)) : ∀ i, (dueN n s R i).1.length ≤ i ∧ (dueN n s R i).2.length ≤ i
  | 0 => by simp [dueN]
  | i + 1 => by
    have ih := dueN_len n s R i
    simp only [dueN, stp]
    split
    · simp; omega
    · simp; omega
theorem getD_mem {R : List (List Int)} {k : Nat} (h : k < R.length) : R.getD k [] ∈ R := by
  rw [List.getD_eq_getElem?_getD, List.getElem?_eq_getElem h]
  exact List.getElem_mem h
theorem lim {n : Nat} (h : n ≤ 100000) : n ≤ LIM := lim63 h
/-- rows as they are passed -/
structure Con (rp : List Int → D) (V : D) (W : List (List Int)) : Prop where
  its : itsO opT_iter (.ok V) = .ok (W.map rp)
  enm : dsp enumA (.ok [V]) = .ok ((List.range W.length).map fun (k : Nat) => D.tup [.int (k : Int), rp (W.getD k [])])
theorem conL (rp : List Int → D) (W : List (List Int)) : Con rp (.lst (W.map rp)) W := ⟨rfl, by
  have h := enumD_map rp W [] 0
  simp only [Nat.zero_add] at h
  rw [← h]
  rfl⟩
theorem book_faults_ok {rp : List Int → D} {V : D} (Z : Rw rp) (n s : Int) (R : List (List Int)) (hV : Con rp V R) (hR : R.length ≤ 1000) (hr : ∀ r ∈ R, r.length ≤ 1000) : m_book_faults [.int n, .int s, V] = .ok (.lst ((faultsP n s R).map pairD)) := by
  apply runX_rt
  rw [show startE 9 [D.int n, .int s, V] = [some (.int n), some (.int s), some (V), none, none, none, none, none, none] from rfl]
  unfold b_book_faults
  refine th_if (b := !decide (1 ≤ n ∧ n ≤ 12)) ?_ ?_ ?_
  · simp -implicitDefEqProofs only [get_succ, get_zero, ch2, ok_bind, leD_int, calm_ok]
    by_cases h1 : 1 ≤ n <;> simp -implicitDefEqProofs [h1, asB, leD_int]
  · intro h
    unfold faultsP
    rw [if_pos (nd_t h)]
    rfl
  · intro h
    have h := nd_f h
    rw [then_nx]
    refine th_if (b := !decide (1 ≤ s ∧ s ≤ n)) ?_ ?_ ?_
    · simp -implicitDefEqProofs only [get_succ, get_zero, ch2, ok_bind, leD_int, calm_ok]
      by_cases h1 : 1 ≤ s <;> simp -implicitDefEqProofs [h1, asB, leD_int]
    · intro h2
      unfold faultsP
      rw [if_neg (fun e => e h), if_pos (nd_t h2)]
      rfl
    · intro h2
      have h2 := nd_f h2
      rw [then_nx]
      refine th_own (ds := []) rfl ?_
      rw [then_nx]
      simp -implicitDefEqProofs only [List.set_cons_succ, List.set_cons_zero]
      refine th_fors (fun (k : Nat) => D.tup [.int (k : Int), rp (R.getD k [])]) (List.range R.length) (fun i ρ => ∃ a b c d, ρ = [some (.int n), some (.int s), some (V), some (.lst ((dueN n s R i).2.map pairD)), some (.dt ((dueN n s R i).1.map kyI) ((dueN n s R i).1.map fun _ => .bl true)), a, b, c, d]) ?_ ⟨_, _, _, _, rfl⟩ ?_ ?_
      · exact hV.enm
      · rintro i x ρ hx ⟨a, b, c, d, rfl⟩
        obtain ⟨hi, hx⟩ := List.getElem?_eq_some_iff.mp hx
        simp only [List.getElem_range] at hx
        subst hx
        have hi : i < R.length := by simpa using hi
        obtain ⟨l1, l2⟩ := dueN_len n s R i
        have hlr := hr _ (getD_mem hi)
        have hf := room_fault_ok Z n s (R.getD i []) hlr
        have hs := Z.srt (R.getD i [])
        have hs2 : tupleD [rowL (sortI (R.getD i []))] = .ok (rowD (sortI (R.getD i []))) := rfl
        have h1 : dueN n s R (i + 1) = stp n s i (R.getD i []) (dueN n s R i) := rfl
        have e1 := eqD_str (fine_faultP n s (R.getD i [])) fine_e
        have hin := inG_dt (sortI (R.getD i [])) (dueN n s R i).1 ((dueN n s R i).1.map fun _ => .bl true) (by rw [List.length_map])
        have hin2 : orR (inO opT_in) inG (rowD (sortI (R.getD i []))) (.dt ((dueN n s R i).1.map kyI) ((dueN n s R i).1.map fun _ => .bl true)) = .ok (.bl (decide (sortI (R.getD i []) ∈ (dueN n s R i).1))) := hin
        refine ⟨[(5, .int (i : Int)), (6, rp (R.getD i []))], [some (.int n), some (.int s), some (V), some (.lst ((dueN n s R (i + 1)).2.map pairD)), some (.dt ((dueN n s R (i + 1)).1.map kyI) ((dueN n s R (i + 1)).1.map fun _ => .bl true)), some (.int (i : Int)), some (rp (R.getD i [])), some (.str (fltP n s (R.getD i []) (dueN n s R i).1)), some (rowD (sortI (R.getD i [])))], rfl, .inl ?_, ?_⟩
        · simp -implicitDefEqProofs only [setE_cons, setE_nil, List.set_cons_succ, List.set_cons_zero]
          refine th_asg (d := .str (faultP n s (R.getD i []))) ?_ ?_
          · simp -implicitDefEqProofs only [wipeE_cons, wipeE_nil, List.set_cons_succ, List.set_cons_zero, get_succ, get_zero, acons_ok, call3, hf]
          simp -implicitDefEqProofs only [List.set_cons_succ, List.set_cons_zero]
          refine th_asg (d := rowD (sortI (R.getD i []))) ?_ ?_
          · simp -implicitDefEqProofs only [wipeE_cons, wipeE_nil, List.set_cons_succ, List.set_cons_zero, get_succ, get_zero, acons_ok, cbf_ok, hs, hs2, calm_ok]
          simp -implicitDefEqProofs only [List.set_cons_succ, List.set_cons_zero]
          refine th_nx (ρ := [some (.int n), some (.int s), some (V), some (.lst ((dueN n s R i).2.map pairD)), some (.dt ((dueN n s R i).1.map kyI) ((dueN n s R i).1.map fun _ => .bl true)), some (.int (i : Int)), some (rp (R.getD i [])), some (.str (fltP n s (R.getD i []) (dueN n s R i).1)), some (rowD (sortI (R.getD i [])))]) ?_ ?_
          · simp -implicitDefEqProofs only [get_succ, get_zero, o2_ok, e1, calm_ok, hin2, tst_ok, tand_ok]
            unfold fltP
            by_cases c1 : faultP n s (R.getD i []) = ""
            · rw [if_pos (decide_eq_true c1), ifv_ok]
              by_cases c2 : sortI (R.getD i []) ∈ (dueN n s R i).1
              · rw [if_pos (decide_eq_true c2), if_pos ⟨c1, c2⟩]
                rfl
              · rw [if_neg (by simpa using c2), if_neg (fun e => c2 e.2)]
            · rw [if_neg (by simpa using c1), ifv_ok, if_neg (by decide), if_neg (fun e => c1 e.1)]
          · have e3 := eqD_str (fine_fltP n s (R.getD i []) (dueN n s R i).1) fine_e
            refine ifv_of (b := decide (fltP n s (R.getD i []) (dueN n s R i).1 = "")) (out := DL.R.ok (Fl.nx [some (.int n), some (.int s), some (V), some (.lst ((dueN n s R (i + 1)).2.map pairD)), some (.dt ((dueN n s R (i + 1)).1.map kyI) ((dueN n s R (i + 1)).1.map fun _ => .bl true)), some (.int (i : Int)), some (rp (R.getD i [])), some (.str (fltP n s (R.getD i []) (dueN n s R i).1)), some (rowD (sortI (R.getD i [])))])) ?_ ?_ ?_
            · simp -implicitDefEqProofs only [get_succ, get_zero, o2_ok, e3, calm_ok, tst_ok]
            · intro c
              have c := of_decide_eq_true c
              refine (dputS_dt (d := .bl true) (r := sortI (R.getD i [])) (S := (dueN n s R i).1) (ds := (dueN n s R i).1.map fun _ => .bl true) rfl rfl rfl rfl (lim_lt' (by omega)) (fltP_e c).2).trans ?_
              rw [h1]
              unfold stp
              rw [if_pos c, List.map_append (f := fun _ => D.bl true)]
              rfl
            · intro c
              have c := of_decide_eq_false c
              rw [appS_nx (ds := (dueN n s R i).2.map pairD) (d := pairD (fltP n s (R.getD i []) (dueN n s R i).1, i)) rfl (by simp -implicitDefEqProofs only [wipeE_cons, wipeE_nil, List.set_cons_succ, List.set_cons_zero, get_succ, get_zero, acons_ok, dsp_ok, tupD_2, pairD]) (by rw [List.length_map]; exact lim_lt' (by omega)), h1]
              unfold stp
              rw [if_neg c, List.map_append]
              rfl
        · exact ⟨_, _, _, _, rfl⟩
      · rintro ρ ⟨a, b, c, d, rfl⟩
        rw [List.length_range]
        unfold faultsP
        rw [if_neg (fun e => e h), if_neg (fun e => e h2)]
        rfl
theorem faultP_e {n s : Int} {r : List Int} (h : faultP n s r = "") : (r.length : Int) = s := by
  by_cases hs : (r.length : Int) = s
  · exact hs
  · rw [faultP_1 hs] at h
    exact absurd h (by decide +kernel)
theorem due_sound (n s : Int) (R : List (List Int)) : ∀ k, k ≤ R.length → (dueN n s R k).2 = [] → (dueN n s R k).1 = (R.take k).map sortI ∧ (dueN n s R k).1.Nodup ∧ ∀ i, i < k → ((R.getD i []).length : Int) = s
  | 0, _, _ => ⟨by simp [dueN], by simp [dueN], fun i hi => absurd hi (by omega)⟩
  | k + 1, hk, h => by
    have h : (stp n s k (R.getD k []) (dueN n s R k)).2 = [] := h
    show (stp n s k (R.getD k []) (dueN n s R k)).1 = _ ∧ (stp n s k (R.getD k []) (dueN n s R k)).1.Nodup ∧ _
    unfold stp at h ⊢
    split at h
    · rename_i hf
      obtain ⟨a, b, c⟩ := due_sound n s R k (by omega) h
      obtain ⟨f1, f2⟩ := fltP_e hf
      rw [if_pos hf]
      refine ⟨?_, ?_, ?_⟩
      · have hk2 : k < R.length := by omega
        rw [List.take_succ_eq_append_getElem hk2, List.map_append, ← a]
        rw [List.getD_eq_getElem?_getD, List.getElem?_eq_getElem hk2]
        rfl
      · rw [List.nodup_append]
        refine ⟨b, by simp, ?_⟩
        intro x hx y hy
        rw [List.mem_singleton] at hy
        subst hy
        intro e
        subst e
        exact f2 hx
      · intro i hi
        by_cases e : i = k
        · subst e
          exact faultP_e f1
        · exact c i (by omega)
    · simp at h
end Lk06
namespace Lk06
open PySem PySem.Spec L2 DL
set_option maxHeartbeats 4000000
theorem sortI_ne {r : List Int} (h : r ≠ []) : sortI r ≠ [] := fun e => h (by
  have := (sortI_perm r).length_eq
  rw [e] at this
  exact List.eq_nil_of_length_eq_zero this.symm)
theorem lst_sorted {rp : List Int → D} (Z : Rw rp) {vs : List Nat} {ρ : DL.Env} {mi : DL.Env → DL.R (List D)} {i : Nat} {R : List (List Int)} (hi : mi ρ = .ok (R.map rp)) (hl : R.length ≤ LIM) (hg : ∀ r, get (setE (wipeE ρ vs) [(i, rp r)]) i = .ok (rp r)) : lcM vs mi (agV i) (fun _ => .ok true) (fun r => (cbf tupleD (acons (cbf sortedA (acons (get r i) (.ok []))) (.ok [])))) ρ = .ok (.lst ((R.map sortI).map rowD)) := by
  rw [List.map_map]
  refine lcM_all rp (fun r => rowD (sortI r)) R hi hl fun r hr => ⟨_, rfl, rfl, ?_⟩
  show cbf tupleD (acons (cbf sortedA (acons (get (setE (wipeE ρ vs) [(i, rp r)]) i) (.ok []))) (.ok [])) = _
  rw [hg]
  simp -implicitDefEqProofs only [acons_ok, cbf_ok, Z.srt, calm_ok]
  rfl
theorem book_good {rp : List Int → D} {V : D} (Z : Rw rp) {n s : Int} {R : List (List Int)} (hV : Con rp V R) (hR : R.length ≤ 1000) (hr : ∀ r ∈ R, r.length ≤ 1000) (hp : faultsP n s R = []) :
    m_Book_init [.int n, .int s, V] = .ok (bookI n s (sortR (R.map sortI))) ∧ (∀ r ∈ R.map sortI, r ≠ []) := by
  have h1 := book_faults_ok Z n s R hV hR hr
  rw [hp] at h1
  have hne : (∀ r ∈ R.map sortI, r ≠ []) ∧ (R.map sortI).Nodup := by
    unfold faultsP at hp
    split at hp
    · cases hp
    · split at hp
      · cases hp
      · rename_i h3
        have h3 : 1 ≤ s ∧ s ≤ n := Classical.not_not.mp h3
        obtain ⟨a, b, c⟩ := due_sound n s R R.length (Nat.le_refl _) hp
        rw [List.take_length] at a
        refine ⟨?_, a ▸ b⟩
        intro r hm
        obtain ⟨q, hq, rfl⟩ := List.mem_map.mp hm
        obtain ⟨i, hi, rfl⟩ := List.getElem_of_mem hq
        have := c i hi
        rw [List.getD_eq_getElem?_getD, List.getElem?_eq_getElem hi] at this
        refine sortI_ne fun e => ?_
        simp [e] at this
        omega
  refine ⟨?_, hne.1⟩
  have hs := sortedA_rows (R.map sortI) hne.1
  have hn2 : (sortR (R.map sortI)).Nodup := (sortR_perm _).nodup_iff.mpr hne.2
  have hl2 : (sortR (R.map sortI)).length ≤ 1000 := by
    rw [(sortR_perm _).length_eq, List.length_map]
    exact hR
  generalize hQ : sortR (R.map sortI) = Q at hs hn2 hl2
  have h : b_Book_init (some (.obj "Book" [] []) :: startE 7 [.int n, .int s, V]) = .ok (.nx [some (bookI n s Q), some (.int n), some (.int s), some (V), some (.lst []), none, none, none]) := by
    rw [show startE 7 [D.int n, .int s, V] = [some (.int n), some (.int s), some (V), none, none, none, none] from rfl]
    unfold b_Book_init
    refine th_asg (d := .lst []) ?_ ?_
    · simp -implicitDefEqProofs only [wipeE_cons, wipeE_nil, List.set_cons_succ, List.set_cons_zero, get_succ, get_zero, acons_ok, call3, h1]
      rfl
    simp -implicitDefEqProofs only [List.set_cons_succ, List.set_cons_zero]
    refine th_skip rfl ?_
    refine th_nx (ρ := [some (.obj "Book" ["places"] [.int n]), some (.int n), some (.int s), some (V), some (.lst []), none, none, none]) rfl ?_
    refine th_nx (ρ := [some (.obj "Book" ["places", "size"] [.int n, .int s]), some (.int n), some (.int s), some (V), some (.lst []), none, none, none]) rfl ?_
    refine th_nx (ρ := [some (.obj "Book" ["places", "size", "rooms"] [.int n, .int s, .tup (Q.map rowD)]), some (.int n), some (.int s), some (V), some (.lst []), none, none, none]) ?_ ?_
    · rw [lst_sorted Z (R := R) hV.its (lim_le (by omega)) (fun _ => rfl)]
      simp -implicitDefEqProofs only [acons_ok, cbf_ok, hs, calm_ok, tupleD_lst]
      unfold fldS
      rw [ok_bind, if_pos ?_]
      · rfl
      · show ([0].all fun i => match ([some (.obj "Book" ["places", "size"] [.int n, .int s]), some (.int n), some (.int s), some (V), some (.lst []), none, none, none] : DL.Env)[i]? with
          | some (some d0) => !((D.tup (Q.map rowD)).has d0.kind) && (!(deep [0] i) || !((D.tup (Q.map rowD)).has 0))
          | _ => true) = true
        simp only [List.all_cons, List.all_nil, List.getElem?_cons_zero, has_rowsT]
        rfl
    · rw [dcM_rows (fun _ => .bl true) Q (by rfl) (lim_le (by omega)) hn2 fun q hq => ⟨_, rfl, rfl, rfl, rfl⟩]
      unfold fldS
      rw [ok_bind, if_pos ?_]
      · rfl
      · have hh : ∀ k, k ≠ 2 → (D.dt (Q.map kyI) (Q.map fun _ => .bl true)).has k = false := fun k hk => by
          simp only [D.has]
          rw [has_map (fun _ => .bl true) Q fun x _ => by simp [D.has]]
          simp [hk]
        show ([0].all fun i => match ([some (.obj "Book" ["places", "size", "rooms"] [.int n, .int s, .tup (Q.map rowD)]), some (.int n), some (.int s), some (V), some (.lst []), none, none, none] : DL.Env)[i]? with
          | some (some d0) => !((D.dt (Q.map kyI) (Q.map fun _ => .bl true)).has d0.kind) && (!(deep [0] i) || !((D.dt (Q.map kyI) (Q.map fun _ => .bl true)).has 0))
          | _ => true) = true
        simp only [List.all_cons, List.all_nil, List.getElem?_cons_zero]
        rw [hh _ (by simp [D.kind]), hh 0 (by decide)]
        rfl
  show b_Book_init (some (.obj "Book" [] []) :: startE 7 [.int n, .int s, V]) >>= endI = _
  rw [h]
  rfl
end Lk06
namespace Lk06
open PySem PySem.Spec L2 DL
set_option maxHeartbeats 1000000
/-! ### words -/
def num (p : Int) : Str := Str.ofString (toString p)
def numB (k : Nat) : Bool := isT (m_is_number_word [.str (num (k : Int))]) && decide (intText? (num (k : Int)) = some (k : Int)) && decide ((num (k : Int)).length ≤ 2) && decide (32 ∉ (num (k : Int)).cps.toList) && decide (10 ∉ (num (k : Int)).cps.toList) && decide ((k : Int).natAbs.log2 < 1920) && decide (1 ≤ (num (k : Int)).length)
set_option maxHeartbeats 0 in
theorem numB_ok : ((List.range 13).all numB) = true := by decide +kernel
structure Word (p : Int) : Prop where
  w : m_is_number_word [.str (num p)] = .ok (.bl true)
  i : intText? (num p) = some p
  l : (num p).length ≤ 2
  s : 32 ∉ (num p).cps.toList
  n : 10 ∉ (num p).cps.toList
  g : p.natAbs.log2 < 1920
  e : 1 ≤ (num p).length
theorem word_of {p : Int} (h : 0 ≤ p ∧ p ≤ 12) : Word p := by
  obtain ⟨k, rfl⟩ : ∃ k : Nat, p = (k : Int) := ⟨p.toNat, by omega⟩
  have hb := List.all_eq_true.mp numB_ok k (List.mem_range.mpr (by omega))
  unfold numB at hb
  simp only [Bool.and_eq_true, decide_eq_true_eq] at hb
  obtain ⟨⟨⟨⟨⟨⟨h1, h2⟩, h3⟩, h4⟩, h5⟩, h6⟩, h7⟩ := hb
  exact ⟨isT_of h1, h2, h3, h4, h5, h6, h7⟩
theorem sp_eq : (" " : Str) = ⟨#[32]⟩ := by decide +kernel
theorem nl_eq : ("\n" : Str) = ⟨#[10]⟩ := by decide +kernel
theorem join_len (sep : Str) (ps : List Str) (b : Nat) (h : ∀ p ∈ ps, p.length ≤ b) : (Txt.join sep ps).length ≤ ps.length * (b + sep.length) := by
  have e : (Txt.join sep ps).length = (ps.map (·.length)).sum + (ps.length - 1) * sep.length := size_glued sep ps
  have hs : (ps.map (·.length)).sum ≤ ps.length * b := by
    clear e
    induction ps with
    | nil => simp
    | cons p ps ih =>
      have := ih fun q hq => h q (List.mem_cons_of_mem _ hq)
      have := h p List.mem_cons_self
      rw [List.map_cons, List.sum_cons, List.length_cons, Nat.succ_mul]
      omega
  have : (ps.length - 1) * sep.length ≤ ps.length * sep.length := Nat.mul_le_mul_right _ (by omega)
  rw [e, Nat.mul_add]
  omega
theorem sum_len (ps : List Str) (b : Nat) (h : ∀ p ∈ ps, p.length ≤ b) : (ps.map fun (x : Str) => x.length).sum ≤ ps.length * b := by
  induction ps with
  | nil => simp
  | cons p ps ih =>
    have := ih fun q hq => h q (List.mem_cons_of_mem _ hq)
    have := h p List.mem_cons_self
    rw [List.map_cons, List.sum_cons, List.length_cons, Nat.succ_mul]
    omega
theorem free_join (c : Nat) (sep : Str) (hs : c ∉ sep.cps.toList) : ∀ ps : List Str, (∀ p ∈ ps, c ∉ p.cps.toList) → c ∉ (Str.join sep ps).cps.toList
  | [], _ => by
    show c ∉ (Str.empty).cps.toList
    exact List.not_mem_nil
  | [p], h => h p List.mem_cons_self
  | p :: q :: ps, h => by
    have ih := free_join c sep hs (q :: ps) fun r hr => h r (List.mem_cons_of_mem _ hr)
    have hp := h p List.mem_cons_self
    show c ∉ ((p ++ sep) ++ Str.join sep (q :: ps)).cps.toList
    rw [Str.cps_append, Str.cps_append, Array.toList_append, Array.toList_append]
    simp only [List.mem_append, not_or]
    exact ⟨⟨hp, hs⟩, ih⟩
theorem tjoin (sep : Str) (ps : List Str) : Txt.join sep ps = Str.join sep ps := StrLaws.glued_eq_join _ _
theorem joinD_ok (sep : Str) (ps : List Str) (h : (ps.map fun (x : Str) => x.length).sum + ps.length * sep.length ≤ 1000000) : joinD sep (.lst (ps.map D.str)) = .ok (.str (Txt.join sep ps)) := by
  show (match strsOf (ps.map D.str) with
    | some ys => if (ys.map fun (x : Str) => x.length).sum + ys.length * sep.length ≤ 1000000 then DL.R.ok (D.str (Txt.join sep ys)) else .stuck
    | none => .stuck) = _
  rw [strsOf_map]
  exact if_pos h
theorem splitD_ok (a b : Str) (h : (b.length == 0) = false ∧ a.length + 2 ≤ 1000000) : splitD a (.str b) = .ok (.lst ((Txt.split a b).map D.str)) := if_pos h
/-! ### the text of a book -/
def line (r : List Int) : Str := Txt.join " " (r.map num)
def head (n s : Int) : Str := Txt.join " " ["book", num n, num s]
def lines (n s : Int) (Q : List (List Int)) : List Str := head n s :: Q.map line
def text (n s : Int) (Q : List (List Int)) : Str := Txt.join "\n" (lines n s Q)
structure Rows (n s : Int) (Q : List (List Int)) : Prop where
  n1 : 1 ≤ n ∧ n ≤ 12
  s1 : 1 ≤ s ∧ s ≤ n
  l : Q.length ≤ 20
  r : ∀ r ∈ Q, (r.length : Int) = s ∧ Asc r ∧ ∀ p ∈ r, 0 ≤ p ∧ p < n
  a : AscR Q
theorem strD_ok {p : Int} (h : Word p) : strD [.int p] = .ok (.str (num p)) := if_pos h.g
theorem fvD_ok {p : Int} (h : Word p) : fvD (.int p) = .ok (.str (num p)) := if_pos h.g
theorem line_len {n s : Int} {Q : List (List Int)} (h : Rows n s Q) : ∀ r ∈ Q, (line r).length ≤ 36 ∧ r.length ≤ 12 ∧ ∀ p ∈ r, Word p := fun r hr => by
  obtain ⟨a, b, c⟩ := h.r r hr
  have hn := h.n1
  have hs := h.s1
  have hw : ∀ p ∈ r, Word p := fun p hp => word_of (by have := c p hp; omega)
  have hl : (line r).length ≤ (r.map num).length * (2 + 1) := join_len " " (r.map num) 2 fun w hw2 => by
    obtain ⟨p, hp, rfl⟩ := List.mem_map.mp hw2
    exact (hw p hp).l
  rw [List.length_map] at hl
  exact ⟨by omega, by omega, hw⟩
theorem head_len {n s : Int} (hn : Word n) (hs : Word s) : (head n s).length ≤ 36 := by
  have := join_len " " ["book", num n, num s] 10 fun w hw => by
    simp only [List.mem_cons, List.not_mem_nil, or_false] at hw
    rcases hw with rfl | rfl | rfl
    · decide +kernel
    · have := hn.l; omega
    · have := hs.l; omega
  have h2 : (" " : Str).length = 1 := by decide +kernel
  rw [h2] at this
  exact Nat.le_trans this (show 3 * (10 + 1) ≤ 36 by decide)
theorem head_eq (n s : Int) : (("book " ++ num n) ++ " ") ++ num s = head n s := by
  unfold head
  rw [tjoin]
  show _ = ("book" ++ " ") ++ ((num n ++ " ") ++ num s)
  rw [show ("book" : Str) ++ (" " : Str) = "book " from by decide +kernel]
  simp only [Str.append_assoc]
theorem Rows.wn {n s : Int} {Q : List (List Int)} (h : Rows n s Q) : Word n ∧ Word s := ⟨word_of (by have := h.n1; omega), word_of (by have := h.n1; have := h.s1; omega)⟩
theorem lines_len {n s : Int} {Q : List (List Int)} (h : Rows n s Q) : ∀ w ∈ lines n s Q, w.length ≤ 36 := fun w hw => by
  rcases List.mem_cons.mp hw with rfl | hw
  · exact head_len h.wn.1 h.wn.2
  · obtain ⟨r, hr, rfl⟩ := List.mem_map.mp hw
    exact (line_len h r hr).1
theorem text_len {n s : Int} {Q : List (List Int)} (h : Rows n s Q) : ((lines n s Q).map fun (x : Str) => x.length).sum + (lines n s Q).length * ("\n" : Str).length ≤ 1000000 ∧ (text n s Q).length ≤ 2000 := by
  have h1 := sum_len (lines n s Q) 36 (lines_len h)
  have h2 := join_len "\n" (lines n s Q) 36 (lines_len h)
  have h3 : ("\n" : Str).length = 1 := by decide +kernel
  have h4 : (lines n s Q).length = Q.length + 1 := by simp [lines]
  have h5 := h.l
  rw [h4] at h1 h2 ⊢
  rw [h3] at h2 ⊢
  exact ⟨by omega, by unfold text; omega⟩
/-- the law's text -/
theorem law_text_ok {n s : Int} {Q : List (List Int)} (h : Rows n s Q) : m__law_text [.int n, .int s, .lst (Q.map rowL)] = .ok (.str (text n s Q)) := by
  have hn := strD_ok h.wn.1
  have hs := strD_ok h.wn.2
  have hl := h.l
  have hlt := (text_len h).1
  have hll := line_len h
  refine run_wp ?_
  rw [show startE 6 [.int n, .int s, .lst (Q.map rowL)] = [some (.int n), some (.int s), some (.lst (Q.map rowL)), none, none, none] from rfl]
  unfold b__law_text
  have a1 : ∀ x y : Str, x.length + y.length ≤ 1000 → addD (.str x) (.str y) = .ok (.str (x ++ y)) := fun x y h => gd_ok (by show x.length + y.length ≤ LIM; exact lim_le (by omega))
  refine w_then (w_own [.str (head n s)] ?_ (nxt_nx ?_))
  · have l1 : ("book " : Str).length = 5 := by decide +kernel
    have l2 : (" " : Str).length = 1 := by decide +kernel
    have l3 := h.wn.1.l
    have l4 := h.wn.2.l
    have e1 := a1 "book " (num n) (by omega)
    have e2 := a1 ("book " ++ num n) " " (by rw [Str.length_append]; omega)
    have e3 := a1 (("book " ++ num n) ++ " ") (num s) (by rw [Str.length_append, Str.length_append]; omega)
    simp -implicitDefEqProofs only [get_succ, get_zero, wipeE_cons, wipeE_nil, setE_cons, setE_nil, List.set_cons_succ, List.set_cons_zero, acons_ok, cbf_ok, o1_ok, o2_ok, o3_ok, toI_ok, calm_ok, ok_bind, tst_ok, tnot_ok, ifv_ok, tand_ok, tor_ok, vand_ok, vor_ok, vnot_ok, dsp_ok, call1, call2, call3, call4, call5, callF2, callF3, addD_int, subD_int, negD_int, leD_int, ltD_int, gtD_int, geX_int, eqD_int, neD_int, intD_int, lenD_lst, lenD_tup, lenD_scr, tupleD_lst, tupleD_tup, listD_lst, listL_lst, listL_tup, lstD_nil, tupD_nil, tupD_1, tupD_2, lstD_1, lenOk_nil, inD_tup, inD_lst, notInD_tup, notInD_lst, agV_, agN_, agC_, tupAs_, its_ok, itemsD_lst, itemsD_tup, hn, hs, e1, e2, e3, head_eq]
    rfl
  simp -implicitDefEqProofs only [get_succ, get_zero, wipeE_cons, wipeE_nil, setE_cons, setE_nil, List.set_cons_succ, List.set_cons_zero, acons_ok, cbf_ok, o1_ok, o2_ok, o3_ok, toI_ok, calm_ok, ok_bind, tst_ok, tnot_ok, ifv_ok, tand_ok, tor_ok, vand_ok, vor_ok, vnot_ok, dsp_ok, call1, call2, call3, call4, call5, callF2, callF3, addD_int, subD_int, negD_int, leD_int, ltD_int, gtD_int, geX_int, eqD_int, neD_int, intD_int, lenD_lst, lenD_tup, lenD_scr, tupleD_lst, tupleD_tup, listD_lst, listL_lst, listL_tup, lstD_nil, tupD_nil, tupD_1, tupD_2, lstD_1, lenOk_nil, inD_tup, inD_lst, notInD_tup, notInD_lst, agV_, agN_, agC_, tupAs_, its_ok, itemsD_lst, itemsD_tup]
  refine w_then (w_fors rowL Q (fun i ρ => ∃ a b, ρ = [some (.int n), some (.int s), some (.lst (Q.map rowL)), some (.lst ((head n s :: (Q.take i).map line).map D.str)), a, b]) rfl ⟨none, none, by simp⟩ ?_ ?_)
  · rintro i r ρ hx ⟨a, b, rfl⟩
    obtain ⟨hi, rfl⟩ := List.getElem?_eq_some_iff.mp hx
    obtain ⟨g1, g2, g3⟩ := hll _ (List.getElem_mem hi)
    refine ⟨[(4, rowL Q[i])], rfl, ?_⟩
    simp -implicitDefEqProofs only [setE_cons, setE_nil, List.set_cons_succ, List.set_cons_zero]
    have e := lcM_all (vs := [5]) (ag := agV 5) (mt := fun _ => .ok true) (mi := fun r => itsO opT_iter (get r 4)) (me := fun r => (cbf strD (acons (get r 5) (.ok [])))) (ρ := wipeE [some (.int n), some (.int s), some (.lst (Q.map rowL)), some (.lst ((head n s :: (Q.take i).map line).map D.str)), some (rowL Q[i]), b] [3]) D.int (fun p => D.str (num p)) Q[i] rfl (lim_le (by omega)) fun p hp => ⟨[(5, .int p)], rfl, rfl, by
      have := strD_ok (g3 p hp)
      simp -implicitDefEqProofs only [wipeE_cons, wipeE_nil, setE_cons, setE_nil, List.set_cons_succ, List.set_cons_zero, get_succ, get_zero, acons_ok, cbf_ok, this, calm_ok]⟩
    have hj : joinD " " (.lst ((Q[i].map num).map D.str)) = .ok (.str (line Q[i])) := joinD_ok " " _ (by
      have := sum_len (Q[i].map num) 2 fun w hw => by
        obtain ⟨p, hp, rfl⟩ := List.mem_map.mp hw
        exact (g3 p hp).l
      have h2 : (" " : Str).length = 1 := by decide +kernel
      rw [List.length_map] at this ⊢
      rw [h2]
      omega)
    rw [List.map_map] at hj
    refine w_app (ds := (head n s :: (Q.take i).map line).map D.str) (.str (line Q[i])) rfl ?_ (lim_lt' (by simp; omega)) (lp_nx ⟨some (rowL Q[i]), b, ?_⟩)
    · refine Eq.trans (congrArg (oS joinD (.ok (.str " "))) e) ?_
      show calm (joinD " " (.lst (Q[i].map fun p => D.str (num p)))) = _
      rw [show (Q[i].map fun p => D.str (num p)) = Q[i].map (D.str ∘ num) from rfl, hj]
      rfl
    · rw [List.take_succ_eq_append_getElem hi, List.map_append, ← List.cons_append, List.map_append (f := D.str)]
      rfl
  · rintro ρ ⟨a, b, rfl⟩
    rw [List.take_length]
    refine nxt_nx (w_rt (.str (text n s Q)) ?_ (fin_rt rfl))
    have := joinD_ok "\n" (lines n s Q) hlt
    show calm (joinD "\n" (.lst ((lines n s Q).map D.str))) = _
    rw [this]
    rfl
end Lk06
namespace Lk06
open PySem PySem.Spec L2 DL
set_option maxHeartbeats 1000000
/-! ### format_book -/
theorem places_text_ok {r : List Int} (hl : r.length ≤ 12) (hw : ∀ p ∈ r, Word p) : m_places_text [rowD r] = .ok (.str (line r)) := by
  have e := lcM_all (vs := [1]) (ag := agV 1) (mt := fun _ => .ok true) (mi := fun r => itsO opT_iter (get r 0)) (me := fun r => (cbf strD (acons (get r 1) (.ok [])))) (ρ := [some (rowD r), none]) D.int (fun p => D.str (num p)) r rfl (lim_le (by omega)) fun p hp => ⟨[(1, .int p)], rfl, rfl, by
    have := strD_ok (hw p hp)
    simp -implicitDefEqProofs only [get_succ, get_zero, wipeE_cons, wipeE_nil, setE_cons, setE_nil, List.set_cons_succ, List.set_cons_zero, acons_ok, cbf_ok, o1_ok, o2_ok, o3_ok, toI_ok, calm_ok, ok_bind, tst_ok, tnot_ok, ifv_ok, tand_ok, tor_ok, vand_ok, vor_ok, vnot_ok, dsp_ok, call1, call2, call3, call4, call5, callF2, callF3, addD_int, subD_int, negD_int, leD_int, ltD_int, gtD_int, geX_int, eqD_int, neD_int, intD_int, lenD_lst, lenD_tup, lenD_scr, tupleD_lst, tupleD_tup, listD_lst, listL_lst, listL_tup, lstD_nil, tupD_nil, tupD_1, tupD_2, lstD_1, lenOk_nil, inD_tup, inD_lst, notInD_tup, notInD_lst, agV_, agN_, agC_, tupAs_, its_ok, itemsD_lst, itemsD_tup, this]⟩
  have hj : joinD " " (.lst ((r.map num).map D.str)) = .ok (.str (line r)) := joinD_ok " " _ (by
    have := sum_len (r.map num) 2 fun w hw2 => by
      obtain ⟨p, hp, rfl⟩ := List.mem_map.mp hw2
      exact (hw p hp).l
    have h2 : (" " : Str).length = 1 := by decide +kernel
    rw [List.length_map] at this ⊢
    rw [h2]
    omega)
  rw [List.map_map] at hj
  refine run_wp ?_
  rw [show startE 2 [rowD r] = [some (rowD r), none] from rfl]
  unfold b_places_text
  refine w_rt (.str (line r)) ?_ (fin_rt rfl)
  refine Eq.trans (congrArg (oS joinD (.ok (.str " "))) e) ?_
  show calm (joinD " " (.lst (r.map (D.str ∘ num)))) = _
  rw [hj]
  rfl
theorem jn_ok {y : Str} {k : Str → DL.R D} {acc : Str} (h : (acc ++ y).length ≤ 1000000) : jn (.ok (.str y)) k acc = k (acc ++ y) := if_pos h
theorem format_ok {n s : Int} {Q : List (List Int)} (h : Rows n s Q) : m_format_book [bookI n s Q] = .ok (.str (text n s Q)) := by
  have hn := fvD_ok h.wn.1
  have hs := fvD_ok h.wn.2
  have l3 := h.wn.1.l
  have l4 := h.wn.2.l
  have hl := h.l
  have fS : fldD ["Book"] "size" (bookI n s Q) = .ok (.int s) := rfl
  have fP : fldD ["Book"] "places" (bookI n s Q) = .ok (.int n) := rfl
  have l1 : ("book " : Str).length = 5 := by decide +kernel
  have l2 : (" " : Str).length = 1 := by decide +kernel
  have l0 : (Str.empty).length = 0 := rfl
  have hb : m_book_lines [bookI n s Q] = .ok (.lst ((lines n s Q).map D.str)) := by
    refine run_wp ?_
    rw [show startE 2 [bookI n s Q] = [some (bookI n s Q), none] from rfl]
    unfold b_book_lines
    refine w_rt _ ?_ (fin_rt rfl)
    have e := lcM_all (vs := [1]) (ag := agV 1) (mt := fun _ => .ok true) (mi := fun r => its (o1 (fldD ["Book"] "rooms") (get r 0))) (me := fun r => (call_ 1 m_places_text (acons (get r 1) (.ok [])))) (ρ := [some (bookI n s Q), none]) rowD (fun r => D.str (line r)) Q rfl (lim_le (by omega)) fun r hr => ⟨[(1, rowD r)], rfl, rfl, by
      obtain ⟨_, g2, g3⟩ := line_len h r hr
      have := places_text_ok g2 g3
      simp -implicitDefEqProofs only [get_succ, get_zero, wipeE_cons, wipeE_nil, setE_cons, setE_nil, List.set_cons_succ, List.set_cons_zero, acons_ok, cbf_ok, o1_ok, o2_ok, o3_ok, toI_ok, calm_ok, ok_bind, tst_ok, tnot_ok, ifv_ok, tand_ok, tor_ok, vand_ok, vor_ok, vnot_ok, dsp_ok, call1, call2, call3, call4, call5, callF2, callF3, addD_int, subD_int, negD_int, leD_int, ltD_int, gtD_int, geX_int, eqD_int, neD_int, intD_int, lenD_lst, lenD_tup, lenD_scr, tupleD_lst, tupleD_tup, listD_lst, listL_lst, listL_tup, lstD_nil, tupD_nil, tupD_1, tupD_2, lstD_1, lenOk_nil, inD_tup, inD_lst, notInD_tup, notInD_lst, agV_, agN_, agC_, tupAs_, its_ok, itemsD_lst, itemsD_tup, this]⟩
    have e1 : jn (.ok (.str "book ")) (jn (o1 fvD (o1 (fldD ["Book"] "places") (.ok (bookI n s Q)))) (jn (.ok (.str " ")) (jn (o1 fvD (o1 (fldD ["Book"] "size") (.ok (bookI n s Q)))) jn0))) Str.empty = .ok (.str (head n s)) := by
      have q1 : o1 fvD (o1 (fldD ["Book"] "places") (.ok (bookI n s Q))) = .ok (.str (num n)) := by simp -implicitDefEqProofs only [get_succ, get_zero, wipeE_cons, wipeE_nil, setE_cons, setE_nil, List.set_cons_succ, List.set_cons_zero, acons_ok, cbf_ok, o1_ok, o2_ok, o3_ok, toI_ok, calm_ok, ok_bind, tst_ok, tnot_ok, ifv_ok, tand_ok, tor_ok, vand_ok, vor_ok, vnot_ok, dsp_ok, call1, call2, call3, call4, call5, callF2, callF3, addD_int, subD_int, negD_int, leD_int, ltD_int, gtD_int, geX_int, eqD_int, neD_int, intD_int, lenD_lst, lenD_tup, lenD_scr, tupleD_lst, tupleD_tup, listD_lst, listL_lst, listL_tup, lstD_nil, tupD_nil, tupD_1, tupD_2, lstD_1, lenOk_nil, inD_tup, inD_lst, notInD_tup, notInD_lst, agV_, agN_, agC_, tupAs_, its_ok, itemsD_lst, itemsD_tup, fP, hn]
      have q2 : o1 fvD (o1 (fldD ["Book"] "size") (.ok (bookI n s Q))) = .ok (.str (num s)) := by simp -implicitDefEqProofs only [get_succ, get_zero, wipeE_cons, wipeE_nil, setE_cons, setE_nil, List.set_cons_succ, List.set_cons_zero, acons_ok, cbf_ok, o1_ok, o2_ok, o3_ok, toI_ok, calm_ok, ok_bind, tst_ok, tnot_ok, ifv_ok, tand_ok, tor_ok, vand_ok, vor_ok, vnot_ok, dsp_ok, call1, call2, call3, call4, call5, callF2, callF3, addD_int, subD_int, negD_int, leD_int, ltD_int, gtD_int, geX_int, eqD_int, neD_int, intD_int, lenD_lst, lenD_tup, lenD_scr, tupleD_lst, tupleD_tup, listD_lst, listL_lst, listL_tup, lstD_nil, tupD_nil, tupD_1, tupD_2, lstD_1, lenOk_nil, inD_tup, inD_lst, notInD_tup, notInD_lst, agV_, agN_, agC_, tupAs_, its_ok, itemsD_lst, itemsD_tup, fS, hs]
      rw [q1, q2, jn_ok (by rw [Str.length_append]; omega), jn_ok (by rw [Str.length_append, Str.length_append]; omega), jn_ok (by rw [Str.length_append, Str.length_append, Str.length_append]; omega), jn_ok (by rw [Str.length_append, Str.length_append, Str.length_append, Str.length_append]; omega), Str.empty_append, head_eq]
      have := head_len h.wn.1 h.wn.2
      exact if_pos (by omega)
    rw [e]
    refine Eq.trans (congrArg (fun x => o2 addD (dsp lstD (acons x (.ok []))) (.ok (.lst (Q.map fun r => D.str (line r))))) e1) ?_
    show calm (addD (.lst [.str (head n s)]) (.lst (Q.map fun r => D.str (line r)))) = _
    rw [addD_lst (by rw [List.length_map]; exact lim_le (by simp; omega))]
    unfold lines
    rw [List.map_cons, List.map_map]
    rfl
  refine run_wp ?_
  rw [show startE 1 [bookI n s Q] = [some (bookI n s Q)] from rfl]
  unfold b_format_book
  refine w_rt (.str (text n s Q)) ?_ (fin_rt rfl)
  have hj := joinD_ok "\n" (lines n s Q) (text_len h).1
  simp -implicitDefEqProofs only [get_succ, get_zero, wipeE_cons, wipeE_nil, setE_cons, setE_nil, List.set_cons_succ, List.set_cons_zero, acons_ok, cbf_ok, o1_ok, o2_ok, o3_ok, toI_ok, calm_ok, ok_bind, tst_ok, tnot_ok, ifv_ok, tand_ok, tor_ok, vand_ok, vor_ok, vnot_ok, dsp_ok, call1, call2, call3, call4, call5, callF2, callF3, addD_int, subD_int, negD_int, leD_int, ltD_int, gtD_int, geX_int, eqD_int, neD_int, intD_int, lenD_lst, lenD_tup, lenD_scr, tupleD_lst, tupleD_tup, listD_lst, listL_lst, listL_tup, lstD_nil, tupD_nil, tupD_1, tupD_2, lstD_1, lenOk_nil, inD_tup, inD_lst, notInD_tup, notInD_lst, agV_, agN_, agC_, tupAs_, its_ok, itemsD_lst, itemsD_tup, hb]
  show calm (joinD "\n" (.lst ((lines n s Q).map D.str))) = _
  rw [hj]
  rfl
end Lk06
namespace Lk06
open PySem PySem.Spec L2 DL
set_option maxHeartbeats 1000000
/-! ### words read -/
theorem ltL_eq : ∀ a b : List Int, HT.lexLt a b = lexL a b
  | [], [] => rfl
  | [], _ :: _ => rfl
  | _ :: _, [] => rfl
  | x :: xs, y :: ys => by rw [HT.lexLt_cons, lexL, ltL_eq xs ys]
theorem w_asgG {ag : D → DL.R As} {ρ : DL.Env} {a : DL.R D} {Q : DL.R Fl → Prop} {d : D} {as : As} (h : a = .ok d) (h1 : ag d = .ok as) (h2 : Q (.ok (.nx (setE ρ as)))) : WP (asgG ag ρ a) Q := by
  subst h
  rw [asgG_ok, h1, calm_ok, ok_bind]
  exact ⟨h2⟩
theorem w_asgG_err {ag : D → DL.R As} {ρ : DL.Env} {a : DL.R D} {Q : DL.R Fl → Prop} {n : Str} {es : List D} (h : a = .err n es) (h2 : Q (.err n es)) : WP (asgG ag ρ a) Q := by
  subst h
  exact ⟨h2⟩
theorem w_asg_err {i : Nat} {ρ : DL.Env} {a : DL.R D} {Q : DL.R Fl → Prop} {n : Str} {es : List D} (h : a = .err n es) (h2 : Q (.err n es)) : WP (asg i ρ a) Q := by
  subst h
  exact ⟨h2⟩
theorem empty_word : m_is_number_word [.str ""] = .ok (.bl false) := by
  refine run_wp ?_
  rw [show startE 1 [.str ""] = [some (.str "")] from rfl]
  unfold b_is_number_word
  have e1 : isasciiD (.str "") = .ok (.bl true) := congrArg (fun b => DL.R.ok (D.bl b)) (show Txt.isascii "" = true by decide +kernel)
  have e2 : isdigitD (.str "") = .ok (.bl false) := congrArg (fun b => DL.R.ok (D.bl b)) (show Txt.isdigit "" = false by decide +kernel)
  exact w_then (w_t (by simp -implicitDefEqProofs only [get_succ, get_zero, wipeE_cons, wipeE_nil, setE_cons, setE_nil, List.set_cons_succ, List.set_cons_zero, acons_ok, cbf_ok, o1_ok, o2_ok, o3_ok, toI_ok, calm_ok, ok_bind, tst_ok, tnot_ok, ifv_ok, tand_ok, tor_ok, vand_ok, vor_ok, vnot_ok, dsp_ok, call1, call2, call3, call4, call5, callF2, callF3, addD_int, subD_int, negD_int, leD_int, ltD_int, gtD_int, geX_int, eqD_int, neD_int, intD_int, lenD_lst, lenD_tup, lenD_scr, tupleD_lst, tupleD_tup, listD_lst, listL_lst, listL_tup, lstD_nil, tupD_nil, tupD_1, tupD_2, lstD_1, lenOk_nil, inD_tup, inD_lst, notInD_tup, notInD_lst, agV_, agN_, agC_, tupAs_, its_ok, itemsD_lst, itemsD_tup, e1, e2]; rfl) (w_rt (.bl false) rfl (nxt_rt (fin_rt rfl))))
theorem are_ok (ws : List Str) (f : Str → Bool) (hl : ws.length ≤ 100) (h : ∀ w ∈ ws, m_is_number_word [.str w] = .ok (.bl (f w))) : m_are_number_words [.lst (ws.map D.str)] = .ok (.bl (ws.all f)) := by
  refine run_wp ?_
  rw [show startE 2 [.lst (ws.map D.str)] = [some (.lst (ws.map D.str)), none] from rfl]
  unfold b_are_number_words
  refine w_rt _ ?_ (fin_rt rfl)
  rw [lcM_all (ag := agV 1) D.str (fun w => D.bl (f w)) ws rfl (lim_le (by omega)) fun w hw => ⟨[(1, .str w)], rfl, rfl, by simp -implicitDefEqProofs only [get_succ, get_zero, wipeE_cons, wipeE_nil, setE_cons, setE_nil, List.set_cons_succ, List.set_cons_zero, acons_ok, cbf_ok, o1_ok, o2_ok, o3_ok, toI_ok, calm_ok, ok_bind, tst_ok, tnot_ok, ifv_ok, tand_ok, tor_ok, vand_ok, vor_ok, vnot_ok, dsp_ok, call1, call2, call3, call4, call5, callF2, callF3, addD_int, subD_int, negD_int, leD_int, ltD_int, gtD_int, geX_int, eqD_int, neD_int, intD_int, lenD_lst, lenD_tup, lenD_scr, tupleD_lst, tupleD_tup, listD_lst, listL_lst, listL_tup, lstD_nil, tupD_nil, tupD_1, tupD_2, lstD_1, lenOk_nil, inD_tup, inD_lst, notInD_tup, notInD_lst, agV_, agN_, agC_, tupAs_, its_ok, itemsD_lst, itemsD_tup, h w hw]⟩]
  have ha := allD_ (ws.map f)
  rw [List.map_map, List.all_map] at ha
  rw [acons_ok, cbf_ok, show (ws.map fun w => D.bl (f w)) = ws.map (D.bl ∘ f) from rfl, ha]
  rfl
theorem are_nums (r : List Int) (hl : r.length ≤ 100) (h : ∀ p ∈ r, Word p) : m_are_number_words [.lst ((r.map num).map D.str)] = .ok (.bl true) := by
  rw [are_ok (r.map num) (fun _ => true) (by rw [List.length_map]; exact hl) fun w hw => by
    obtain ⟨p, hp, rfl⟩ := List.mem_map.mp hw
    exact (h p hp).w]
  simp
theorem are_bad (r : List Int) (hl : r.length ≤ 99) (h : ∀ p ∈ r, Word p) : m_are_number_words [.lst ((r.map num ++ [("" : Str)]).map D.str)] = .ok (.bl false) := by
  rw [are_ok (r.map num ++ [("" : Str)]) (fun w => decide (w ≠ "")) (by simp; omega) fun w hw => by
    rcases List.mem_append.mp hw with hw | hw
    · obtain ⟨p, hp, rfl⟩ := List.mem_map.mp hw
      have hne : num p ≠ "" := fun e => by
        have := (h p hp).e
        rw [e] at this
        exact absurd this (by decide +kernel)
      rw [(h p hp).w, decide_eq_true hne]
    · rw [List.mem_singleton.mp hw, empty_word]
      rfl]
  simp
theorem intT_ok {p : Int} (h : Word p) : intT [.str (num p)] = .ok (.int p) := by
  show (match intText? (num p) with
    | some n => if (num p).length ≤ 640 then DL.R.ok (D.int n) else .stuck
    | none => .stuck) = _
  rw [h.i]
  exact if_pos (by have := h.l; omega)
theorem fine_s {w : Str} (h : w = "book" ∨ w = "count" ∨ w = "head" ∨ w = "number" ∨ w = "") : (D.str w).fine 60 = true := by
  rcases h with rfl | rfl | rfl | rfl | rfl <;> decide +kernel
theorem ne_e0 : neD (.str "") (.str "") = .ok (.bl false) := neD_refl (fine_s (.inr (.inr (.inr (.inr rfl)))))
theorem ne_head : neD (.str "head") (.str "") = .ok (.bl true) := by
  have e := eqD_str (a := "head") (b := "") (fine_s (.inr (.inr (.inl rfl)))) fine_e
  rw [decide_eq_false (by decide +kernel)] at e
  unfold neD
  rw [e]
  rfl
theorem ne_book : neD (.str "book") (.str "book") = .ok (.bl false) := neD_refl (fine_s (.inl rfl))
theorem lenL (ds : List D) : orC (lenO opT_len) lenD [.lst ds] = .ok (.int (ds.length : Int)) := by
  show lenD [.lst ds] = _
  exact lenD_lst ds
theorem head_ok {n s : Int} (hn : Word n) (hs : Word s) (hb : 1 ≤ n ∧ n ≤ 12) (l : Int) : m_read_head [.lst ((["book", num n, num s] : List Str).map D.str), .int l, .str "book"] = .ok (.tup [.int n, .int s]) := by
  have ia := intT_ok hn
  have ib := intT_ok hs
  have hx0 : ixA (.lst [D.str "book", .str (num n), .str (num s)]) (.int 0) = .ok (.str "book") := rfl
  have hx1 : ixA (.lst [D.str "book", .str (num n), .str (num s)]) (.int 1) = .ok (.str (num n)) := rfl
  have hx2 : ixA (.lst [D.str "book", .str (num n), .str (num s)]) (.int 2) = .ok (.str (num s)) := rfl
  have hf : m_head_fault [.lst [D.str "book", .str (num n), .str (num s)], .str "book"] = .ok (.str "") := by
    have har := are_nums [n, s] (by simp) fun p hp => by
      simp only [List.mem_cons, List.not_mem_nil, or_false] at hp
      rcases hp with rfl | rfl
      · exact hn
      · exact hs
    have har : m_are_number_words [.lst [.str (num n), .str (num s)]] = .ok (.bl true) := har
    have hc : sliceD (.lst [D.str "book", .str (num n), .str (num s)]) (some 1) none = .ok (.lst [.str (num n), .str (num s)]) := rfl
    refine run_wp ?_
    rw [show startE 2 [.lst [D.str "book", .str (num n), .str (num s)], .str "book"] = [some (.lst [D.str "book", .str (num n), .str (num s)]), some (.str "book")] from rfl]
    unfold b_head_fault
    refine w_then (w_f ?_ (w_nx (nxt_nx ?_)))
    · simp -implicitDefEqProofs only [get_succ, get_zero, wipeE_cons, wipeE_nil, setE_cons, setE_nil, List.set_cons_succ, List.set_cons_zero, acons_ok, cbf_ok, o1_ok, o2_ok, o3_ok, toI_ok, calm_ok, ok_bind, tst_ok, tnot_ok, ifv_ok, tand_ok, tor_ok, vand_ok, vor_ok, vnot_ok, dsp_ok, call1, call2, call3, call4, call5, callF2, callF3, addD_int, subD_int, negD_int, leD_int, ltD_int, gtD_int, geX_int, eqD_int, neD_int, intD_int, lenD_lst, lenD_tup, lenD_scr, tupleD_lst, tupleD_tup, listD_lst, listL_lst, listL_tup, lstD_nil, tupD_nil, tupD_1, tupD_2, lstD_1, lenOk_nil, inD_tup, inD_lst, notInD_tup, notInD_lst, agV_, agN_, agC_, tupAs_, its_ok, itemsD_lst, itemsD_tup, lenL, hx0, ne_book]
      rfl
    refine w_then (w_f ?_ (w_nx (nxt_nx ?_)))
    · simp -implicitDefEqProofs only [get_succ, get_zero, wipeE_cons, wipeE_nil, setE_cons, setE_nil, List.set_cons_succ, List.set_cons_zero, acons_ok, cbf_ok, o1_ok, o2_ok, o3_ok, toI_ok, calm_ok, ok_bind, tst_ok, tnot_ok, ifv_ok, tand_ok, tor_ok, vand_ok, vor_ok, vnot_ok, dsp_ok, call1, call2, call3, call4, call5, callF2, callF3, addD_int, subD_int, negD_int, leD_int, ltD_int, gtD_int, geX_int, eqD_int, neD_int, intD_int, lenD_lst, lenD_tup, lenD_scr, tupleD_lst, tupleD_tup, listD_lst, listL_lst, listL_tup, lstD_nil, tupD_nil, tupD_1, tupD_2, lstD_1, lenOk_nil, inD_tup, inD_lst, notInD_tup, notInD_lst, agV_, agN_, agC_, tupAs_, its_ok, itemsD_lst, itemsD_tup, hc, har]
      rfl
    refine w_then (w_f ?_ (w_nx (nxt_nx ?_)))
    · simp -implicitDefEqProofs only [get_succ, get_zero, wipeE_cons, wipeE_nil, setE_cons, setE_nil, List.set_cons_succ, List.set_cons_zero, acons_ok, cbf_ok, o1_ok, o2_ok, o3_ok, toI_ok, calm_ok, ok_bind, tst_ok, tnot_ok, ifv_ok, tand_ok, tor_ok, vand_ok, vor_ok, vnot_ok, dsp_ok, call1, call2, call3, call4, call5, callF2, callF3, addD_int, subD_int, negD_int, leD_int, ltD_int, gtD_int, geX_int, eqD_int, neD_int, intD_int, lenD_lst, lenD_tup, lenD_scr, tupleD_lst, tupleD_tup, listD_lst, listL_lst, listL_tup, lstD_nil, tupD_nil, tupD_1, tupD_2, lstD_1, lenOk_nil, inD_tup, inD_lst, notInD_tup, notInD_lst, agV_, agN_, agC_, tupAs_, its_ok, itemsD_lst, itemsD_tup, hx1, ia, ch2]
      simp -implicitDefEqProofs [hb.1, hb.2, asB, leD_int]
    exact w_rt (.str "") rfl (fin_rt rfl)
  refine run_wp ?_
  rw [show startE 4 [.lst ((["book", num n, num s] : List Str).map D.str), .int l, .str "book"] = [some (.lst [D.str "book", .str (num n), .str (num s)]), some (.int l), some (.str "book"), none] from rfl]
  unfold b_read_head
  refine w_then (w_asg (.str "") (by simp -implicitDefEqProofs only [get_succ, get_zero, wipeE_cons, wipeE_nil, setE_cons, setE_nil, List.set_cons_succ, List.set_cons_zero, acons_ok, cbf_ok, o1_ok, o2_ok, o3_ok, toI_ok, calm_ok, ok_bind, tst_ok, tnot_ok, ifv_ok, tand_ok, tor_ok, vand_ok, vor_ok, vnot_ok, dsp_ok, call1, call2, call3, call4, call5, callF2, callF3, addD_int, subD_int, negD_int, leD_int, ltD_int, gtD_int, geX_int, eqD_int, neD_int, intD_int, lenD_lst, lenD_tup, lenD_scr, tupleD_lst, tupleD_tup, listD_lst, listL_lst, listL_tup, lstD_nil, tupD_nil, tupD_1, tupD_2, lstD_1, lenOk_nil, inD_tup, inD_lst, notInD_tup, notInD_lst, agV_, agN_, agC_, tupAs_, its_ok, itemsD_lst, itemsD_tup, hf]) (nxt_nx ?_))
  simp -implicitDefEqProofs only [List.set_cons_succ, List.set_cons_zero]
  refine w_then (w_f (by simp -implicitDefEqProofs only [get_succ, get_zero, wipeE_cons, wipeE_nil, setE_cons, setE_nil, List.set_cons_succ, List.set_cons_zero, acons_ok, cbf_ok, o1_ok, o2_ok, o3_ok, toI_ok, calm_ok, ok_bind, tst_ok, tnot_ok, ifv_ok, tand_ok, tor_ok, vand_ok, vor_ok, vnot_ok, dsp_ok, call1, call2, call3, call4, call5, callF2, callF3, addD_int, subD_int, negD_int, leD_int, ltD_int, gtD_int, geX_int, eqD_int, neD_int, intD_int, lenD_lst, lenD_tup, lenD_scr, tupleD_lst, tupleD_tup, listD_lst, listL_lst, listL_tup, lstD_nil, tupD_nil, tupD_1, tupD_2, lstD_1, lenOk_nil, inD_tup, inD_lst, notInD_tup, notInD_lst, agV_, agN_, agC_, tupAs_, its_ok, itemsD_lst, itemsD_tup, ne_e0]) (w_nx (nxt_nx ?_)))
  refine w_rt (.tup [.int n, .int s]) ?_ (fin_rt rfl)
  simp -implicitDefEqProofs only [get_succ, get_zero, wipeE_cons, wipeE_nil, setE_cons, setE_nil, List.set_cons_succ, List.set_cons_zero, acons_ok, cbf_ok, o1_ok, o2_ok, o3_ok, toI_ok, calm_ok, ok_bind, tst_ok, tnot_ok, ifv_ok, tand_ok, tor_ok, vand_ok, vor_ok, vnot_ok, dsp_ok, call1, call2, call3, call4, call5, callF2, callF3, addD_int, subD_int, negD_int, leD_int, ltD_int, gtD_int, geX_int, eqD_int, neD_int, intD_int, lenD_lst, lenD_tup, lenD_scr, tupleD_lst, tupleD_tup, listD_lst, listL_lst, listL_tup, lstD_nil, tupD_nil, tupD_1, tupD_2, lstD_1, lenOk_nil, inD_tup, inD_lst, notInD_tup, notInD_lst, agV_, agN_, agC_, tupAs_, its_ok, itemsD_lst, itemsD_tup, hx1, hx2, ia, ib]
theorem head_bad (ws : List Str) (h : ws.length ≠ 3) (l : Int) : m_read_head [.lst (ws.map D.str), .int l, .str "book"] = .err "BadText" [.obj "BadText" ["fault", "line"] [.str "head", .int l]] := by
  have hf : m_head_fault [.lst (ws.map D.str), .str "book"] = .ok (.str "head") := by
    refine run_wp ?_
    rw [show startE 2 [.lst (ws.map D.str), .str "book"] = [some (.lst (ws.map D.str)), some (.str "book")] from rfl]
    unfold b_head_fault
    refine w_then (w_t ?_ (w_rt (.str "head") rfl (nxt_rt (fin_rt rfl))))
    simp -implicitDefEqProofs only [get_succ, get_zero, wipeE_cons, wipeE_nil, setE_cons, setE_nil, List.set_cons_succ, List.set_cons_zero, acons_ok, cbf_ok, o1_ok, o2_ok, o3_ok, toI_ok, calm_ok, ok_bind, tst_ok, tnot_ok, ifv_ok, tand_ok, tor_ok, vand_ok, vor_ok, vnot_ok, dsp_ok, call1, call2, call3, call4, call5, callF2, callF3, addD_int, subD_int, negD_int, leD_int, ltD_int, gtD_int, geX_int, eqD_int, neD_int, intD_int, lenD_lst, lenD_tup, lenD_scr, tupleD_lst, tupleD_tup, listD_lst, listL_lst, listL_tup, lstD_nil, tupD_nil, tupD_1, tupD_2, lstD_1, lenOk_nil, inD_tup, inD_lst, notInD_tup, notInD_lst, agV_, agN_, agC_, tupAs_, its_ok, itemsD_lst, itemsD_tup, lenL, List.length_map]
    have : ¬ ((ws.length : Int) = 3) := by omega
    rw [decide_eq_false this]
    rfl
  refine run_wp ?_
  rw [show startE 4 [.lst (ws.map D.str), .int l, .str "book"] = [some (.lst (ws.map D.str)), some (.int l), some (.str "book"), none] from rfl]
  unfold b_read_head
  refine w_then (w_asg (.str "head") (by simp -implicitDefEqProofs only [get_succ, get_zero, wipeE_cons, wipeE_nil, setE_cons, setE_nil, List.set_cons_succ, List.set_cons_zero, acons_ok, cbf_ok, o1_ok, o2_ok, o3_ok, toI_ok, calm_ok, ok_bind, tst_ok, tnot_ok, ifv_ok, tand_ok, tor_ok, vand_ok, vor_ok, vnot_ok, dsp_ok, call1, call2, call3, call4, call5, callF2, callF3, addD_int, subD_int, negD_int, leD_int, ltD_int, gtD_int, geX_int, eqD_int, neD_int, intD_int, lenD_lst, lenD_tup, lenD_scr, tupleD_lst, tupleD_tup, listD_lst, listL_lst, listL_tup, lstD_nil, tupD_nil, tupD_1, tupD_2, lstD_1, lenOk_nil, inD_tup, inD_lst, notInD_tup, notInD_lst, agV_, agN_, agC_, tupAs_, its_ok, itemsD_lst, itemsD_tup, hf]) (nxt_nx ?_))
  simp -implicitDefEqProofs only [List.set_cons_succ, List.set_cons_zero]
  exact w_then (w_t (by simp -implicitDefEqProofs only [get_succ, get_zero, wipeE_cons, wipeE_nil, setE_cons, setE_nil, List.set_cons_succ, List.set_cons_zero, acons_ok, cbf_ok, o1_ok, o2_ok, o3_ok, toI_ok, calm_ok, ok_bind, tst_ok, tnot_ok, ifv_ok, tand_ok, tor_ok, vand_ok, vor_ok, vnot_ok, dsp_ok, call1, call2, call3, call4, call5, callF2, callF3, addD_int, subD_int, negD_int, leD_int, ltD_int, gtD_int, geX_int, eqD_int, neD_int, intD_int, lenD_lst, lenD_tup, lenD_scr, tupleD_lst, tupleD_tup, listD_lst, listL_lst, listL_tup, lstD_nil, tupD_nil, tupD_1, tupD_2, lstD_1, lenOk_nil, inD_tup, inD_lst, notInD_tup, notInD_lst, agV_, agN_, agC_, tupAs_, its_ok, itemsD_lst, itemsD_tup, ne_head]) (w_raise [.int l, .str "head"] rfl ⟨rfl, by decide⟩ (nxt_err (fin_err rfl))))
theorem bhead_ok {n s : Int} (hn : Word n) (hs : Word s) (hb : 1 ≤ n ∧ n ≤ 12) (hb2 : 1 ≤ s ∧ s ≤ n) (l : Int) : m_read_book_head [.lst ((["book", num n, num s] : List Str).map D.str), .int l] = .ok (.tup [.int n, .int s]) := by
  have hr := head_ok hn hs hb l
  generalize D.lst ((["book", num n, num s] : List Str).map D.str) = V at hr ⊢
  refine run_wp ?_
  rw [show startE 4 [V, .int l] = [some V, some (.int l), none, none] from rfl]
  unfold b_read_book_head
  refine w_then (w_asgG (d := .tup [.int n, .int s]) (as := [(2, .int n), (3, .int s)]) (by simp -implicitDefEqProofs only [get_succ, get_zero, wipeE_cons, wipeE_nil, setE_cons, setE_nil, List.set_cons_succ, List.set_cons_zero, acons_ok, cbf_ok, o1_ok, o2_ok, o3_ok, toI_ok, calm_ok, ok_bind, tst_ok, tnot_ok, ifv_ok, tand_ok, tor_ok, vand_ok, vor_ok, vnot_ok, dsp_ok, call1, call2, call3, call4, call5, callF2, callF3, addD_int, subD_int, negD_int, leD_int, ltD_int, gtD_int, geX_int, eqD_int, neD_int, intD_int, lenD_lst, lenD_tup, lenD_scr, tupleD_lst, tupleD_tup, listD_lst, listL_lst, listL_tup, lstD_nil, tupD_nil, tupD_1, tupD_2, lstD_1, lenOk_nil, inD_tup, inD_lst, notInD_tup, notInD_lst, agV_, agN_, agC_, tupAs_, its_ok, itemsD_lst, itemsD_tup, hr]) rfl (nxt_nx ?_))
  simp -implicitDefEqProofs only [setE_cons, setE_nil, List.set_cons_succ, List.set_cons_zero]
  refine w_then (w_f ?_ (w_nx (nxt_nx (w_rt _ rfl (fin_rt rfl)))))
  simp -implicitDefEqProofs only [get_succ, get_zero, wipeE_cons, wipeE_nil, setE_cons, setE_nil, List.set_cons_succ, List.set_cons_zero, acons_ok, cbf_ok, o1_ok, o2_ok, o3_ok, toI_ok, calm_ok, ok_bind, tst_ok, tnot_ok, ifv_ok, tand_ok, tor_ok, vand_ok, vor_ok, vnot_ok, dsp_ok, call1, call2, call3, call4, call5, callF2, callF3, addD_int, subD_int, negD_int, leD_int, ltD_int, gtD_int, geX_int, eqD_int, neD_int, intD_int, lenD_lst, lenD_tup, lenD_scr, tupleD_lst, tupleD_tup, listD_lst, listL_lst, listL_tup, lstD_nil, tupD_nil, tupD_1, tupD_2, lstD_1, lenOk_nil, inD_tup, inD_lst, notInD_tup, notInD_lst, agV_, agN_, agC_, tupAs_, its_ok, itemsD_lst, itemsD_tup, ch2]
  simp -implicitDefEqProofs [hb2.1, hb2.2, asB, leD_int]
theorem bhead_bad (ws : List Str) (h : ws.length ≠ 3) (l : Int) : m_read_book_head [.lst (ws.map D.str), .int l] = .err "BadText" [.obj "BadText" ["fault", "line"] [.str "head", .int l]] := by
  have hr := head_bad ws h l
  generalize D.lst (ws.map D.str) = V at hr ⊢
  refine run_wp ?_
  rw [show startE 4 [V, .int l] = [some V, some (.int l), none, none] from rfl]
  unfold b_read_book_head
  exact w_then (w_asgG_err (by simp -implicitDefEqProofs only [get_succ, get_zero, wipeE_cons, wipeE_nil, setE_cons, setE_nil, List.set_cons_succ, List.set_cons_zero, acons_ok, cbf_ok, o1_ok, o2_ok, o3_ok, toI_ok, calm_ok, ok_bind, tst_ok, tnot_ok, ifv_ok, tand_ok, tor_ok, vand_ok, vor_ok, vnot_ok, dsp_ok, call1, call2, call3, call4, call5, callF2, callF3, addD_int, subD_int, negD_int, leD_int, ltD_int, gtD_int, geX_int, eqD_int, neD_int, intD_int, lenD_lst, lenD_tup, lenD_scr, tupleD_lst, tupleD_tup, listD_lst, listL_lst, listL_tup, lstD_nil, tupD_nil, tupD_1, tupD_2, lstD_1, lenOk_nil, inD_tup, inD_lst, notInD_tup, notInD_lst, agV_, agN_, agC_, tupAs_, its_ok, itemsD_lst, itemsD_tup, hr]) (nxt_err (fin_err rfl)))
end Lk06
namespace Lk06
open PySem PySem.Spec L2 DL
set_option maxHeartbeats 1000000
/-! ### a row read -/
theorem anyF {α : Type} (xs : List α) (f : α → Bool) (h : ∀ x ∈ xs, f x = false) : anyD [.lst (xs.map fun x => D.bl (f x))] = .ok (.bl false) := by
  rw [anyD_map]
  congr 2
  rw [List.any_eq_false]
  intro x hx
  rw [h x hx]
  decide
theorem asc_step {r : List Int} (h : Asc r) {k : Nat} (hk : k + 1 < r.length) : r.getD k 0 < r.getD (k + 1) 0 := by
  have := List.pairwise_iff_getElem.mp h k (k + 1) (by omega) hk (by omega)
  rw [List.getD_eq_getElem?_getD, List.getD_eq_getElem?_getD, List.getElem?_eq_getElem hk, List.getElem?_eq_getElem (by omega)]
  exact this
theorem after_ok {n s : Int} {r : List Int} {B : List (List Int)} (hl : (r.length : Int) = s) (h12 : r.length ≤ 12) (h1 : 1 ≤ r.length) (hA : Asc r) (hp : ∀ p ∈ r, 0 ≤ p ∧ p < n) (hB : ∀ b, B.getLast? = some b → lexL b r = true) : m_room_fault_after [rowD r, .int n, .int s, .lst (B.map rowD)] = .ok (.str "") := by
  have hlen : orC (lenO opT_len) lenD [rowD r] = .ok (.int (r.length : Int)) := rwD.ln r
  refine run_wp ?_
  rw [show startE 6 [rowD r, .int n, .int s, .lst (B.map rowD)] = [some (rowD r), some (.int n), some (.int s), some (.lst (B.map rowD)), none, none] from rfl]
  unfold b_room_fault_after
  refine w_then (w_f ?_ (w_nx (nxt_nx ?_)))
  · simp -implicitDefEqProofs only [get_succ, get_zero, wipeE_cons, wipeE_nil, setE_cons, setE_nil, List.set_cons_succ, List.set_cons_zero, acons_ok, cbf_ok, o1_ok, o2_ok, o3_ok, toI_ok, calm_ok, ok_bind, tst_ok, tnot_ok, ifv_ok, tand_ok, tor_ok, vand_ok, vor_ok, vnot_ok, dsp_ok, call1, call2, call3, call4, call5, callF2, callF3, addD_int, subD_int, negD_int, leD_int, ltD_int, gtD_int, geX_int, eqD_int, neD_int, intD_int, lenD_lst, lenD_tup, lenD_scr, tupleD_lst, tupleD_tup, listD_lst, listL_lst, listL_tup, lstD_nil, tupD_nil, tupD_1, tupD_2, lstD_1, lenOk_nil, inD_tup, inD_lst, notInD_tup, notInD_lst, agV_, agN_, agC_, tupAs_, its_ok, itemsD_lst, itemsD_tup, hlen, hl]
    simp
  refine w_then (w_f ?_ (w_nx (nxt_nx ?_)))
  · rw [lcM_all (ag := agV 4) D.int (fun p => D.bl (decide (n ≤ p))) r rfl (lim_le (by omega)) fun p hq => ⟨[(4, .int p)], rfl, rfl, by simp -implicitDefEqProofs only [get_succ, get_zero, wipeE_cons, wipeE_nil, setE_cons, setE_nil, List.set_cons_succ, List.set_cons_zero, acons_ok, cbf_ok, o1_ok, o2_ok, o3_ok, toI_ok, calm_ok, ok_bind, tst_ok, tnot_ok, ifv_ok, tand_ok, tor_ok, vand_ok, vor_ok, vnot_ok, dsp_ok, call1, call2, call3, call4, call5, callF2, callF3, addD_int, subD_int, negD_int, leD_int, ltD_int, gtD_int, geX_int, eqD_int, neD_int, intD_int, lenD_lst, lenD_tup, lenD_scr, tupleD_lst, tupleD_tup, listD_lst, listL_lst, listL_tup, lstD_nil, tupD_nil, tupD_1, tupD_2, lstD_1, lenOk_nil, inD_tup, inD_lst, notInD_tup, notInD_lst, agV_, agN_, agC_, tupAs_, its_ok, itemsD_lst, itemsD_tup]⟩]
    rw [acons_ok, cbf_ok, anyF r (fun p => decide (n ≤ p)) fun p hq => decide_eq_false (by have := hp p hq; omega)]
    rfl
  refine w_then (w_f ?_ (w_nx (nxt_nx ?_)))
  · have hsub : subD (.int (r.length : Int)) (.int 1) = .ok (.int ((r.length - 1 : Nat) : Int)) := congrArg (fun z => DL.R.ok (D.int z)) (by omega)
    rw [lcM_all (ag := agV 5) (fun (k : Nat) => D.int (k : Int)) (fun (k : Nat) => D.bl (decide (r.getD (k + 1) 0 ≤ r.getD k 0))) (List.range (r.length - 1)) (by
        simp -implicitDefEqProofs only [get_succ, get_zero, wipeE_cons, wipeE_nil, setE_cons, setE_nil, List.set_cons_succ, List.set_cons_zero, acons_ok, cbf_ok, o1_ok, o2_ok, o3_ok, toI_ok, calm_ok, ok_bind, tst_ok, tnot_ok, ifv_ok, tand_ok, tor_ok, vand_ok, vor_ok, vnot_ok, dsp_ok, call1, call2, call3, call4, call5, callF2, callF3, addD_int, subD_int, negD_int, leD_int, ltD_int, gtD_int, geX_int, eqD_int, neD_int, intD_int, lenD_lst, lenD_tup, lenD_scr, tupleD_lst, tupleD_tup, listD_lst, listL_lst, listL_tup, lstD_nil, tupD_nil, tupD_1, tupD_2, lstD_1, lenOk_nil, inD_tup, inD_lst, notInD_tup, notInD_lst, agV_, agN_, agC_, tupAs_, its_ok, itemsD_lst, itemsD_tup, hlen, hsub]
        exact rg1_nat (lim_le (by omega))) (by rw [List.length_range]; exact lim_le (by omega)) fun k hk => ⟨[(5, .int (k : Int))], rfl, rfl, by
      have hk : k < r.length - 1 := List.mem_range.mp hk
      have e1 : ixA (rowD r) (.int (k : Int)) = .ok (.int (r.getD k 0)) := at_mapT D.int 0 (by omega)
      have e2 : ixA (rowD r) (.int ((k + 1 : Nat) : Int)) = .ok (.int (r.getD (k + 1) 0)) := at_mapT D.int 0 (by omega)
      have e3 : addD (.int (k : Int)) (.int 1) = .ok (.int ((k + 1 : Nat) : Int)) := rfl
      simp -implicitDefEqProofs only [wipeE_cons, wipeE_nil, setE_cons, setE_nil, List.set_cons_succ, List.set_cons_zero, get_succ, get_zero, o2_ok, e1, e2, e3, calm_ok, geX_int]⟩]
    rw [acons_ok, cbf_ok, anyF (List.range (r.length - 1)) (fun k => decide (r.getD (k + 1) 0 ≤ r.getD k 0)) fun k hk => decide_eq_false (by
      have := asc_step hA (k := k) (by have := List.mem_range.mp hk; omega)
      omega)]
    rfl
  refine w_then (w_f ?_ (w_nx (nxt_nx (w_rt (.str "") rfl (fin_rt rfl)))))
  have hlB := lenL (B.map rowD)
  rcases List.eq_nil_or_concat B with rfl | ⟨B, b, rfl⟩
  · simp -implicitDefEqProofs only [get_succ, get_zero, wipeE_cons, wipeE_nil, setE_cons, setE_nil, List.set_cons_succ, List.set_cons_zero, acons_ok, cbf_ok, o1_ok, o2_ok, o3_ok, toI_ok, calm_ok, ok_bind, tst_ok, tnot_ok, ifv_ok, tand_ok, tor_ok, vand_ok, vor_ok, vnot_ok, dsp_ok, call1, call2, call3, call4, call5, callF2, callF3, addD_int, subD_int, negD_int, leD_int, ltD_int, gtD_int, geX_int, eqD_int, neD_int, intD_int, lenD_lst, lenD_tup, lenD_scr, tupleD_lst, tupleD_tup, listD_lst, listL_lst, listL_tup, lstD_nil, tupD_nil, tupD_1, tupD_2, lstD_1, lenOk_nil, inD_tup, inD_lst, notInD_tup, notInD_lst, agV_, agN_, agC_, tupAs_, its_ok, itemsD_lst, itemsD_tup, hlB]
    rfl
  · have hb := hB b (by simp)
    have e1 : ixA (.lst ((B ++ [b]).map rowD)) (.int (-1)) = .ok (rowD b) := ix_last rowD B b
    have e2 : leX (rowD r) (rowD b) = .ok (.bl false) := by
      show (match intsOf (r.map D.int), intsOf (b.map D.int) with
        | some ns, some ms => DL.R.ok (D.bl (!HT.lexLt ms ns))
        | _, _ => .stuck) = _
      rw [intsOf_map, intsOf_map]
      simp only []
      rw [ltL_eq, hb]
      rfl
    rw [List.concat_eq_append] at hlB ⊢
    generalize (B ++ [b]).map rowD = G at hlB e1 ⊢
    simp -implicitDefEqProofs only [get_succ, get_zero, wipeE_cons, wipeE_nil, setE_cons, setE_nil, List.set_cons_succ, List.set_cons_zero, acons_ok, cbf_ok, o1_ok, o2_ok, o3_ok, toI_ok, calm_ok, ok_bind, tst_ok, tnot_ok, ifv_ok, tand_ok, tor_ok, vand_ok, vor_ok, vnot_ok, dsp_ok, call1, call2, call3, call4, call5, callF2, callF3, addD_int, subD_int, negD_int, leD_int, ltD_int, gtD_int, geX_int, eqD_int, neD_int, intD_int, lenD_lst, lenD_tup, lenD_scr, tupleD_lst, tupleD_tup, listD_lst, listL_lst, listL_tup, lstD_nil, tupD_nil, tupD_1, tupD_2, lstD_1, lenOk_nil, inD_tup, inD_lst, notInD_tup, notInD_lst, agV_, agN_, agC_, tupAs_, its_ok, itemsD_lst, itemsD_tup, hlB, e1, e2]
    simp
theorem room_ok {n s : Int} {r : List Int} {B : List (List Int)} (hl : (r.length : Int) = s) (h12 : r.length ≤ 12) (h1 : 1 ≤ r.length) (hA : Asc r) (hp : ∀ p ∈ r, 0 ≤ p ∧ p < n) (hn : n ≤ 12) (hB : ∀ b, B.getLast? = some b → lexL b r = true) (l : Int) : m_read_room [.lst ((r.map num).map D.str), .int l, .tup [.int n, .int s], .lst (B.map rowD)] = .ok (rowD r) := by
  have hw : ∀ p ∈ r, Word p := fun p hq => word_of (by have := hp p hq; omega)
  have h0 := are_nums r (by omega) hw
  have ha := after_ok hl h12 h1 hA hp hB
  have e := lcM_all (vs := [8]) (ag := agV 8) (mt := fun _ => .ok true) (mi := fun r => itsO opT_iter (get r 0)) (me := fun r => (cbf intT (acons (get r 8) (.ok [])))) (ρ := [some (.lst ((r.map num).map D.str)), some (.int l), some (.tup [.int n, .int s]), some (.lst (B.map rowD)), none, none, none, none, none]) (fun p => D.str (num p)) D.int r (by
      rw [show r.map (fun p => D.str (num p)) = (r.map num).map D.str from by rw [List.map_map]; rfl]
      rfl) (lim_le (by omega)) fun p hq => ⟨[(8, .str (num p))], rfl, rfl, by
    have := intT_ok (hw p hq)
    simp -implicitDefEqProofs only [get_succ, get_zero, wipeE_cons, wipeE_nil, setE_cons, setE_nil, List.set_cons_succ, List.set_cons_zero, acons_ok, cbf_ok, o1_ok, o2_ok, o3_ok, toI_ok, calm_ok, ok_bind, tst_ok, tnot_ok, ifv_ok, tand_ok, tor_ok, vand_ok, vor_ok, vnot_ok, dsp_ok, call1, call2, call3, call4, call5, callF2, callF3, addD_int, subD_int, negD_int, leD_int, ltD_int, gtD_int, geX_int, eqD_int, neD_int, intD_int, lenD_lst, lenD_tup, lenD_scr, tupleD_lst, tupleD_tup, listD_lst, listL_lst, listL_tup, lstD_nil, tupD_nil, tupD_1, tupD_2, lstD_1, lenOk_nil, inD_tup, inD_lst, notInD_tup, notInD_lst, agV_, agN_, agC_, tupAs_, its_ok, itemsD_lst, itemsD_tup, this]⟩
  refine run_wp ?_
  rw [show startE 9 [.lst ((r.map num).map D.str), .int l, .tup [.int n, .int s], .lst (B.map rowD)] = [some (.lst ((r.map num).map D.str)), some (.int l), some (.tup [.int n, .int s]), some (.lst (B.map rowD)), none, none, none, none, none] from rfl]
  unfold b_read_room
  refine w_then (w_f ?_ (w_nx (nxt_nx ?_)))
  · simp -implicitDefEqProofs only [get_succ, get_zero, wipeE_cons, wipeE_nil, setE_cons, setE_nil, List.set_cons_succ, List.set_cons_zero, acons_ok, cbf_ok, o1_ok, o2_ok, o3_ok, toI_ok, calm_ok, ok_bind, tst_ok, tnot_ok, ifv_ok, tand_ok, tor_ok, vand_ok, vor_ok, vnot_ok, dsp_ok, call1, call2, call3, call4, call5, callF2, callF3, addD_int, subD_int, negD_int, leD_int, ltD_int, gtD_int, geX_int, eqD_int, neD_int, intD_int, lenD_lst, lenD_tup, lenD_scr, tupleD_lst, tupleD_tup, listD_lst, listL_lst, listL_tup, lstD_nil, tupD_nil, tupD_1, tupD_2, lstD_1, lenOk_nil, inD_tup, inD_lst, notInD_tup, notInD_lst, agV_, agN_, agC_, tupAs_, its_ok, itemsD_lst, itemsD_tup, h0]
    rfl
  refine w_then (w_asg (rowD r) ?_ (nxt_nx ?_))
  · rw [e]
    rfl
  simp -implicitDefEqProofs only [List.set_cons_succ, List.set_cons_zero]
  refine w_then (w_asgG (d := .tup [.int n, .int s]) (as := [(5, .int n), (6, .int s)]) rfl rfl (nxt_nx ?_))
  simp -implicitDefEqProofs only [setE_cons, setE_nil, List.set_cons_succ, List.set_cons_zero]
  refine w_then (w_asg (.str "") (by simp -implicitDefEqProofs only [get_succ, get_zero, wipeE_cons, wipeE_nil, setE_cons, setE_nil, List.set_cons_succ, List.set_cons_zero, acons_ok, cbf_ok, o1_ok, o2_ok, o3_ok, toI_ok, calm_ok, ok_bind, tst_ok, tnot_ok, ifv_ok, tand_ok, tor_ok, vand_ok, vor_ok, vnot_ok, dsp_ok, call1, call2, call3, call4, call5, callF2, callF3, addD_int, subD_int, negD_int, leD_int, ltD_int, gtD_int, geX_int, eqD_int, neD_int, intD_int, lenD_lst, lenD_tup, lenD_scr, tupleD_lst, tupleD_tup, listD_lst, listL_lst, listL_tup, lstD_nil, tupD_nil, tupD_1, tupD_2, lstD_1, lenOk_nil, inD_tup, inD_lst, notInD_tup, notInD_lst, agV_, agN_, agC_, tupAs_, its_ok, itemsD_lst, itemsD_tup, ha]) (nxt_nx ?_))
  simp -implicitDefEqProofs only [List.set_cons_succ, List.set_cons_zero]
  exact w_then (w_f (by simp -implicitDefEqProofs only [get_succ, get_zero, wipeE_cons, wipeE_nil, setE_cons, setE_nil, List.set_cons_succ, List.set_cons_zero, acons_ok, cbf_ok, o1_ok, o2_ok, o3_ok, toI_ok, calm_ok, ok_bind, tst_ok, tnot_ok, ifv_ok, tand_ok, tor_ok, vand_ok, vor_ok, vnot_ok, dsp_ok, call1, call2, call3, call4, call5, callF2, callF3, addD_int, subD_int, negD_int, leD_int, ltD_int, gtD_int, geX_int, eqD_int, neD_int, intD_int, lenD_lst, lenD_tup, lenD_scr, tupleD_lst, tupleD_tup, listD_lst, listL_lst, listL_tup, lstD_nil, tupD_nil, tupD_1, tupD_2, lstD_1, lenOk_nil, inD_tup, inD_lst, notInD_tup, notInD_lst, agV_, agN_, agC_, tupAs_, its_ok, itemsD_lst, itemsD_tup, ne_e0]) (w_nx (nxt_nx (w_rt (rowD r) rfl (fin_rt rfl)))))
theorem room_bad {V B : D} {ws : List Str} (h0 : m_are_number_words [.lst (ws.map D.str)] = .ok (.bl false)) (l : Int) : m_read_room [.lst (ws.map D.str), .int l, V, B] = .err "BadText" [.obj "BadText" ["fault", "line"] [.str "number", .int l]] := by
  refine run_wp ?_
  rw [show startE 9 [.lst (ws.map D.str), .int l, V, B] = [some (.lst (ws.map D.str)), some (.int l), some V, some B, none, none, none, none, none] from rfl]
  unfold b_read_room
  refine w_then (w_t ?_ (w_raise [.int l, .str "number"] rfl ⟨rfl, by decide⟩ (nxt_err (fin_err rfl))))
  simp -implicitDefEqProofs only [get_succ, get_zero, wipeE_cons, wipeE_nil, setE_cons, setE_nil, List.set_cons_succ, List.set_cons_zero, acons_ok, cbf_ok, o1_ok, o2_ok, o3_ok, toI_ok, calm_ok, ok_bind, tst_ok, tnot_ok, ifv_ok, tand_ok, tor_ok, vand_ok, vor_ok, vnot_ok, dsp_ok, call1, call2, call3, call4, call5, callF2, callF3, addD_int, subD_int, negD_int, leD_int, ltD_int, gtD_int, geX_int, eqD_int, neD_int, intD_int, lenD_lst, lenD_tup, lenD_scr, tupleD_lst, tupleD_tup, listD_lst, listL_lst, listL_tup, lstD_nil, tupD_nil, tupD_1, tupD_2, lstD_1, lenOk_nil, inD_tup, inD_lst, notInD_tup, notInD_lst, agV_, agN_, agC_, tupAs_, its_ok, itemsD_lst, itemsD_tup, h0]
  rfl
end Lk06
namespace Lk06
open PySem PySem.Spec L2 DL
set_option maxHeartbeats 1000000
/-! ### a text read -/
theorem w_appV_err {M : List Nat} {i : Nat} {ρ : DL.Env} {a : DL.R D} {Q : DL.R Fl → Prop} {ds es : List D} {n : Str} (h : ρ[i]? = some (some (.lst ds))) (ha : a = .err n es) (h2 : Q (.err n es)) : WP (appSV M i ρ a) Q := by
  unfold appSV
  rw [ownD_of' h, ha, calm_ok, ok_bind]
  exact ⟨h2⟩
theorem keep_row {ρ : DL.Env} {ds : List D} (h : ρ[3]? = some (some (.lst ds))) (r : List Int) : keepOk [3] ρ (rowD r) = true := by
  have hh := has_rowD 0 r
  generalize rowD r = d at hh
  show ([3].all fun i => match ρ[i]? with
    | some (some d0) => !(d.has d0.kind) && (!(deep [3] i) || !(d.has 0))
    | _ => true) = true
  simp only [List.all_cons, List.all_nil, h]
  rw [show (D.lst ds).kind = 0 from rfl, hh]
  rfl
theorem split_line {r : List Int} (h1 : 1 ≤ r.length) (hw : ∀ p ∈ r, Word p) : Txt.split (line r) " " = r.map num := by
  unfold line
  rw [sp_eq]
  cases r with
  | nil => simp at h1
  | cons p r =>
    exact split_join 32 (by decide) (num p) (r.map num) fun q hq => by
      rw [← List.map_cons] at hq
      obtain ⟨p', hp', rfl⟩ := List.mem_map.mp hq
      exact (hw p' hp').s
theorem last_take {Q : List (List Int)} (ha : AscR Q) {i : Nat} (hi : i < Q.length) : ∀ b, (Q.take i).getLast? = some b → lexL b (Q.getD i []) = true := fun b hb => by
  have hne : Q.take i ≠ [] := fun e => by
    rw [e] at hb
    cases hb
  have hm : b ∈ Q.take i := List.mem_of_getLast? hb
  obtain ⟨j, hj, rfl⟩ := List.mem_take_iff_getElem.mp hm
  have := List.pairwise_iff_getElem.mp ha j i (by omega) hi (by omega)
  rw [List.getD_eq_getElem?_getD, List.getElem?_eq_getElem hi]
  exact this
/-- a text: its head, its rows, and one more word list when it is spoilt -/
theorem parse_go {n s : Int} {Q : List (List Int)} (h : Rows n s Q) {t hd : Str} {rest : List Str} {tail : List (List Str)} {out : DL.R D} (ht : t.length ≤ 5000) (hs : Txt.split t "\n" = hd :: rest) (hh : Txt.split hd " " = (["book", num n, num s] : List Str)) (hhl : hd.length ≤ 5000) (hrl : ∀ w ∈ rest, w.length ≤ 5000)
    (hr : rest.map (fun w => Txt.split w " ") = Q.map (fun r => r.map num) ++ tail) (htl : tail.length ≤ 1)
    (hgood : tail = [] → m_Book_init [.int n, .int s, .lst (Q.map rowD)] = out)
    (hbad : ∀ ws, tail = [ws] → m_are_number_words [.lst (ws.map D.str)] = .ok (.bl false) ∧ out = .err "BadText" [.obj "BadText" ["fault", "line"] [.str "number", .int ((Q.length + 2 : Nat) : Int)]]) : m_parse_book [.str t] = out := by
  have hl := h.l
  have hbh := bhead_ok h.wn.1 h.wn.2 h.n1 h.s1 1
  have hsp : ("\n".length == 0) = false := by decide +kernel
  have e1 : splitD t (.str "\n") = .ok (.lst ((hd :: rest).map D.str)) := by rw [splitD_ok t "\n" ⟨by decide +kernel, by omega⟩, hs]
  have e2 : splitD hd (.str " ") = .ok (.lst ((["book", num n, num s] : List Str).map D.str)) := by rw [splitD_ok hd " " ⟨by decide +kernel, by omega⟩, hh]
  have e3 : ∀ w ∈ rest, splitD w (.str " ") = .ok (.lst ((Txt.split w " ").map D.str)) := fun w hw => splitD_ok w " " ⟨by decide +kernel, by have := hrl w hw; omega⟩
  have hrlen : rest.length = Q.length + tail.length := by
    have := congrArg List.length hr
    simpa using this
  have hx0 : ixA (.lst ((hd :: rest).map D.str)) (.int 0) = .ok (.str hd) := ixD_lst D.str (hd :: rest) 0 rfl
  have hc : sliceD (.lst ((hd :: rest).map D.str)) (some 1) none = .ok (.lst (rest.map D.str)) := by
    rw [sliceD_lst]
    exact congrArg (fun x => DL.R.ok (D.lst x)) (cutD_from D.str (hd :: rest) 1)
  refine run_wp ?_
  rw [show startE 7 [.str t] = [some (.str t), none, none, none, none, none, none] from rfl]
  unfold b_parse_book
  refine w_then (w_asg (.lst ((hd :: rest).map D.str)) ?_ (nxt_nx ?_))
  · simp -implicitDefEqProofs only [wipeE_cons, wipeE_nil, List.set_cons_succ, List.set_cons_zero, get_succ, get_zero, oS_ok, e1, calm_ok]
  generalize hL : D.lst ((hd :: rest).map D.str) = L at hx0 hc ⊢
  simp -implicitDefEqProofs only [List.set_cons_succ, List.set_cons_zero]
  refine w_then (w_asg (.tup [.int n, .int s]) ?_ (nxt_nx ?_))
  · simp -implicitDefEqProofs only [wipeE_cons, wipeE_nil, List.set_cons_succ, List.set_cons_zero, get_succ, get_zero, o2_ok, hx0, calm_ok, oS_ok, e2, acons_ok, call2]
    exact hbh
  simp -implicitDefEqProofs only [List.set_cons_succ, List.set_cons_zero]
  refine w_then (w_own [] rfl (nxt_nx ?_))
  simp -implicitDefEqProofs only [List.set_cons_succ, List.set_cons_zero]
  have e4 := lcM_all (vs := [6]) (ag := agV 6) (mt := fun _ => .ok true) (mi := fun r => its (o3 sliceD (get r 1) (toI (.ok (.int 1))) (.ok none))) (me := fun r => oS splitD (get r 6) (.ok (.str " "))) (ρ := wipeE [some (.str t), some L, some (.tup [.int n, .int s]), some (.lst []), none, none, none] [3]) D.str (fun w => D.lst ((Txt.split w " ").map D.str)) rest (by
    simp -implicitDefEqProofs only [wipeE_cons, wipeE_nil, List.set_cons_succ, List.set_cons_zero, get_succ, get_zero, o3_ok, toI_ok, hc, calm_ok, its_ok, itemsD_lst]) (lim_le (by omega)) fun w hw => ⟨[(6, .str w)], rfl, rfl, by
    simp -implicitDefEqProofs only [wipeE_cons, wipeE_nil, setE_cons, setE_nil, List.set_cons_succ, List.set_cons_zero, get_succ, get_zero, oS_ok, e3 w hw, calm_ok]⟩
  have e5 : rest.map (fun w => D.lst ((Txt.split w " ").map D.str)) = (rest.map fun w => Txt.split w " ").map fun ws => D.lst (ws.map D.str) := by rw [List.map_map]; rfl
  generalize hWS : rest.map (fun w => Txt.split w " ") = WS at hr e5
  have hWl : WS.length = Q.length + tail.length := by rw [← hWS, List.length_map, hrlen]
  refine w_then (w_fors (fun (k : Nat) => D.tup [.int ((2 + k : Nat) : Int), .lst ((WS.getD k []).map D.str)]) (List.range WS.length) (fun i ρ => ∃ a b c, i ≤ Q.length ∧ ρ = [some (.str t), some L, some (.tup [.int n, .int s]), some (.lst ((Q.take i).map rowD)), a, b, c]) ?_ ⟨none, none, none, Nat.zero_le _, by simp⟩ ?_ ?_)
  · rw [e4, acons_ok, dsp_ok, e5]
    show DL.R.ok (enumD 2 (WS.map fun ws => D.lst (ws.map D.str))) = _
    rw [enumD_map (fun ws : List Str => D.lst (ws.map D.str)) WS []]
  · rintro i x ρ hx ⟨a, b, c, hiQ, rfl⟩
    obtain ⟨hi, hx⟩ := List.getElem?_eq_some_iff.mp hx
    simp only [List.getElem_range] at hx
    subst hx
    have hi : i < WS.length := by simpa using hi
    refine ⟨[(4, .int ((2 + i : Nat) : Int)), (5, .lst ((WS.getD i []).map D.str))], rfl, ?_⟩
    simp -implicitDefEqProofs only [setE_cons, setE_nil, List.set_cons_succ, List.set_cons_zero]
    by_cases hiq : i < Q.length
    · have hg : WS.getD i [] = (Q.getD i []).map num := by
        rw [hr, List.getD_eq_getElem?_getD, List.getElem?_append_left (by rw [List.length_map]; exact hiq), List.getElem?_map, List.getElem?_eq_getElem hiq, List.getD_eq_getElem?_getD, List.getElem?_eq_getElem hiq]
        rfl
      have hm : Q.getD i [] ∈ Q := getD_mem hiq
      obtain ⟨r1, r2, r3⟩ := h.r _ hm
      have hr1 := h.n1
      have hr2 := h.s1
      have hro := room_ok (n := n) (s := s) (r := Q.getD i []) (B := Q.take i) r1 (by omega) (by omega) r2 r3 hr1.2 (last_take h.a hiq) ((2 + i : Nat) : Int)
      rw [hg]
      refine w_appV (ds := (Q.take i).map rowD) (rowD (Q.getD i [])) rfl ?_ (keep_row rfl _) (lim_lt' (by simp; omega)) (lp_nx ⟨some (.int ((2 + i : Nat) : Int)), some (.lst (((Q.getD i []).map num).map D.str)), c, by omega, ?_⟩)
      · simp -implicitDefEqProofs only [get_succ, get_zero, acons_ok, call4]
        exact hro
      · rw [List.take_succ_eq_append_getElem hiq, List.map_append (f := rowD), List.getD_eq_getElem?_getD, List.getElem?_eq_getElem hiq]
        rfl
    · have hie : i = Q.length := by omega
      subst hie
      have htn : tail.length = 1 := by omega
      obtain ⟨ws, hws⟩ : ∃ ws, tail = [ws] := by
        match tail, htn with
        | [ws], _ => exact ⟨ws, rfl⟩
      obtain ⟨hb1, hb2⟩ := hbad ws hws
      have hg : WS.getD Q.length [] = ws := by
        rw [hr, hws, List.getD_eq_getElem?_getD, List.getElem?_append_right (by simp)]
        simp
      have hro := room_bad (V := .tup [.int n, .int s]) (B := .lst ((Q.take Q.length).map rowD)) hb1 ((2 + Q.length : Nat) : Int)
      rw [hg]
      refine w_appV_err (n := "BadText") (es := [.obj "BadText" ["fault", "line"] [.str "number", .int ((2 + Q.length : Nat) : Int)]]) (ds := (Q.take Q.length).map rowD) rfl ?_ (lp_err (nxt_err (fin_err ?_)))
      · simp -implicitDefEqProofs only [get_succ, get_zero, acons_ok, call4]
        exact hro
      · rw [hb2, Nat.add_comm]
  · rintro ρ ⟨a, b, c, hiQ, rfl⟩
    rw [List.length_range] at hiQ ⊢
    have ht0 : tail = [] := List.eq_nil_of_length_eq_zero (by omega)
    have hw : WS.length = Q.length := by rw [hWl, ht0]; rfl
    rw [hw, List.take_length]
    have hg := hgood ht0
    refine nxt_nx ⟨?_⟩
    have hx0 : ixA (.tup [.int n, .int s]) (.int 0) = .ok (.int n) := rfl
    have hx1 : ixA (.tup [.int n, .int s]) (.int 1) = .ok (.int s) := rfl
    simp -implicitDefEqProofs only [get_succ, get_zero, o2_ok, hx0, hx1, calm_ok, acons_ok, call3, hg]
    cases out with
    | ok d => rfl
    | err nm ds => rfl
    | stuck => rfl
end Lk06
namespace Lk06
open PySem PySem.Spec L2 DL
set_option maxHeartbeats 1000000
theorem not_any {n : Nat} {r : List Int} (h : ∀ p ∈ r, 0 ≤ p ∧ p < (n : Int)) : ¬ (r.any fun p => !(decide (0 ≤ p) && decide (p < (n : Int)))) = true := by
  intro hh
  obtain ⟨p, hp, hq⟩ := List.any_eq_true.mp hh
  obtain ⟨a, b⟩ := h p hp
  simp [a, b] at hq
theorem fault_none {n s : Nat} {W : List (List Int)} (h : RowsR n s W) {i : Nat} (hi : i < W.length) : fltP n s (W.getD i []) ((W.take i).map sortI) = "" := by
  obtain ⟨a, b, c⟩ := h.row _ (getD_mem hi)
  have e : faultP n s (W.getD i []) = "" := faultP_3 (by omega) (not_any c) b
  unfold fltP
  rw [if_neg (fun z => h.take hi z.2), e]
theorem due_prefix {n s : Nat} {W W' : List (List Int)} (h : RowsR n s W) {k : Nat} (hk : k ≤ W.length) (hg : ∀ j, j < k → W'.getD j [] = W.getD j []) : ∀ i, i ≤ k → dueN n s W' i = ((W.take i).map sortI, [])
  | 0, _ => by simp [dueN]
  | i + 1, hi => by
    have hl : i < W.length := by omega
    have ht : W.take (i + 1) = W.take i ++ [W.getD i []] := by
      rw [List.take_succ_eq_append_getElem hl, List.getD_eq_getElem?_getD, List.getElem?_eq_getElem hl]
      rfl
    rw [dueN, due_prefix h hk hg i (by omega), hg i (by omega), stp]
    simp only []
    rw [if_pos (fault_none h hl), ht, List.map_append]
    rfl
theorem faults_good {n s : Nat} {W : List (List Int)} (h : RowsR n s W) (hn : 1 ≤ n ∧ n ≤ 12) (hs : 1 ≤ s ∧ s ≤ n) : faultsP n s W = [] := by
  unfold faultsP
  rw [if_neg (fun e => e ⟨by omega, by omega⟩), if_neg (fun e => e ⟨by omega, by omega⟩), due_prefix h (Nat.le_refl _) (fun _ _ => rfl) _ (Nat.le_refl _)]
theorem book_of {rp : List Int → D} (Z : Rw rp) {n s : Int} {Q W : List (List Int)} (h : Rows n s Q) (hp : W.Perm Q) : m_Book_init [.int n, .int s, .lst (W.map rp)] = .ok (bookI n s Q) := by
  have hn := h.n1
  have hs := h.s1
  have hl := h.l
  obtain ⟨N, rfl⟩ : ∃ N : Nat, n = (N : Int) := ⟨n.toNat, by omega⟩
  obtain ⟨S, rfl⟩ : ∃ S : Nat, s = (S : Int) := ⟨s.toNat, by omega⟩
  have hrow : ∀ r ∈ W, (r.length : Int) = S ∧ Asc r ∧ ∀ p ∈ r, 0 ≤ p ∧ p < (N : Int) := fun r hr => h.r r (hp.mem_iff.mp hr)
  have eW : W.map sortI = W := by
    have : W.map sortI = W.map id := List.map_congr_left fun r hr => sortI_asc (hrow r hr).2.1
    rw [this, List.map_id]
  have hW : RowsR N S W := ⟨by rw [eW]; exact hp.nodup_iff.mpr h.a.nodup, fun r hr => ⟨by have := (hrow r hr).1; omega, (hrow r hr).2.1.nodup, (hrow r hr).2.2⟩⟩
  have hb := (book_good Z (conL rp W) (by rw [hp.length_eq]; omega) (fun r hr => by have := (hrow r hr).1; omega) (faults_good hW (by omega) (by omega))).1
  rw [hb, eW]
  have : sortR W = Q := ascR_ext (sortR_ascR (hp.nodup_iff.mpr h.a.nodup)) h.a fun x => by rw [(sortR_perm W).mem_iff, hp.mem_iff]
  rw [this]
/-! ### the texts, split -/
theorem join_snoc (sep : Str) : ∀ (ps : List Str) (p q : Str), Str.join sep (p :: ps ++ [q]) = Str.join sep (p :: ps) ++ sep ++ q
  | [], p, q => rfl
  | r :: ps, p, q => by
    have ih := join_snoc sep ps r q
    show p ++ sep ++ Str.join sep (r :: ps ++ [q]) = (p ++ sep ++ Str.join sep (r :: ps)) ++ sep ++ q
    rw [ih]
    simp only [Str.append_assoc]
theorem e_emp : ("" : Str) = Str.empty := by decide +kernel
theorem split_e (c : Nat) (hc : c < 256) : Txt.split "" ⟨#[c]⟩ = [("" : Str)] := by
  have := split_join c hc "" [] fun q hq => by
    rw [List.mem_singleton.mp hq]
    exact List.not_mem_nil
  rwa [tjoin] at this
theorem book_free (c : Nat) (h : c = 32 ∨ c = 10) : c ∉ ("book" : Str).cps.toList := by
  rcases h with rfl | rfl <;> decide +kernel
theorem sp_free : (10 : Nat) ∉ (" " : Str).cps.toList := by decide +kernel
theorem line_free {r : List Int} (hw : ∀ p ∈ r, Word p) : 10 ∉ (line r).cps.toList := by
  unfold line
  rw [tjoin]
  refine free_join 10 " " sp_free _ fun q hq => ?_
  obtain ⟨p, hp, rfl⟩ := List.mem_map.mp hq
  exact (hw p hp).n
theorem head_free {n s : Int} (hn : Word n) (hs : Word s) : 10 ∉ (head n s).cps.toList := by
  unfold head
  rw [tjoin]
  refine free_join 10 " " sp_free _ fun q hq => ?_
  simp only [List.mem_cons, List.not_mem_nil, or_false] at hq
  rcases hq with rfl | rfl | rfl
  · exact book_free 10 (.inr rfl)
  · exact hn.n
  · exact hs.n
theorem split_head {n s : Int} (hn : Word n) (hs : Word s) : Txt.split (head n s) " " = (["book", num n, num s] : List Str) := by
  unfold head
  rw [sp_eq]
  refine split_join 32 (by decide) "book" [num n, num s] fun q hq => ?_
  simp only [List.mem_cons, List.not_mem_nil, or_false] at hq
  rcases hq with rfl | rfl | rfl
  · exact book_free 32 (.inl rfl)
  · exact hn.s
  · exact hs.s
theorem lines_free {n s : Int} {Q : List (List Int)} (h : Rows n s Q) : ∀ w ∈ lines n s Q, 10 ∉ w.cps.toList := fun w hw => by
  rcases List.mem_cons.mp hw with rfl | hw
  · exact head_free h.wn.1 h.wn.2
  · obtain ⟨r, hr, rfl⟩ := List.mem_map.mp hw
    exact line_free (line_len h r hr).2.2
theorem split_text {n s : Int} {Q : List (List Int)} (h : Rows n s Q) : Txt.split (text n s Q) "\n" = head n s :: Q.map line := by
  unfold text lines
  rw [nl_eq]
  exact split_join 10 (by decide) _ _ (lines_free h)
theorem row_one {n s : Int} {Q : List (List Int)} (h : Rows n s Q) : ∀ r ∈ Q, 1 ≤ r.length := fun r hr => by
  have := (h.r r hr).1
  have := h.s1
  omega
theorem lines_words {n s : Int} {Q : List (List Int)} (h : Rows n s Q) : (Q.map line).map (fun w => Txt.split w " ") = Q.map fun r => r.map num := by
  rw [List.map_map]
  exact List.map_congr_left fun r hr => split_line (row_one h r hr) (line_len h r hr).2.2
theorem parse_ok {n s : Int} {Q : List (List Int)} (h : Rows n s Q) : m_parse_book [.str (text n s Q)] = .ok (bookI n s Q) := by
  have h2 := (text_len h).2
  have h3 := head_len h.wn.1 h.wn.2
  exact parse_go h (tail := []) (by omega) (split_text h) (split_head h.wn.1 h.wn.2) (by omega) (fun w hw => by
    have := lines_len h w (List.mem_cons_of_mem _ hw)
    omega) (by rw [lines_words h, List.append_nil]) (by simp) (fun _ => book_of rwD h (List.Perm.refl Q)) fun ws hws => by cases hws
theorem parse_nl {n s : Int} {Q : List (List Int)} (h : Rows n s Q) : m_parse_book [.str (text n s Q ++ "\n")] = .err "BadText" [.obj "BadText" ["fault", "line"] [.str "number", .int ((Q.length + 2 : Nat) : Int)]] := by
  have h2 := (text_len h).2
  have h3 := head_len h.wn.1 h.wn.2
  have hn1 : ("\n" : Str).length = 1 := by decide +kernel
  have hsp : Txt.split (text n s Q ++ "\n") "\n" = head n s :: (Q.map line ++ [("" : Str)]) := by
    have e : text n s Q ++ "\n" = Txt.join "\n" (head n s :: (Q.map line ++ [("" : Str)])) := by
      rw [tjoin, show head n s :: (Q.map line ++ [("" : Str)]) = head n s :: Q.map line ++ [("" : Str)] from rfl, join_snoc, e_emp, Str.append_empty]
      unfold text lines
      rw [tjoin]
    rw [e, nl_eq]
    refine split_join 10 (by decide) _ _ fun q hq => ?_
    rcases List.mem_append.mp (show q ∈ (head n s :: Q.map line) ++ [("" : Str)] from hq) with hq | hq
    · exact lines_free h q hq
    · rw [List.mem_singleton.mp hq]
      exact List.not_mem_nil
  refine parse_go h (tail := [[("" : Str)]]) (by rw [Str.length_append]; omega) hsp (split_head h.wn.1 h.wn.2) (by omega) (fun w hw => ?_) ?_ (by simp) (fun e => by cases e) fun ws hws => ?_
  · rcases List.mem_append.mp hw with hw | hw
    · have := lines_len h w (List.mem_cons_of_mem _ hw)
      omega
    · rw [List.mem_singleton.mp hw]
      decide +kernel
  · rw [List.map_append, lines_words h]
    show _ ++ [Txt.split "" " "] = _
    rw [sp_eq, split_e 32 (by decide)]
  · cases hws
    exact ⟨are_bad [] (by simp) (by simp), rfl⟩
theorem parse_head {t hd : Str} {rest : List Str} (ht : t.length ≤ 5000) (hs : Txt.split t "\n" = hd :: rest) (hh : (Txt.split hd " ").length ≠ 3) (hhl : hd.length ≤ 5000) : m_parse_book [.str t] = .err "BadText" [.obj "BadText" ["fault", "line"] [.str "head", .int 1]] := by
  have hbh := bhead_bad _ hh 1
  have e1 : splitD t (.str "\n") = .ok (.lst ((hd :: rest).map D.str)) := by rw [splitD_ok t "\n" ⟨by decide +kernel, by omega⟩, hs]
  have e2 : splitD hd (.str " ") = .ok (.lst ((Txt.split hd " ").map D.str)) := splitD_ok hd " " ⟨by decide +kernel, by omega⟩
  have hx0 : ixA (.lst ((hd :: rest).map D.str)) (.int 0) = .ok (.str hd) := ixD_lst D.str (hd :: rest) 0 rfl
  refine run_wp ?_
  rw [show startE 7 [.str t] = [some (.str t), none, none, none, none, none, none] from rfl]
  unfold b_parse_book
  refine w_then (w_asg (.lst ((hd :: rest).map D.str)) ?_ (nxt_nx ?_))
  · simp -implicitDefEqProofs only [wipeE_cons, wipeE_nil, List.set_cons_succ, List.set_cons_zero, get_succ, get_zero, oS_ok, e1, calm_ok]
  generalize D.lst ((hd :: rest).map D.str) = L at hx0 ⊢
  simp -implicitDefEqProofs only [List.set_cons_succ, List.set_cons_zero]
  refine w_then (w_asg_err ?_ (nxt_err (fin_err rfl)))
  simp -implicitDefEqProofs only [wipeE_cons, wipeE_nil, List.set_cons_succ, List.set_cons_zero, get_succ, get_zero, o2_ok, hx0, calm_ok, oS_ok, e2, acons_ok, call2]
  exact hbh
theorem parse_empty : m_parse_book [.str ""] = .err "BadText" [.obj "BadText" ["fault", "line"] [.str "head", .int 1]] := by
  refine parse_head (hd := "") (rest := []) (by decide +kernel) ?_ ?_ (by decide +kernel)
  · rw [nl_eq, split_e 10 (by decide)]
  · rw [sp_eq, split_e 32 (by decide)]
    decide
theorem parse_sp0 {n s : Int} (h : Rows n s []) : m_parse_book [.str (text n s [] ++ " ")] = .err "BadText" [.obj "BadText" ["fault", "line"] [.str "head", .int 1]] := by
  have h3 := head_len h.wn.1 h.wn.2
  have hn1 : (" " : Str).length = 1 := by decide +kernel
  have e : text n s [] = head n s := by
    unfold text lines
    rw [tjoin]
    rfl
  have e2 : head n s ++ " " = Txt.join " " (["book", num n, num s, ""] : List Str) := by
    rw [tjoin, show (["book", num n, num s, ""] : List Str) = ("book" : Str) :: [num n, num s] ++ [("" : Str)] from rfl, join_snoc, e_emp, Str.append_empty]
    unfold head
    rw [tjoin]
  rw [e]
  refine parse_head (hd := head n s ++ " ") (rest := []) (by rw [Str.length_append]; omega) ?_ ?_ (by rw [Str.length_append]; omega)
  · have := split_join 10 (by decide) (head n s ++ " ") [] fun q hq => by
      rw [List.mem_singleton.mp hq, Str.cps_append, Array.toList_append]
      simp only [List.mem_append, not_or]
      exact ⟨head_free h.wn.1 h.wn.2, sp_free⟩
    rw [tjoin] at this
    rw [nl_eq]
    exact this
  · have := split_join 32 (by decide) "book" [num n, num s, ""] fun q hq => by
      simp only [List.mem_cons, List.not_mem_nil, or_false] at hq
      rcases hq with rfl | rfl | rfl | rfl
      · exact book_free 32 (.inl rfl)
      · exact h.wn.1.s
      · exact h.wn.2.s
      · exact List.not_mem_nil
    rw [← sp_eq] at this
    rw [e2, this]
    simp
theorem Rows.init {n s : Int} {Q : List (List Int)} {r : List Int} (h : Rows n s (Q ++ [r])) : Rows n s Q := ⟨h.n1, h.s1, by have := h.l; simp at this; omega, fun q hq => h.r q (List.mem_append_left _ hq), h.a.sublist (List.sublist_append_left _ _)⟩
theorem parse_sp1 {n s : Int} {Q : List (List Int)} {r : List Int} (h : Rows n s (Q ++ [r])) : m_parse_book [.str (text n s (Q ++ [r]) ++ " ")] = .err "BadText" [.obj "BadText" ["fault", "line"] [.str "number", .int ((Q.length + 2 : Nat) : Int)]] := by
  have hi := h.init
  have h2 := (text_len h).2
  have h3 := head_len h.wn.1 h.wn.2
  have hn1 : (" " : Str).length = 1 := by decide +kernel
  obtain ⟨g1, g2, g3⟩ := line_len h r (by simp)
  have hr1 := row_one h r (by simp)
  have e : text n s (Q ++ [r]) ++ " " = Txt.join "\n" (head n s :: (Q.map line ++ [line r ++ " "])) := by
    rw [tjoin, show head n s :: (Q.map line ++ [line r ++ " "]) = head n s :: Q.map line ++ [line r ++ " "] from rfl, join_snoc]
    unfold text lines
    rw [tjoin, List.map_append, List.map_cons, List.map_nil, show head n s :: (Q.map line ++ [line r]) = head n s :: Q.map line ++ [line r] from rfl, join_snoc]
    simp only [Str.append_assoc]
  have hsp : Txt.split (text n s (Q ++ [r]) ++ " ") "\n" = head n s :: (Q.map line ++ [line r ++ " "]) := by
    rw [e, nl_eq]
    refine split_join 10 (by decide) _ _ fun q hq => ?_
    rcases List.mem_append.mp (show q ∈ (head n s :: Q.map line) ++ [line r ++ " "] from hq) with hq | hq
    · exact lines_free hi q hq
    · rw [List.mem_singleton.mp hq, Str.cps_append, Array.toList_append]
      simp only [List.mem_append, not_or]
      exact ⟨line_free g3, sp_free⟩
  have hws : Txt.split (line r ++ " ") " " = r.map num ++ [("" : Str)] := by
    cases r with
    | nil => simp at hr1
    | cons p r =>
      have e2 : line (p :: r) ++ " " = Txt.join " " (num p :: (r.map num ++ [("" : Str)])) := by
        rw [tjoin, show num p :: (r.map num ++ [("" : Str)]) = num p :: r.map num ++ [("" : Str)] from rfl, join_snoc, e_emp, Str.append_empty]
        unfold line
        rw [tjoin]
        rfl
      rw [e2]
      have := split_join 32 (by decide) (num p) (r.map num ++ [("" : Str)]) fun q hq => by
        rcases List.mem_append.mp (show q ∈ (p :: r).map num ++ [("" : Str)] from hq) with hq | hq
        · obtain ⟨p', hp', rfl⟩ := List.mem_map.mp hq
          exact (g3 p' hp').s
        · rw [List.mem_singleton.mp hq]
          exact List.not_mem_nil
      rw [← sp_eq] at this
      exact this
  refine parse_go hi (tail := [r.map num ++ [("" : Str)]]) (by rw [Str.length_append]; omega) hsp (split_head h.wn.1 h.wn.2) (by omega) (fun w hw => ?_) ?_ (by simp) (fun e => by cases e) fun ws hw => ?_
  · rcases List.mem_append.mp hw with hw | hw
    · have := lines_len hi w (List.mem_cons_of_mem _ hw)
      omega
    · rw [List.mem_singleton.mp hw, Str.length_append]
      omega
  · rw [List.map_append, lines_words hi, List.map_cons, List.map_nil, hws]
  · cases hw
    exact ⟨are_bad r (by omega) g3, rfl⟩
end Lk06
namespace Lk06
open PySem PySem.Spec L2 DL
set_option maxHeartbeats 1000000
theorem xT1 : xT "BadText" "BadText" = some true := by decide +kernel
theorem xT2 : xT "BadText" "NeverAloneError" = some true := by decide +kernel
theorem xB1 : xB "BadText" "ValueError" = some true := by decide +kernel
theorem refused_ok {t f : Str} {l : Int} (h : m_parse_book [.str t] = .err "BadText" [.obj "BadText" ["fault", "line"] [.str f, .int l]]) : m__law_refused [.str t] = .ok (.tup [.int l, .str f]) := by
  refine run_wp ?_
  rw [show startE 2 [.str t] = [some (.str t), none] from rfl]
  unfold b__law_refused
  refine w_then (wp_of ((try_err (n := "BadText") (n' := "BadText") (ks := ["fault", "line"]) (es := [.str f, .int l]) ?_).trans (clM_take (d := .tup [.int l, .str f]) rfl ?_ ?_ ?_)) (nxt_rt (fin_rt rfl)))
  · exact drp_err h
  · exact xT1
  · have e1 := isxC (T := xT) (B := xB) ["fault", "line"] [.str f, .int l] xT2
    have e2 := isxY (T := xT) (B := xB) ["fault", "line"] [.str f, .int l] xB1
    have e4 : xfD ["BadBook", "Mismatch", "BadText"] "fault" (.exc "BadText" ["fault", "line"] [.str f, .int l]) = .ok (.str f) := xfD_at (by simp) rfl
    have e5 : xfD ["BadText"] "line" (.exc "BadText" ["fault", "line"] [.str f, .int l]) = .ok (.int l) := xfD_at (by simp) rfl
    simp -implicitDefEqProofs only [get_succ, get_zero, wipeE_cons, wipeE_nil, setE_cons, setE_nil, List.set_cons_succ, List.set_cons_zero, acons_ok, cbf_ok, o1_ok, o2_ok, o3_ok, toI_ok, calm_ok, ok_bind, tst_ok, tnot_ok, ifv_ok, tand_ok, tor_ok, vand_ok, vor_ok, vnot_ok, dsp_ok, call1, call2, call3, call4, call5, callF2, callF3, addD_int, subD_int, negD_int, leD_int, ltD_int, gtD_int, geX_int, eqD_int, neD_int, intD_int, lenD_lst, lenD_tup, lenD_scr, tupleD_lst, tupleD_tup, listD_lst, listL_lst, listL_tup, lstD_nil, tupD_nil, tupD_1, tupD_2, lstD_1, lenOk_nil, inD_tup, inD_lst, notInD_tup, notInD_lst, agV_, agN_, agC_, tupAs_, its_ok, itemsD_lst, itemsD_tup, e1, e2, e4, e5]
    rfl
  · rfl
theorem addS (x y : Str) (h : x.length + y.length ≤ 90000) : addD (.str x) (.str y) = .ok (.str (x ++ y)) := gd_ok (by show x.length + y.length ≤ LIM; exact lim_le (by omega))
theorem fine_if (k : Int) {f : Str} (h : f = "head" ∨ f = "number") : (D.tup [.int k, .str f]).fine 60 = true := by
  have h : (D.str f).fine 60 = true := by rcases h with rfl | rfl <;> decide +kernel
  have h : PyData.canLay0 (.str f) = true := by simpa only [D.fine] using h
  simp only [D.fine, List.all_cons, List.all_nil, h]
  rfl
theorem lenR (Q : List (List Int)) : orC (lenO opT_len) lenD [.lst (Q.map rowL)] = .ok (.int (Q.length : Int)) := by
  rw [lenL, List.length_map]
theorem ends_ok {n s : Int} {Q : List (List Int)} (h : Rows n s Q) : m__law_ends [.int n, .int s, .lst (Q.map rowL)] = .ok (.bl true) := by
  have hT := law_text_ok h
  have hl := (text_len h).2
  have a1 := addS (text n s Q) "\n" (by have : ("\n" : Str).length = 1 := by decide +kernel
                                        omega)
  have a2 := addS (text n s Q) " " (by have : (" " : Str).length = 1 := by decide +kernel
                                       omega)
  have r1 := refused_ok (parse_nl h)
  have r3 := refused_ok parse_empty
  have n1 : neD (.tup [.int ((Q.length + 2 : Nat) : Int), .str "number"]) (.tup [.int ((Q.length + 2 : Nat) : Int), .str "number"]) = .ok (.bl false) := neD_refl (fine_if _ (.inr rfl))
  have e3 : eqD (.tup [.int 1, .str "head"]) (.tup [.int 1, .str "head"]) = .ok (.bl true) := eqD_refl (fine_if _ (.inl rfl))
  have p1 : addD (.int (Q.length : Int)) (.int 2) = .ok (.int ((Q.length + 2 : Nat) : Int)) := rfl
  have p2 : addD (.int (Q.length : Int)) (.int 1) = .ok (.int ((Q.length + 1 : Nat) : Int)) := rfl
  have hq := lenR Q
  have key : ∃ (f : Str) (k : Int), (f = "head" ∨ f = "number") ∧ m__law_refused [.str (text n s Q ++ " ")] = .ok (.tup [.int k, .str f]) ∧ (Q.length = 0 → k = 1 ∧ f = "head") ∧ (Q.length ≠ 0 → k = ((Q.length + 1 : Nat) : Int) ∧ f = "number") := by
    rcases List.eq_nil_or_concat Q with rfl | ⟨P, r, rfl⟩
    · exact ⟨"head", 1, .inl rfl, refused_ok (parse_sp0 h), fun _ => ⟨rfl, rfl⟩, fun e => absurd rfl e⟩
    · rw [List.concat_eq_append] at h ⊢
      exact ⟨"number", _, .inr rfl, refused_ok (parse_sp1 h), fun e => by simp at e, fun _ => ⟨by simp; omega, rfl⟩⟩
  obtain ⟨f, k, hf, r2, k0, k1⟩ := key
  have e2 : orL (eqO opT_eq) eqD (.tup [.int k, .str f]) (.tup [.int k, .str f]) = .ok (.bl true) := eqD_refl (fine_if k hf)
  refine run_wp ?_
  rw [show startE 5 [.int n, .int s, .lst (Q.map rowL)] = [some (.int n), some (.int s), some (.lst (Q.map rowL)), none, none] from rfl]
  unfold b__law_ends
  refine w_then (w_asg (.str (text n s Q)) (by simp -implicitDefEqProofs only [get_succ, get_zero, wipeE_cons, wipeE_nil, setE_cons, setE_nil, List.set_cons_succ, List.set_cons_zero, acons_ok, cbf_ok, o1_ok, o2_ok, o3_ok, toI_ok, calm_ok, ok_bind, tst_ok, tnot_ok, ifv_ok, tand_ok, tor_ok, vand_ok, vor_ok, vnot_ok, dsp_ok, call1, call2, call3, call4, call5, callF2, callF3, addD_int, subD_int, negD_int, leD_int, ltD_int, gtD_int, geX_int, eqD_int, neD_int, intD_int, lenD_lst, lenD_tup, lenD_scr, tupleD_lst, tupleD_tup, listD_lst, listL_lst, listL_tup, lstD_nil, tupD_nil, tupD_1, tupD_2, lstD_1, lenOk_nil, inD_tup, inD_lst, notInD_tup, notInD_lst, agV_, agN_, agC_, tupAs_, its_ok, itemsD_lst, itemsD_tup, hT]) (nxt_nx ?_))
  generalize text n s Q = T at *
  simp -implicitDefEqProofs only [List.set_cons_succ, List.set_cons_zero]
  refine w_then (w_f ?_ (w_nx (nxt_nx ?_)))
  · simp -implicitDefEqProofs only [get_succ, get_zero, o2_ok, a1, calm_ok, acons_ok, call1, r1, cbf_ok, hq, p1, dsp_ok, tupD_2, n1, tst_ok]
  refine w_then (w_asg (.tup [.int ((Q.length + 1 : Nat) : Int), .str "number"]) ?_ (nxt_nx ?_))
  · simp -implicitDefEqProofs only [get_succ, get_zero, o2_ok, calm_ok, acons_ok, cbf_ok, hq, p2, dsp_ok, tupD_2]
  simp -implicitDefEqProofs only [List.set_cons_succ, List.set_cons_zero]
  refine w_then (w_cut (fun ρ => ρ = [some (.int n), some (.int s), some (.lst (Q.map rowL)), some (.str T), some (.tup [.int k, .str f])]) ?_ ?_)
  · refine w_if (decide (Q.length = 0)) ?_ (fun hc => ?_) fun hc => ?_
    · simp -implicitDefEqProofs only [get_succ, get_zero, o2_ok, calm_ok, acons_ok, cbf_ok, hq, eqD_int, tst_ok]
      congr 1
      by_cases z : Q.length = 0
      · simp [z]
      · simp [z]
    · obtain ⟨rfl, rfl⟩ := k0 (of_decide_eq_true hc)
      exact w_asg (.tup [.int 1, .str "head"]) rfl (nx_ok rfl)
    · obtain ⟨rfl, rfl⟩ := k1 (of_decide_eq_false hc)
      exact w_nx (nx_ok rfl)
  · rintro ρ rfl
    refine nxt_nx (w_rt (.bl true) ?_ (fin_rt rfl))
    simp -implicitDefEqProofs only [get_succ, get_zero, o2_ok, a2, calm_ok, acons_ok, call1, r2, r3, dsp_ok, tupD_2, e2, e3]
    rfl
/-! ### the text is a text -/
theorem ok_join (sep : Str) (hs : PyData.strOk sep = true) : ∀ ps : List Str, (∀ p ∈ ps, PyData.strOk p = true) → PyData.strOk (Str.join sep ps) = true
  | [], _ => by
    show PyData.strOk Str.empty = true
    decide +kernel
  | [p], h => h p List.mem_cons_self
  | p :: q :: ps, h => by
    have ih := ok_join sep hs (q :: ps) fun r hr => h r (List.mem_cons_of_mem _ hr)
    have hp := h p List.mem_cons_self
    show PyData.strOk ((p ++ sep) ++ Str.join sep (q :: ps)) = true
    unfold PyData.strOk at *
    rw [Str.cps_append, Str.cps_append, Array.all_append, Array.all_append, hp, hs, ih]
    rfl
set_option maxHeartbeats 0 in
theorem numO_ok : ((List.range 13).all fun k => PyData.strOk (num (k : Int))) = true := by decide +kernel
theorem num_sok {p : Int} (h : 0 ≤ p ∧ p ≤ 12) : PyData.strOk (num p) = true := by
  obtain ⟨k, rfl⟩ : ∃ k : Nat, p = (k : Int) := ⟨p.toNat, by omega⟩
  exact List.all_eq_true.mp numO_ok k (List.mem_range.mpr (by omega))
theorem fine_text {n s : Int} {Q : List (List Int)} (h : Rows n s Q) : (D.str (text n s Q)).fine 60 = true := by
  have hn := h.n1
  have hs := h.s1
  have key : PyData.strOk (text n s Q) = true := by
    unfold text
    rw [tjoin]
    refine ok_join _ (by decide +kernel) _ fun w hw => ?_
    rcases List.mem_cons.mp hw with rfl | hw
    · unfold head
      rw [tjoin]
      refine ok_join _ (by decide +kernel) _ fun q hq => ?_
      simp only [List.mem_cons, List.not_mem_nil, or_false] at hq
      rcases hq with rfl | rfl | rfl
      · decide +kernel
      · exact num_sok (by omega)
      · exact num_sok (by omega)
    · obtain ⟨r, hr, rfl⟩ := List.mem_map.mp hw
      unfold line
      rw [tjoin]
      refine ok_join _ (by decide +kernel) _ fun q hq => ?_
      obtain ⟨p, hp, rfl⟩ := List.mem_map.mp hq
      have := (h.r r hr).2.2 p hp
      exact num_sok (by omega)
  simp only [D.fine]
  unfold PyData.canLay0
  exact key
/-! ### there and back -/
theorem whole_ok (k : Int) : m__law_whole [.int k, .int k] = .ok (.bl true) := by
  have i1 : isoD oT oB (fun _ _ => none) [.int k, .ty "int"] = .ok (.bl true) := rfl
  have i2 : isoD oT oB (fun _ _ => none) [.int k, .ty "bool"] = .ok (.bl false) := rfl
  have e : orL (eqO opT_eq) eqD (.int k) (.int k) = .ok (.bl true) := by
    show eqD (.int k) (.int k) = _
    rw [eqD_int, decide_eq_true rfl]
  refine run_wp ?_
  rw [show startE 2 [.int k, .int k] = [some (.int k), some (.int k)] from rfl]
  unfold b__law_whole
  refine w_rt (.bl true) ?_ (fin_rt rfl)
  simp -implicitDefEqProofs only [get_succ, get_zero, wipeE_cons, wipeE_nil, setE_cons, setE_nil, List.set_cons_succ, List.set_cons_zero, acons_ok, cbf_ok, o1_ok, o2_ok, o3_ok, toI_ok, calm_ok, ok_bind, tst_ok, tnot_ok, ifv_ok, tand_ok, tor_ok, vand_ok, vor_ok, vnot_ok, dsp_ok, call1, call2, call3, call4, call5, callF2, callF3, addD_int, subD_int, negD_int, leD_int, ltD_int, gtD_int, geX_int, eqD_int, neD_int, intD_int, lenD_lst, lenD_tup, lenD_scr, tupleD_lst, tupleD_tup, listD_lst, listL_lst, listL_tup, lstD_nil, tupD_nil, tupD_1, tupD_2, lstD_1, lenOk_nil, inD_tup, inD_lst, notInD_tup, notInD_lst, agV_, agN_, agC_, tupAs_, its_ok, itemsD_lst, itemsD_tup, i1, i2, e]
  rfl
theorem lenD' (r : List Int) : orC (lenO opT_len) lenD [rowD r] = .ok (.int (r.length : Int)) := rwD.ln r
theorem lroom_ok (r : List Int) (hl : r.length ≤ 1000) : m__law_room [rowD r, rowL r] = .ok (.bl true) := by
  have i1 : isoD oT oB (fun _ _ => none) [rowD r, .ty "tuple"] = .ok (.bl true) := rfl
  have l1 := lenD' r
  have l2 := lenR_rowL r
  refine run_wp ?_
  rw [show startE 3 [rowD r, rowL r] = [some (rowD r), some (rowL r), none] from rfl]
  unfold b__law_room
  refine w_then (w_f ?_ (w_nx (nxt_nx ?_)))
  · simp -implicitDefEqProofs only [get_succ, get_zero, wipeE_cons, wipeE_nil, setE_cons, setE_nil, List.set_cons_succ, List.set_cons_zero, acons_ok, cbf_ok, o1_ok, o2_ok, o3_ok, toI_ok, calm_ok, ok_bind, tst_ok, tnot_ok, ifv_ok, tand_ok, tor_ok, vand_ok, vor_ok, vnot_ok, dsp_ok, call1, call2, call3, call4, call5, callF2, callF3, addD_int, subD_int, negD_int, leD_int, ltD_int, gtD_int, geX_int, eqD_int, neD_int, intD_int, lenD_lst, lenD_tup, lenD_scr, tupleD_lst, tupleD_tup, listD_lst, listL_lst, listL_tup, lstD_nil, tupD_nil, tupD_1, tupD_2, lstD_1, lenOk_nil, inD_tup, inD_lst, notInD_tup, notInD_lst, agV_, agN_, agC_, tupAs_, its_ok, itemsD_lst, itemsD_tup, i1, l1, l2]
    simp
  refine w_then (w_for (ds := [.int (r.length : Int)]) (fun (k : Nat) => D.int (k : Int)) (List.range r.length) (fun i ρ => ∃ a, ρ = [some (rowD r), some (rowL r), a]) (by simp -implicitDefEqProofs only [get_succ, get_zero, wipeE_cons, wipeE_nil, setE_cons, setE_nil, List.set_cons_succ, List.set_cons_zero, acons_ok, cbf_ok, o1_ok, o2_ok, o3_ok, toI_ok, calm_ok, ok_bind, tst_ok, tnot_ok, ifv_ok, tand_ok, tor_ok, vand_ok, vor_ok, vnot_ok, dsp_ok, call1, call2, call3, call4, call5, callF2, callF3, addD_int, subD_int, negD_int, leD_int, ltD_int, gtD_int, geX_int, eqD_int, neD_int, intD_int, lenD_lst, lenD_tup, lenD_scr, tupleD_lst, tupleD_tup, listD_lst, listL_lst, listL_tup, lstD_nil, tupD_nil, tupD_1, tupD_2, lstD_1, lenOk_nil, inD_tup, inD_lst, notInD_tup, notInD_lst, agV_, agN_, agC_, tupAs_, its_ok, itemsD_lst, itemsD_tup, l2]) (rg1_nat (lim_le (by omega))) ⟨none, rfl⟩ ?_ ?_)
  · rintro i x ρ hx ⟨a, rfl⟩
    obtain ⟨hi, hx⟩ := List.getElem?_eq_some_iff.mp hx
    simp only [List.getElem_range] at hx
    subst hx
    have hi : i < r.length := by simpa using hi
    refine ⟨[(2, .int (i : Int))], rfl, ?_⟩
    have e1 : ixA (rowD r) (.int (i : Int)) = .ok (.int (r.getD i 0)) := at_mapT D.int 0 hi
    have e2 : ixA (rowL r) (.int (i : Int)) = .ok (.int (r.getD i 0)) := at_map D.int 0 hi
    refine w_f ?_ (w_nx (lp_nx ⟨_, rfl⟩))
    simp -implicitDefEqProofs only [get_succ, get_zero, wipeE_cons, wipeE_nil, setE_cons, setE_nil, List.set_cons_succ, List.set_cons_zero, acons_ok, cbf_ok, o1_ok, o2_ok, o3_ok, toI_ok, calm_ok, ok_bind, tst_ok, tnot_ok, ifv_ok, tand_ok, tor_ok, vand_ok, vor_ok, vnot_ok, dsp_ok, call1, call2, call3, call4, call5, callF2, callF3, addD_int, subD_int, negD_int, leD_int, ltD_int, gtD_int, geX_int, eqD_int, neD_int, intD_int, lenD_lst, lenD_tup, lenD_scr, tupleD_lst, tupleD_tup, listD_lst, listL_lst, listL_tup, lstD_nil, tupD_nil, tupD_1, tupD_2, lstD_1, lenOk_nil, inD_tup, inD_lst, notInD_tup, notInD_lst, agV_, agN_, agC_, tupAs_, its_ok, itemsD_lst, itemsD_tup, e1, e2, whole_ok]
    rfl
  · rintro ρ ⟨a, rfl⟩
    exact nxt_nx (w_rt (.bl true) rfl (fin_rt rfl))
theorem isoB {n s : Int} (Q : List (List Int)) : isoD oT oB (fun _ _ => none) [bookI n s Q, .cls "Book"] = .ok (.bl true) := by
  have h : oT "Book" "Book" = some true := by decide +kernel
  show (match oT "Book" "Book" with | some b => R.ok (D.bl b) | none => .stuck) = _
  rw [h]
theorem eqO_bk {n s : Int} (P : List (List Int)) : orL (eqO opT_eq) eqD (bookI n s P) (bookI n s P) = .ok (.bl true) := by
  have fS : fldD ["Book"] "size" (bookI n s P) = .ok (.int s) := rfl
  have fP : fldD ["Book"] "places" (bookI n s P) = .ok (.int n) := rfl
  have fR : fldD ["Book"] "rooms" (bookI n s P) = .ok (.tup (P.map rowD)) := rfl
  have e := eqD_rowsT P P
  rw [decide_eq_true rfl] at e
  have h : m_Book_eq [bookI n s P, bookI n s P] = .ok (.bl true) := by
    have hi := isoB (n := n) (s := s) P
    refine run_wp ?_
    rw [show startE 2 [bookI n s P, bookI n s P] = [some (bookI n s P), some (bookI n s P)] from rfl]
    unfold b_Book_eq
    refine w_rt (.bl true) ?_ (fin_rt rfl)
    simp -implicitDefEqProofs only [get_succ, get_zero, wipeE_cons, wipeE_nil, setE_cons, setE_nil, List.set_cons_succ, List.set_cons_zero, acons_ok, cbf_ok, o1_ok, o2_ok, o3_ok, toI_ok, calm_ok, ok_bind, tst_ok, tnot_ok, ifv_ok, tand_ok, tor_ok, vand_ok, vor_ok, vnot_ok, dsp_ok, call1, call2, call3, call4, call5, callF2, callF3, addD_int, subD_int, negD_int, leD_int, ltD_int, gtD_int, geX_int, eqD_int, neD_int, intD_int, lenD_lst, lenD_tup, lenD_scr, tupleD_lst, tupleD_tup, listD_lst, listL_lst, listL_tup, lstD_nil, tupD_nil, tupD_1, tupD_2, lstD_1, lenOk_nil, inD_tup, inD_lst, notInD_tup, notInD_lst, agV_, agN_, agC_, tupAs_, its_ok, itemsD_lst, itemsD_tup, hi, fS, fP, fR, e]
    simp
  have e2 : orL (eqO opT_eq) eqD (bookI n s P) (bookI n s P) = (match m_Book_eq [bookI n s P, bookI n s P] with
    | .ok d => .ok d
    | _ => .stuck) := rfl
  rw [e2, h]
theorem back_ok {n s : Int} {Q : List (List Int)} (h : Rows n s Q) : m__law_there_and_back [.int n, .int s, .lst (Q.map rowL)] = .ok (.bl true) := by
  have hl := h.l
  have hT := law_text_ok h
  have hF := format_ok h
  have hP := parse_ok h
  have hfT := fine_text h
  have hperm : (Q.drop 1 ++ Q.take 1).Perm Q := by
    have := List.perm_append_comm (l₁ := Q.drop 1) (l₂ := Q.take 1)
    rwa [List.take_append_drop] at this
  have hb1 := book_of rwL h hperm
  have hb2 := book_of rwL h (List.Perm.refl Q)
  have nT : neD (.str (text n s Q)) (.str (text n s Q)) = .ok (.bl false) := neD_refl hfT
  have eT : orL (eqO opT_eq) eqD (.str (text n s Q)) (.str (text n s Q)) = .ok (.bl true) := eqD_refl hfT
  have iT : isoD oT oB (fun _ _ => none) [.str (text n s Q), .ty "str"] = .ok (.bl true) := rfl
  have iB := isoB (n := n) (s := s) Q
  have eB := eqO_bk (n := n) (s := s) Q
  have fS : fldD ["Book"] "size" (bookI n s Q) = .ok (.int s) := rfl
  have fP : fldD ["Book"] "places" (bookI n s Q) = .ok (.int n) := rfl
  have fR : fldD ["Book"] "rooms" (bookI n s Q) = .ok (.tup (Q.map rowD)) := rfl
  have iR : isoD oT oB (fun _ _ => none) [.tup (Q.map rowD), .ty "tuple"] = .ok (.bl true) := rfl
  have lT : orC (lenO opT_len) lenD [.tup (Q.map rowD)] = .ok (.int (Q.length : Int)) := by
    show lenD [.tup (Q.map rowD)] = _
    rw [lenD_tup, List.length_map]
  have lL := lenR Q
  generalize bookI n s Q = B at *
  generalize text n s Q = T at *
  refine run_wp ?_
  rw [show startE 8 [.int n, .int s, .lst (Q.map rowL)] = [some (.int n), some (.int s), some (.lst (Q.map rowL)), none, none, none, none, none] from rfl]
  unfold b__law_there_and_back
  refine w_then (w_asg (.str T) (by simp -implicitDefEqProofs only [get_succ, get_zero, wipeE_cons, wipeE_nil, setE_cons, setE_nil, List.set_cons_succ, List.set_cons_zero, acons_ok, cbf_ok, o1_ok, o2_ok, o3_ok, toI_ok, calm_ok, ok_bind, tst_ok, tnot_ok, ifv_ok, tand_ok, tor_ok, vand_ok, vor_ok, vnot_ok, dsp_ok, call1, call2, call3, call4, call5, callF2, callF3, addD_int, subD_int, negD_int, leD_int, ltD_int, gtD_int, geX_int, eqD_int, neD_int, intD_int, lenD_lst, lenD_tup, lenD_scr, tupleD_lst, tupleD_tup, listD_lst, listL_lst, listL_tup, lstD_nil, tupD_nil, tupD_1, tupD_2, lstD_1, lenOk_nil, inD_tup, inD_lst, notInD_tup, notInD_lst, agV_, agN_, agC_, tupAs_, its_ok, itemsD_lst, itemsD_tup, hT]) (nxt_nx ?_))
  simp -implicitDefEqProofs only [List.set_cons_succ, List.set_cons_zero]
  refine w_then (w_asg (.str T) ?_ (nxt_nx ?_))
  · have c1 : sliceD (.lst (Q.map rowL)) (some 1) none = .ok (.lst ((Q.drop 1).map rowL)) := by
      rw [sliceD_lst]
      exact congrArg (fun x => DL.R.ok (D.lst x)) (cutD_from rowL Q 1)
    have c2 : sliceD (.lst (Q.map rowL)) none (some 1) = .ok (.lst ((Q.take 1).map rowL)) := by
      rw [sliceD_lst]
      exact congrArg (fun x => DL.R.ok (D.lst x)) (cutD_to rowL Q 1)
    have c3 : addD (.lst ((Q.drop 1).map rowL)) (.lst ((Q.take 1).map rowL)) = .ok (.lst ((Q.drop 1 ++ Q.take 1).map rowL)) := by
      rw [addD_lst (by rw [List.length_map, List.length_map, List.length_drop, List.length_take]; exact lim_le (by omega)), ← List.map_append]
    have e := lcM_all (vs := [7]) (ag := agV 7) (mt := fun _ => .ok true) (mi := fun r => its (o2 addD (o3 sliceD (get r 2) (toI (.ok (.int 1))) (.ok none)) (o3 sliceD (get r 2) (.ok none) (toI (.ok (.int 1)))))) (me := fun r => (cbf (orC (listO opT_iter opT_len) listD) (acons (get r 7) (.ok [])))) (ρ := [some (.int n), some (.int s), some (.lst (Q.map rowL)), some (.str T), none, none, none, none]) rowL rowL (Q.drop 1 ++ Q.take 1) (by
      simp -implicitDefEqProofs only [get_succ, get_zero, o3_ok, toI_ok, c1, c2, calm_ok, o2_ok, c3, its_ok, itemsD_lst]) (by rw [hperm.length_eq]; exact lim_le (by omega)) fun q hq => ⟨[(7, rowL q)], rfl, rfl, rfl⟩
    rw [e]
    simp -implicitDefEqProofs only [get_succ, get_zero, wipeE_cons, wipeE_nil, setE_cons, setE_nil, List.set_cons_succ, List.set_cons_zero, acons_ok, cbf_ok, o1_ok, o2_ok, o3_ok, toI_ok, calm_ok, ok_bind, tst_ok, tnot_ok, ifv_ok, tand_ok, tor_ok, vand_ok, vor_ok, vnot_ok, dsp_ok, call1, call2, call3, call4, call5, callF2, callF3, addD_int, subD_int, negD_int, leD_int, ltD_int, gtD_int, geX_int, eqD_int, neD_int, intD_int, lenD_lst, lenD_tup, lenD_scr, tupleD_lst, tupleD_tup, listD_lst, listL_lst, listL_tup, lstD_nil, tupD_nil, tupD_1, tupD_2, lstD_1, lenOk_nil, inD_tup, inD_lst, notInD_tup, notInD_lst, agV_, agN_, agC_, tupAs_, its_ok, itemsD_lst, itemsD_tup, hb1, hF]
  simp -implicitDefEqProofs only [List.set_cons_succ, List.set_cons_zero]
  refine w_then (w_f ?_ (w_nx (nxt_nx ?_)))
  · simp -implicitDefEqProofs only [get_succ, get_zero, wipeE_cons, wipeE_nil, setE_cons, setE_nil, List.set_cons_succ, List.set_cons_zero, acons_ok, cbf_ok, o1_ok, o2_ok, o3_ok, toI_ok, calm_ok, ok_bind, tst_ok, tnot_ok, ifv_ok, tand_ok, tor_ok, vand_ok, vor_ok, vnot_ok, dsp_ok, call1, call2, call3, call4, call5, callF2, callF3, addD_int, subD_int, negD_int, leD_int, ltD_int, gtD_int, geX_int, eqD_int, neD_int, intD_int, lenD_lst, lenD_tup, lenD_scr, tupleD_lst, tupleD_tup, listD_lst, listL_lst, listL_tup, lstD_nil, tupD_nil, tupD_1, tupD_2, lstD_1, lenOk_nil, inD_tup, inD_lst, notInD_tup, notInD_lst, agV_, agN_, agC_, tupAs_, its_ok, itemsD_lst, itemsD_tup, iT, nT]
    simp
  refine w_then (w_asg B (by simp -implicitDefEqProofs only [get_succ, get_zero, wipeE_cons, wipeE_nil, setE_cons, setE_nil, List.set_cons_succ, List.set_cons_zero, acons_ok, cbf_ok, o1_ok, o2_ok, o3_ok, toI_ok, calm_ok, ok_bind, tst_ok, tnot_ok, ifv_ok, tand_ok, tor_ok, vand_ok, vor_ok, vnot_ok, dsp_ok, call1, call2, call3, call4, call5, callF2, callF3, addD_int, subD_int, negD_int, leD_int, ltD_int, gtD_int, geX_int, eqD_int, neD_int, intD_int, lenD_lst, lenD_tup, lenD_scr, tupleD_lst, tupleD_tup, listD_lst, listL_lst, listL_tup, lstD_nil, tupD_nil, tupD_1, tupD_2, lstD_1, lenOk_nil, inD_tup, inD_lst, notInD_tup, notInD_lst, agV_, agN_, agC_, tupAs_, its_ok, itemsD_lst, itemsD_tup, hP]) (nxt_nx ?_))
  simp -implicitDefEqProofs only [List.set_cons_succ, List.set_cons_zero]
  refine w_then (w_f ?_ (w_nx (nxt_nx ?_)))
  · simp -implicitDefEqProofs only [get_succ, get_zero, wipeE_cons, wipeE_nil, setE_cons, setE_nil, List.set_cons_succ, List.set_cons_zero, acons_ok, cbf_ok, o1_ok, o2_ok, o3_ok, toI_ok, calm_ok, ok_bind, tst_ok, tnot_ok, ifv_ok, tand_ok, tor_ok, vand_ok, vor_ok, vnot_ok, dsp_ok, call1, call2, call3, call4, call5, callF2, callF3, addD_int, subD_int, negD_int, leD_int, ltD_int, gtD_int, geX_int, eqD_int, neD_int, intD_int, lenD_lst, lenD_tup, lenD_scr, tupleD_lst, tupleD_tup, listD_lst, listL_lst, listL_tup, lstD_nil, tupD_nil, tupD_1, tupD_2, lstD_1, lenOk_nil, inD_tup, inD_lst, notInD_tup, notInD_lst, agV_, agN_, agC_, tupAs_, its_ok, itemsD_lst, itemsD_tup, iB, fS, fP, whole_ok]
    rfl
  refine w_then (w_f ?_ (w_nx (nxt_nx ?_)))
  · simp -implicitDefEqProofs only [get_succ, get_zero, wipeE_cons, wipeE_nil, setE_cons, setE_nil, List.set_cons_succ, List.set_cons_zero, acons_ok, cbf_ok, o1_ok, o2_ok, o3_ok, toI_ok, calm_ok, ok_bind, tst_ok, tnot_ok, ifv_ok, tand_ok, tor_ok, vand_ok, vor_ok, vnot_ok, dsp_ok, call1, call2, call3, call4, call5, callF2, callF3, addD_int, subD_int, negD_int, leD_int, ltD_int, gtD_int, geX_int, eqD_int, neD_int, intD_int, lenD_lst, lenD_tup, lenD_scr, tupleD_lst, tupleD_tup, listD_lst, listL_lst, listL_tup, lstD_nil, tupD_nil, tupD_1, tupD_2, lstD_1, lenOk_nil, inD_tup, inD_lst, notInD_tup, notInD_lst, agV_, agN_, agC_, tupAs_, its_ok, itemsD_lst, itemsD_tup, fR, iR, lT, lL, hb2, eB]
    simp
  refine w_then (w_for (ds := [.int (Q.length : Int)]) (fun (k : Nat) => D.int (k : Int)) (List.range Q.length) (fun i ρ => ∃ a, ρ = [some (.int n), some (.int s), some (.lst (Q.map rowL)), some (.str T), some (.str T), some B, a, none]) (by simp -implicitDefEqProofs only [get_succ, get_zero, wipeE_cons, wipeE_nil, setE_cons, setE_nil, List.set_cons_succ, List.set_cons_zero, acons_ok, cbf_ok, o1_ok, o2_ok, o3_ok, toI_ok, calm_ok, ok_bind, tst_ok, tnot_ok, ifv_ok, tand_ok, tor_ok, vand_ok, vor_ok, vnot_ok, dsp_ok, call1, call2, call3, call4, call5, callF2, callF3, addD_int, subD_int, negD_int, leD_int, ltD_int, gtD_int, geX_int, eqD_int, neD_int, intD_int, lenD_lst, lenD_tup, lenD_scr, tupleD_lst, tupleD_tup, listD_lst, listL_lst, listL_tup, lstD_nil, tupD_nil, tupD_1, tupD_2, lstD_1, lenOk_nil, inD_tup, inD_lst, notInD_tup, notInD_lst, agV_, agN_, agC_, tupAs_, its_ok, itemsD_lst, itemsD_tup, lL]) (rg1_nat (lim_le (by omega))) ⟨none, rfl⟩ ?_ ?_)
  · rintro i x ρ hx ⟨a, rfl⟩
    obtain ⟨hi, hx⟩ := List.getElem?_eq_some_iff.mp hx
    simp only [List.getElem_range] at hx
    subst hx
    have hi : i < Q.length := by simpa using hi
    refine ⟨[(6, .int (i : Int))], rfl, ?_⟩
    have e1 : ixA (.tup (Q.map rowD)) (.int (i : Int)) = .ok (rowD (Q.getD i [])) := at_mapT rowD [] hi
    have e2 : ixA (.lst (Q.map rowL)) (.int (i : Int)) = .ok (rowL (Q.getD i [])) := at_map rowL [] hi
    have hr := lroom_ok (Q.getD i []) (by have := (line_len h _ (getD_mem hi)).2.1; omega)
    refine w_f ?_ (w_nx (lp_nx ⟨_, rfl⟩))
    simp -implicitDefEqProofs only [get_succ, get_zero, wipeE_cons, wipeE_nil, setE_cons, setE_nil, List.set_cons_succ, List.set_cons_zero, acons_ok, cbf_ok, o1_ok, o2_ok, o3_ok, toI_ok, calm_ok, ok_bind, tst_ok, tnot_ok, ifv_ok, tand_ok, tor_ok, vand_ok, vor_ok, vnot_ok, dsp_ok, call1, call2, call3, call4, call5, callF2, callF3, addD_int, subD_int, negD_int, leD_int, ltD_int, gtD_int, geX_int, eqD_int, neD_int, intD_int, lenD_lst, lenD_tup, lenD_scr, tupleD_lst, tupleD_tup, listD_lst, listL_lst, listL_tup, lstD_nil, tupD_nil, tupD_1, tupD_2, lstD_1, lenOk_nil, inD_tup, inD_lst, notInD_tup, notInD_lst, agV_, agN_, agC_, tupAs_, its_ok, itemsD_lst, itemsD_tup, fR, e1, e2, hr]
    rfl
  · rintro ρ ⟨a, rfl⟩
    refine nxt_nx (w_rt (.bl true) ?_ (fin_rt rfl))
    simp -implicitDefEqProofs only [get_succ, get_zero, wipeE_cons, wipeE_nil, setE_cons, setE_nil, List.set_cons_succ, List.set_cons_zero, acons_ok, cbf_ok, o1_ok, o2_ok, o3_ok, toI_ok, calm_ok, ok_bind, tst_ok, tnot_ok, ifv_ok, tand_ok, tor_ok, vand_ok, vor_ok, vnot_ok, dsp_ok, call1, call2, call3, call4, call5, callF2, callF3, addD_int, subD_int, negD_int, leD_int, ltD_int, gtD_int, geX_int, eqD_int, neD_int, intD_int, lenD_lst, lenD_tup, lenD_scr, tupleD_lst, tupleD_tup, listD_lst, listL_lst, listL_tup, lstD_nil, tupD_nil, tupD_1, tupD_2, lstD_1, lenOk_nil, inD_tup, inD_lst, notInD_tup, notInD_lst, agV_, agN_, agC_, tupAs_, its_ok, itemsD_lst, itemsD_tup, hF, eT]
end Lk06
namespace Lk06
open PySem PySem.Spec L2 DL
set_option maxHeartbeats 1000000
/-! ### the rooms -/
theorem six_len : ((List.range 7).all fun n => (List.range 7).all fun s => decide ((combI s (iotaI n)).length ≤ 20)) = true := by decide +kernel
theorem comb_six {n s : Nat} (hn : n ≤ 6) (hs : s ≤ 6) : (combI s (iotaI n)).length ≤ 20 := by
  have h := List.all_eq_true.mp six_len n (List.mem_range.mpr (by omega))
  have h := List.all_eq_true.mp h s (List.mem_range.mpr (by omega))
  exact of_decide_eq_true h
theorem rows_of {n s : Nat} {Q : List (List Int)} (hn : 1 ≤ n ∧ n ≤ 12) (hs : 1 ≤ s ∧ s ≤ n) (hl : Q.length ≤ 20) (ha : AscR Q) (hr : ∀ r ∈ Q, RoomR n s r) : Rows (n : Int) (s : Int) Q := ⟨by omega, by omega, hl, fun r h => ⟨by have := (hr r h).1; omega, (hr r h).2.1, (hr r h).2.2⟩, ha⟩
theorem iota_in {n : Nat} {p : Int} (h : p ∈ iotaI n) : 0 ≤ p ∧ p < (n : Int) := by
  unfold iotaI at h
  obtain ⟨k, hk, rfl⟩ := List.mem_map.mp h
  have := List.mem_range.mp hk
  omega
theorem ninG_rowsL (r : List Int) (S : List (List Int)) : ninG (rowL r) (.lst (S.map rowL)) = .ok (.bl (!decide (r ∈ S))) := by
  have hf : flatIn (rowL r) (.lst (S.map rowL)) = false := by simp [flatIn, rowL, D.flat]
  have h := inG_rowsL r S
  unfold inG at h
  rw [hf, if_neg (by decide)] at h
  unfold ninG
  rw [hf, if_neg (by decide), ninP, h]
  rfl
theorem chosen_ok {n s : Nat} (c : Int) (hn : n ≤ 12) (hs : s ≤ n) : ∃ r, RoomR n s r ∧ m__law_chosen [.int (n : Int), .int (s : Int), .int c] = .ok (rowL r) := by
  have go : ∃ d, m__law_chosen [.int (n : Int), .int (s : Int), .int c] = .ok d ∧ ∃ R L : List Int, d = rowL (sortI R) ∧ R.length = s ∧ (R ++ L).Perm (iotaI n) := by
    refine run_gets ?_
    rw [show startE 6 [.int (n : Int), .int (s : Int), .int c] = [some (.int (n : Int)), some (.int (s : Int)), some (.int c), none, none, none] from rfl]
    unfold b__law_chosen
    refine w_then (w_own ((iotaI n).map D.int) ?_ (nxt_nx (w_then (w_own [] rfl (nxt_nx ?_)))))
    · simp -implicitDefEqProofs only [get_succ, get_zero, wipeE_cons, wipeE_nil, setE_cons, setE_nil, List.set_cons_succ, List.set_cons_zero, acons_ok, cbf_ok, o1_ok, o2_ok, o3_ok, toI_ok, calm_ok, ok_bind, tst_ok, tnot_ok, ifv_ok, tand_ok, tor_ok, vand_ok, vor_ok, vnot_ok, dsp_ok, call1, call2, call3, call4, call5, callF2, callF3, addD_int, subD_int, negD_int, leD_int, ltD_int, gtD_int, geX_int, eqD_int, neD_int, intD_int, lenD_lst, lenD_tup, lenD_scr, tupleD_lst, tupleD_tup, listD_lst, listL_lst, listL_tup, lstD_nil, tupD_nil, tupD_1, tupD_2, lstD_1, lenOk_nil, inD_tup, inD_lst, notInD_tup, notInD_lst, agV_, agN_, agC_, tupAs_, its_ok, itemsD_lst, itemsD_tup]
      rw [rgL1_nat (lim_le (by omega))]
      unfold iotaI
      rw [List.map_map]
      rfl
    simp -implicitDefEqProofs only [get_succ, get_zero, wipeE_cons, wipeE_nil, setE_cons, setE_nil, List.set_cons_succ, List.set_cons_zero, acons_ok, cbf_ok, o1_ok, o2_ok, o3_ok, toI_ok, calm_ok, ok_bind, tst_ok, tnot_ok, ifv_ok, tand_ok, tor_ok, vand_ok, vor_ok, vnot_ok, dsp_ok, call1, call2, call3, call4, call5, callF2, callF3, addD_int, subD_int, negD_int, leD_int, ltD_int, gtD_int, geX_int, eqD_int, neD_int, intD_int, lenD_lst, lenD_tup, lenD_scr, tupleD_lst, tupleD_tup, listD_lst, listL_lst, listL_tup, lstD_nil, tupD_nil, tupD_1, tupD_2, lstD_1, lenOk_nil, inD_tup, inD_lst, notInD_tup, notInD_lst, agV_, agN_, agC_, tupAs_, its_ok, itemsD_lst, itemsD_tup]
    refine w_then (w_for (fun (i : Nat) => D.int (i : Int)) (List.range s) (fun i ρ => ∃ (c' : Int) (L R : List Int) (a : Option D), R.length = i ∧ L.length = n - i ∧ (R ++ L).Perm (iotaI n) ∧ ρ = [some (.int (n : Int)), some (.int (s : Int)), some (.int c'), some (.lst (L.map D.int)), some (.lst (R.map D.int)), a]) (ds := [.int (s : Int)]) (by simp -implicitDefEqProofs only [get_succ, get_zero, wipeE_cons, wipeE_nil, setE_cons, setE_nil, List.set_cons_succ, List.set_cons_zero, acons_ok, cbf_ok, o1_ok, o2_ok, o3_ok, toI_ok, calm_ok, ok_bind, tst_ok, tnot_ok, ifv_ok, tand_ok, tor_ok, vand_ok, vor_ok, vnot_ok, dsp_ok, call1, call2, call3, call4, call5, callF2, callF3, addD_int, subD_int, negD_int, leD_int, ltD_int, gtD_int, geX_int, eqD_int, neD_int, intD_int, lenD_lst, lenD_tup, lenD_scr, tupleD_lst, tupleD_tup, listD_lst, listL_lst, listL_tup, lstD_nil, tupD_nil, tupD_1, tupD_2, lstD_1, lenOk_nil, inD_tup, inD_lst, notInD_tup, notInD_lst, agV_, agN_, agC_, tupAs_, its_ok, itemsD_lst, itemsD_tup]) (rg1_nat (lim_le (by omega))) ⟨c, iotaI n, [], none, rfl, by simp [iotaI_len], List.Perm.refl _, rfl⟩ ?_ ?_)
    · rintro i x ρ hx ⟨c', L, R, a, h0, h1, h2, rfl⟩
      obtain ⟨hi, hx⟩ := List.getElem?_eq_some_iff.mp hx
      simp only [List.length_range] at hi
      simp only [List.getElem_range] at hx
      subst hx
      refine ⟨[(5, .int (i : Int))], rfl, ?_⟩
      obtain ⟨m, hm, hmod⟩ := modD_nat c' (n := n - i) (by omega)
      have hsub : (n : Int) - (i : Int) = ((n - i : Nat) : Int) := by omega
      have hL : m < L.length := by omega
      simp -implicitDefEqProofs only [get_succ, get_zero, wipeE_cons, wipeE_nil, setE_cons, setE_nil, List.set_cons_succ, List.set_cons_zero, acons_ok, cbf_ok, o1_ok, o2_ok, o3_ok, toI_ok, calm_ok, ok_bind, tst_ok, tnot_ok, ifv_ok, tand_ok, tor_ok, vand_ok, vor_ok, vnot_ok, dsp_ok, call1, call2, call3, call4, call5, callF2, callF3, addD_int, subD_int, negD_int, leD_int, ltD_int, gtD_int, geX_int, eqD_int, neD_int, intD_int, lenD_lst, lenD_tup, lenD_scr, tupleD_lst, tupleD_tup, listD_lst, listL_lst, listL_tup, lstD_nil, tupD_nil, tupD_1, tupD_2, lstD_1, lenOk_nil, inD_tup, inD_lst, notInD_tup, notInD_lst, agV_, agN_, agC_, tupAs_, its_ok, itemsD_lst, itemsD_tup]
      refine w_then (wp_of (appPopS_nat (k := m) (d := .int L[m]) rfl rfl ?_ (by rw [List.getElem?_map, List.getElem?_eq_getElem hL]; rfl) (lim_le (by rw [List.length_map]; omega)) (lim_lt' (by rw [List.length_map]; omega))) (nxt_nx (w_asg (.int (c' / ((n - i : Nat) : Int))) ?_ (lp_nx ⟨c' / ((n - i : Nat) : Int), L.eraseIdx m, R ++ [L[m]], some (.int (i : Int)), by simp; omega, ?_, ?_, ?_⟩))))
      · simp -implicitDefEqProofs only [get_succ, get_zero, wipeE_cons, wipeE_nil, setE_cons, setE_nil, List.set_cons_succ, List.set_cons_zero, acons_ok, cbf_ok, o1_ok, o2_ok, o3_ok, toI_ok, calm_ok, ok_bind, tst_ok, tnot_ok, ifv_ok, tand_ok, tor_ok, vand_ok, vor_ok, vnot_ok, dsp_ok, call1, call2, call3, call4, call5, callF2, callF3, addD_int, subD_int, negD_int, leD_int, ltD_int, gtD_int, geX_int, eqD_int, neD_int, intD_int, lenD_lst, lenD_tup, lenD_scr, tupleD_lst, tupleD_tup, listD_lst, listL_lst, listL_tup, lstD_nil, tupD_nil, tupD_1, tupD_2, lstD_1, lenOk_nil, inD_tup, inD_lst, notInD_tup, notInD_lst, agV_, agN_, agC_, tupAs_, its_ok, itemsD_lst, itemsD_tup, hsub, hmod]
      · simp -implicitDefEqProofs only [get_succ, get_zero, wipeE_cons, wipeE_nil, setE_cons, setE_nil, List.set_cons_succ, List.set_cons_zero, acons_ok, cbf_ok, o1_ok, o2_ok, o3_ok, toI_ok, calm_ok, ok_bind, tst_ok, tnot_ok, ifv_ok, tand_ok, tor_ok, vand_ok, vor_ok, vnot_ok, dsp_ok, call1, call2, call3, call4, call5, callF2, callF3, addD_int, subD_int, negD_int, leD_int, ltD_int, gtD_int, geX_int, eqD_int, neD_int, intD_int, lenD_lst, lenD_tup, lenD_scr, tupleD_lst, tupleD_tup, listD_lst, listL_lst, listL_tup, lstD_nil, tupD_nil, tupD_1, tupD_2, lstD_1, lenOk_nil, inD_tup, inD_lst, notInD_tup, notInD_lst, agV_, agN_, agC_, tupAs_, its_ok, itemsD_lst, itemsD_tup, hsub, fdivD_int (show (0 : Int) < ((n - i : Nat) : Int) ∧ ((n - i : Nat) : Int) < 1073741824 from ⟨by omega, by omega⟩)]
      · rw [List.length_eraseIdx, if_pos hL]
        omega
      · refine List.Perm.trans ?_ h2
        rw [List.append_assoc]
        refine List.Perm.append_left R ?_
        exact erase_perm L m hL
      · simp -implicitDefEqProofs only [get_succ, get_zero, wipeE_cons, wipeE_nil, setE_cons, setE_nil, List.set_cons_succ, List.set_cons_zero, acons_ok, cbf_ok, o1_ok, o2_ok, o3_ok, toI_ok, calm_ok, ok_bind, tst_ok, tnot_ok, ifv_ok, tand_ok, tor_ok, vand_ok, vor_ok, vnot_ok, dsp_ok, call1, call2, call3, call4, call5, callF2, callF3, addD_int, subD_int, negD_int, leD_int, ltD_int, gtD_int, geX_int, eqD_int, neD_int, intD_int, lenD_lst, lenD_tup, lenD_scr, tupleD_lst, tupleD_tup, listD_lst, listL_lst, listL_tup, lstD_nil, tupD_nil, tupD_1, tupD_2, lstD_1, lenOk_nil, inD_tup, inD_lst, notInD_tup, notInD_lst, agV_, agN_, agC_, tupAs_, its_ok, itemsD_lst, itemsD_tup]
        rw [List.map_append, erase_map]
        rfl
    · rintro ρ ⟨c', L, R, a, h0, h1, h2, rfl⟩
      rw [List.length_range] at h0
      have hso := sortedA_ints R
      refine nxt_nx (w_rt (rowL (sortI R)) ?_ (gets_rt ⟨R, L, rfl, h0, h2⟩))
      simp -implicitDefEqProofs only [get_succ, get_zero, wipeE_cons, wipeE_nil, setE_cons, setE_nil, List.set_cons_succ, List.set_cons_zero, acons_ok, cbf_ok, o1_ok, o2_ok, o3_ok, toI_ok, calm_ok, ok_bind, tst_ok, tnot_ok, ifv_ok, tand_ok, tor_ok, vand_ok, vor_ok, vnot_ok, dsp_ok, call1, call2, call3, call4, call5, callF2, callF3, addD_int, subD_int, negD_int, leD_int, ltD_int, gtD_int, geX_int, eqD_int, neD_int, intD_int, lenD_lst, lenD_tup, lenD_scr, tupleD_lst, tupleD_tup, listD_lst, listL_lst, listL_tup, lstD_nil, tupD_nil, tupD_1, tupD_2, lstD_1, lenOk_nil, inD_tup, inD_lst, notInD_tup, notInD_lst, agV_, agN_, agC_, tupAs_, its_ok, itemsD_lst, itemsD_tup, hso]
      rfl
  obtain ⟨_, h3, R, L, rfl, h1, h2⟩ := go
  have hnd : R.Nodup := (List.nodup_append.mp (h2.nodup_iff.mpr (iotaI_asc n).nodup)).1
  refine ⟨sortI R, ⟨by rw [(sortI_perm R).length_eq, h1], nodup_srt_asc ((sortI_perm _).nodup_iff.mpr hnd) (sortI_srt _), fun p hp => iota_in (h2.mem_iff.mp (List.mem_append_left _ ((sortI_perm R).mem_iff.mp hp)))⟩, h3⟩
theorem rooms_ok (ns : List Int) (a : Nat) (ha : a ≤ 100) {n s : Nat} (hn : 1 ≤ n ∧ n ≤ 12) (hs : 1 ≤ s ∧ s ≤ n) : ∃ Q, Rows (n : Int) (s : Int) Q ∧ m__law_rooms [.scr ns, .int (a : Int), .int (n : Int), .int (s : Int)] = .ok (.lst (Q.map rowL)) := by
  obtain ⟨c, hc0, hc⟩ := cell_ok ns a (by omega)
  have go : ∃ d, m__law_rooms [.scr ns, .int (a : Int), .int (n : Int), .int (s : Int)] = .ok d ∧ ∃ Q, d = .lst (Q.map rowL) ∧ Rows (n : Int) (s : Int) Q := by
    refine run_gets ?_
    rw [show startE 8 [.scr ns, .int (a : Int), .int (n : Int), .int (s : Int)] = [some (.scr ns), some (.int (a : Int)), some (.int (n : Int)), some (.int (s : Int)), none, none, none, none] from rfl]
    unfold b__law_rooms
    refine w_then (w_own [] rfl (nxt_nx ?_))
    simp -implicitDefEqProofs only [List.set_cons_succ, List.set_cons_zero]
    refine w_then (w_if (decide (n ≤ 6)) ?_ (fun h6 => ?_) fun h6 => ?_)
    · simp -implicitDefEqProofs only [get_succ, get_zero, wipeE_cons, wipeE_nil, setE_cons, setE_nil, List.set_cons_succ, List.set_cons_zero, acons_ok, cbf_ok, o1_ok, o2_ok, o3_ok, toI_ok, calm_ok, ok_bind, tst_ok, tnot_ok, ifv_ok, tand_ok, tor_ok, vand_ok, vor_ok, vnot_ok, dsp_ok, call1, call2, call3, call4, call5, callF2, callF3, addD_int, subD_int, negD_int, leD_int, ltD_int, gtD_int, geX_int, eqD_int, neD_int, intD_int, lenD_lst, lenD_tup, lenD_scr, tupleD_lst, tupleD_tup, listD_lst, listL_lst, listL_tup, lstD_nil, tupD_nil, tupD_1, tupD_2, lstD_1, lenOk_nil, inD_tup, inD_lst, notInD_tup, notInD_lst, agV_, agN_, agC_, tupAs_, its_ok, itemsD_lst, itemsD_tup]
      congr 1
      by_cases z : n ≤ 6
      · simp [z]
        omega
      · simp [z]
        omega
    · have h6 := of_decide_eq_true h6
      have hsub := subsets_ok (n := n) (s := s) (by omega) (by omega)
      have hroom : ∀ r ∈ combI s (iotaI n), RoomR n s r := fun r h => (mem_comb_iota n s r).mp h
      have hasc := combI_ascR s _ (iotaI_asc n)
      have hlen := comb_six h6 (show s ≤ 6 by omega)
      generalize combI s (iotaI n) = L at hsub hroom hasc hlen
      refine w_then (w_asg (.int c) ?_ (nxt_nx ?_))
      · simp -implicitDefEqProofs only [get_succ, get_zero, wipeE_cons, wipeE_nil, setE_cons, setE_nil, List.set_cons_succ, List.set_cons_zero, acons_ok, cbf_ok, o1_ok, o2_ok, o3_ok, toI_ok, calm_ok, ok_bind, tst_ok, tnot_ok, ifv_ok, tand_ok, tor_ok, vand_ok, vor_ok, vnot_ok, dsp_ok, call1, call2, call3, call4, call5, callF2, callF3, addD_int, subD_int, negD_int, leD_int, ltD_int, gtD_int, geX_int, eqD_int, neD_int, intD_int, lenD_lst, lenD_tup, lenD_scr, tupleD_lst, tupleD_tup, listD_lst, listL_lst, listL_tup, lstD_nil, tupD_nil, tupD_1, tupD_2, lstD_1, lenOk_nil, inD_tup, inD_lst, notInD_tup, notInD_lst, agV_, agN_, agC_, tupAs_, its_ok, itemsD_lst, itemsD_tup, hc]
      simp -implicitDefEqProofs only [List.set_cons_succ, List.set_cons_zero]
      refine w_then (w_fors rowL L (fun i ρ => ∃ (c' : Int) (C : List (List Int)) (b : Option D), C.Sublist (L.take i) ∧ ρ = [some (.scr ns), some (.int (a : Int)), some (.int (n : Int)), some (.int (s : Int)), some (.lst (C.map rowL)), some (.int c'), b, none]) ?_ ⟨c, [], none, by simp, rfl⟩ ?_ ?_)
      · simp -implicitDefEqProofs only [get_succ, get_zero, wipeE_cons, wipeE_nil, setE_cons, setE_nil, List.set_cons_succ, List.set_cons_zero, acons_ok, cbf_ok, o1_ok, o2_ok, o3_ok, toI_ok, calm_ok, ok_bind, tst_ok, tnot_ok, ifv_ok, tand_ok, tor_ok, vand_ok, vor_ok, vnot_ok, dsp_ok, call1, call2, call3, call4, call5, callF2, callF3, addD_int, subD_int, negD_int, leD_int, ltD_int, gtD_int, geX_int, eqD_int, neD_int, intD_int, lenD_lst, lenD_tup, lenD_scr, tupleD_lst, tupleD_tup, listD_lst, listL_lst, listL_tup, lstD_nil, tupD_nil, tupD_1, tupD_2, lstD_1, lenOk_nil, inD_tup, inD_lst, notInD_tup, notInD_lst, agV_, agN_, agC_, tupAs_, its_ok, itemsD_lst, itemsD_tup, hsub]
      · rintro i x ρ hx ⟨c', C, b, h1, rfl⟩
        obtain ⟨hi, hx⟩ := List.getElem?_eq_some_iff.mp hx
        have hCl : C.length ≤ 20 := by
          have := h1.length_le
          rw [List.length_take] at this
          omega
        have htk : L.take (i + 1) = L.take i ++ [x] := by
          rw [List.take_succ_eq_append_getElem hi, hx]
        refine ⟨[(6, rowL x)], rfl, ?_⟩
        simp -implicitDefEqProofs only [get_succ, get_zero, wipeE_cons, wipeE_nil, setE_cons, setE_nil, List.set_cons_succ, List.set_cons_zero, acons_ok, cbf_ok, o1_ok, o2_ok, o3_ok, toI_ok, calm_ok, ok_bind, tst_ok, tnot_ok, ifv_ok, tand_ok, tor_ok, vand_ok, vor_ok, vnot_ok, dsp_ok, call1, call2, call3, call4, call5, callF2, callF3, addD_int, subD_int, negD_int, leD_int, ltD_int, gtD_int, geX_int, eqD_int, neD_int, intD_int, lenD_lst, lenD_tup, lenD_scr, tupleD_lst, tupleD_tup, listD_lst, listL_lst, listL_tup, lstD_nil, tupD_nil, tupD_1, tupD_2, lstD_1, lenOk_nil, inD_tup, inD_lst, notInD_tup, notInD_lst, agV_, agN_, agC_, tupAs_, its_ok, itemsD_lst, itemsD_tup]
        refine w_then (w_if (decide (c' % 2 = 1)) ?_ (fun hc => ?_) fun hc => ?_)
        · simp -implicitDefEqProofs only [get_succ, get_zero, wipeE_cons, wipeE_nil, setE_cons, setE_nil, List.set_cons_succ, List.set_cons_zero, acons_ok, cbf_ok, o1_ok, o2_ok, o3_ok, toI_ok, calm_ok, ok_bind, tst_ok, tnot_ok, ifv_ok, tand_ok, tor_ok, vand_ok, vor_ok, vnot_ok, dsp_ok, call1, call2, call3, call4, call5, callF2, callF3, addD_int, subD_int, negD_int, leD_int, ltD_int, gtD_int, geX_int, eqD_int, neD_int, intD_int, lenD_lst, lenD_tup, lenD_scr, tupleD_lst, tupleD_tup, listD_lst, listL_lst, listL_tup, lstD_nil, tupD_nil, tupD_1, tupD_2, lstD_1, lenOk_nil, inD_tup, inD_lst, notInD_tup, notInD_lst, agV_, agN_, agC_, tupAs_, its_ok, itemsD_lst, itemsD_tup, mod2]
        · refine w_app (ds := C.map rowL) (rowL x) rfl rfl (lim_lt' (by rw [List.length_map]; omega)) (nxt_nx ?_)
          simp -implicitDefEqProofs only [List.set_cons_succ, List.set_cons_zero]
          refine w_asg (.int (c' / 2)) ?_ (lp_nx ⟨c' / 2, C ++ [x], some (rowL x), ?_, ?_⟩)
          · simp -implicitDefEqProofs only [get_succ, get_zero, wipeE_cons, wipeE_nil, setE_cons, setE_nil, List.set_cons_succ, List.set_cons_zero, acons_ok, cbf_ok, o1_ok, o2_ok, o3_ok, toI_ok, calm_ok, ok_bind, tst_ok, tnot_ok, ifv_ok, tand_ok, tor_ok, vand_ok, vor_ok, vnot_ok, dsp_ok, call1, call2, call3, call4, call5, callF2, callF3, addD_int, subD_int, negD_int, leD_int, ltD_int, gtD_int, geX_int, eqD_int, neD_int, intD_int, lenD_lst, lenD_tup, lenD_scr, tupleD_lst, tupleD_tup, listD_lst, listL_lst, listL_tup, lstD_nil, tupD_nil, tupD_1, tupD_2, lstD_1, lenOk_nil, inD_tup, inD_lst, notInD_tup, notInD_lst, agV_, agN_, agC_, tupAs_, its_ok, itemsD_lst, itemsD_tup, half]
          · rw [htk]
            exact h1.append (List.Sublist.refl _)
          · rw [List.map_append]
            rfl
        · refine w_nx (nxt_nx ?_)
          refine w_asg (.int (c' / 2)) ?_ (lp_nx ⟨c' / 2, C, some (rowL x), ?_, rfl⟩)
          · simp -implicitDefEqProofs only [get_succ, get_zero, wipeE_cons, wipeE_nil, setE_cons, setE_nil, List.set_cons_succ, List.set_cons_zero, acons_ok, cbf_ok, o1_ok, o2_ok, o3_ok, toI_ok, calm_ok, ok_bind, tst_ok, tnot_ok, ifv_ok, tand_ok, tor_ok, vand_ok, vor_ok, vnot_ok, dsp_ok, call1, call2, call3, call4, call5, callF2, callF3, addD_int, subD_int, negD_int, leD_int, ltD_int, gtD_int, geX_int, eqD_int, neD_int, intD_int, lenD_lst, lenD_tup, lenD_scr, tupleD_lst, tupleD_tup, listD_lst, listL_lst, listL_tup, lstD_nil, tupD_nil, tupD_1, tupD_2, lstD_1, lenOk_nil, inD_tup, inD_lst, notInD_tup, notInD_lst, agV_, agN_, agC_, tupAs_, its_ok, itemsD_lst, itemsD_tup, half]
          · rw [htk]
            exact h1.trans (List.sublist_append_left _ _)
      · rintro ρ ⟨c', C, b, h1, rfl⟩
        rw [List.take_length] at h1
        refine nxt_nx (w_rt (.lst (C.map rowL)) rfl (nxt_rt (gets_rt ⟨C, rfl, rows_of hn hs (by have := h1.length_le; omega) (hasc.sublist h1) fun r hr => hroom r (h1.subset hr)⟩)))
    · refine w_nx (nxt_nx ?_)
      obtain ⟨m, hm, em⟩ := modD_nat c (n := 10) (by omega)
      have em : modD (.int c) (.int 10) = .ok (.int (m : Int)) := em
      refine w_then (w_for (fun (i : Nat) => D.int (i : Int)) (List.range m) (fun i ρ => ∃ (C : List (List Int)) (b e : Option D), C.Nodup ∧ C.length ≤ i ∧ (∀ r ∈ C, RoomR n s r) ∧ ρ = [some (.scr ns), some (.int (a : Int)), some (.int (n : Int)), some (.int (s : Int)), some (.lst (C.map rowL)), none, b, e]) (ds := [.int (m : Int)]) (by simp -implicitDefEqProofs only [get_succ, get_zero, wipeE_cons, wipeE_nil, setE_cons, setE_nil, List.set_cons_succ, List.set_cons_zero, acons_ok, cbf_ok, o1_ok, o2_ok, o3_ok, toI_ok, calm_ok, ok_bind, tst_ok, tnot_ok, ifv_ok, tand_ok, tor_ok, vand_ok, vor_ok, vnot_ok, dsp_ok, call1, call2, call3, call4, call5, callF2, callF3, addD_int, subD_int, negD_int, leD_int, ltD_int, gtD_int, geX_int, eqD_int, neD_int, intD_int, lenD_lst, lenD_tup, lenD_scr, tupleD_lst, tupleD_tup, listD_lst, listL_lst, listL_tup, lstD_nil, tupD_nil, tupD_1, tupD_2, lstD_1, lenOk_nil, inD_tup, inD_lst, notInD_tup, notInD_lst, agV_, agN_, agC_, tupAs_, its_ok, itemsD_lst, itemsD_tup, hc, em]) (rg1_nat (lim_le (by omega))) ⟨[], none, none, List.nodup_nil, Nat.le_refl _, by simp, rfl⟩ ?_ ?_)
      · rintro i x ρ hx ⟨C, b, e, h0, h1, h2, rfl⟩
        obtain ⟨hi, hx⟩ := List.getElem?_eq_some_iff.mp hx
        simp only [List.length_range] at hi
        simp only [List.getElem_range] at hx
        subst hx
        obtain ⟨c2, _, hc2⟩ := cell_ok ns (a + 1 + i) (by omega)
        obtain ⟨r, hr, hch⟩ := chosen_ok c2 hn.2 hs.2
        have p1 : addD (.int (a : Int)) (.int 1) = .ok (.int ((a + 1 : Nat) : Int)) := rfl
        have p2 : addD (.int ((a + 1 : Nat) : Int)) (.int (i : Int)) = .ok (.int ((a + 1 + i : Nat) : Int)) := congrArg (fun z => DL.R.ok (D.int z)) (by omega)
        refine ⟨[(7, .int (i : Int))], rfl, ?_⟩
        simp -implicitDefEqProofs only [setE_cons, setE_nil, List.set_cons_succ, List.set_cons_zero]
        refine w_then (w_asg (rowL r) ?_ (nxt_nx ?_))
        · simp -implicitDefEqProofs only [wipeE_cons, wipeE_nil, List.set_cons_succ, List.set_cons_zero, get_succ, get_zero, o2_ok, p1, p2, calm_ok, acons_ok, call2, hc2, call3, hch]
        simp -implicitDefEqProofs only [List.set_cons_succ, List.set_cons_zero]
        have hni : orR (fun x y => notD (inO opT_in x y)) ninG (rowL r) (.lst (C.map rowL)) = .ok (.bl (!decide (r ∈ C))) := ninG_rowsL r C
        refine w_if (!decide (r ∈ C)) ?_ (fun hc => ?_) fun hc => ?_
        · simp -implicitDefEqProofs only [get_succ, get_zero, wipeE_cons, wipeE_nil, setE_cons, setE_nil, List.set_cons_succ, List.set_cons_zero, acons_ok, cbf_ok, o1_ok, o2_ok, o3_ok, toI_ok, calm_ok, ok_bind, tst_ok, tnot_ok, ifv_ok, tand_ok, tor_ok, vand_ok, vor_ok, vnot_ok, dsp_ok, call1, call2, call3, call4, call5, callF2, callF3, addD_int, subD_int, negD_int, leD_int, ltD_int, gtD_int, geX_int, eqD_int, neD_int, intD_int, lenD_lst, lenD_tup, lenD_scr, tupleD_lst, tupleD_tup, listD_lst, listL_lst, listL_tup, lstD_nil, tupD_nil, tupD_1, tupD_2, lstD_1, lenOk_nil, inD_tup, inD_lst, notInD_tup, notInD_lst, agV_, agN_, agC_, tupAs_, its_ok, itemsD_lst, itemsD_tup, hni]
        · have hnm : r ∉ C := by simpa using hc
          refine w_app (ds := C.map rowL) (rowL r) rfl rfl (lim_lt' (by rw [List.length_map]; omega)) (lp_nx ⟨C ++ [r], some (rowL r), some (.int (i : Int)), ?_, by simp; omega, fun q hq => ?_, ?_⟩)
          · rw [List.nodup_append]
            exact ⟨h0, by simp, fun x hx y hy e => hnm (by rw [← List.mem_singleton.mp hy, ← e]; exact hx)⟩
          · rcases List.mem_append.mp hq with hq | hq
            · exact h2 q hq
            · rw [List.mem_singleton.mp hq]
              exact hr
          · rw [List.map_append]
            rfl
        · exact w_nx (lp_nx ⟨C, some (rowL r), some (.int (i : Int)), h0, by omega, h2, rfl⟩)
      · rintro ρ ⟨C, b, e, h0, h1, h2, rfl⟩
        rw [List.length_range] at h1
        have hso := sortH_rows (sortR_perm C).symm (sortR_ascR h0)
        refine nxt_nx (w_rt (.lst ((sortR C).map rowL)) ?_ (gets_rt ⟨sortR C, rfl, rows_of hn hs (by rw [(sortR_perm C).length_eq]; omega) (sortR_ascR h0) fun r hr => h2 r ((sortR_perm C).mem_iff.mp hr)⟩))
        simp -implicitDefEqProofs only [get_succ, get_zero, wipeE_cons, wipeE_nil, setE_cons, setE_nil, List.set_cons_succ, List.set_cons_zero, acons_ok, cbf_ok, o1_ok, o2_ok, o3_ok, toI_ok, calm_ok, ok_bind, tst_ok, tnot_ok, ifv_ok, tand_ok, tor_ok, vand_ok, vor_ok, vnot_ok, dsp_ok, call1, call2, call3, call4, call5, callF2, callF3, addD_int, subD_int, negD_int, leD_int, ltD_int, gtD_int, geX_int, eqD_int, neD_int, intD_int, lenD_lst, lenD_tup, lenD_scr, tupleD_lst, tupleD_tup, listD_lst, listL_lst, listL_tup, lstD_nil, tupD_nil, tupD_1, tupD_2, lstD_1, lenOk_nil, inD_tup, inD_lst, notInD_tup, notInD_lst, agV_, agN_, agC_, tupAs_, its_ok, itemsD_lst, itemsD_tup, hso]
  obtain ⟨_, h1, Q, rfl, h2⟩ := go
  exact ⟨Q, h2, h1⟩
end Lk06
namespace Lk06
open PySem PySem.Spec L2 DL
set_option maxHeartbeats 400000
theorem int_eq {a b : Int} (h : a = b) : DL.R.ok (D.int a) = .ok (.int b) := congrArg (fun x => DL.R.ok (D.int x)) h
theorem Rows.none {n s : Int} {Q : List (List Int)} (h : Rows n s Q) : Rows n s [] := ⟨h.n1, h.s1, by simp, by simp, List.Pairwise.nil⟩
theorem law_go {ns : List Int} {c0 c1 c2 c3 n s n2 s2 m m2 m3 m4 : Int} {A B : D}
    (h0 : m__law_cell [.scr ns, .int 0] = .ok (.int c0)) (h1 : m__law_cell [.scr ns, .int 1] = .ok (.int c1)) (h2 : m__law_cell [.scr ns, .int 12] = .ok (.int c2)) (h3 : m__law_cell [.scr ns, .int 13] = .ok (.int c3))
    (em : modD (.int c0) (.int 12) = .ok (.int m)) (ea : addD (.int 1) (.int m) = .ok (.int n)) (em2 : modD (.int c1) (.int n) = .ok (.int m2)) (ea2 : addD (.int 1) (.int m2) = .ok (.int s))
    (em3 : modD (.int c2) (.int 12) = .ok (.int m3)) (ea3 : addD (.int 1) (.int m3) = .ok (.int n2)) (em4 : modD (.int c3) (.int n2) = .ok (.int m4)) (ea4 : addD (.int 1) (.int m4) = .ok (.int s2))
    (hq : m__law_rooms [.scr ns, .int 2, .int n, .int s] = .ok A) (hp : m__law_rooms [.scr ns, .int 14, .int n2, .int s2] = .ok B)
    (b1 : m__law_there_and_back [.int n, .int s, A] = .ok (.bl true)) (b2 : m__law_there_and_back [.int n2, .int s2, B] = .ok (.bl true)) (b3 : m__law_ends [.int n, .int s, A] = .ok (.bl true))
    (b4 : m__law_there_and_back [.int n, .int s, .lst []] = .ok (.bl true)) (b5 : m__law_ends [.int n, .int s, .lst []] = .ok (.bl true)) : m_law [.scr ns] = .ok (.bl true) := by
  refine run_wp ?_
  rw [show startE 8 [.scr ns] = [some (.scr ns), none, none, none, none, none, none, none] from rfl]
  unfold b_law
  refine w_then (w_asg (.int n) (by simp -implicitDefEqProofs only [get_succ, get_zero, wipeE_cons, wipeE_nil, setE_cons, setE_nil, List.set_cons_succ, List.set_cons_zero, acons_ok, cbf_ok, o1_ok, o2_ok, o3_ok, toI_ok, calm_ok, ok_bind, tst_ok, tnot_ok, ifv_ok, tand_ok, tor_ok, vand_ok, vor_ok, vnot_ok, dsp_ok, call1, call2, call3, call4, call5, callF2, callF3, addD_int, subD_int, negD_int, leD_int, ltD_int, gtD_int, geX_int, eqD_int, neD_int, intD_int, lenD_lst, lenD_tup, lenD_scr, tupleD_lst, tupleD_tup, listD_lst, listL_lst, listL_tup, lstD_nil, tupD_nil, tupD_1, tupD_2, lstD_1, lenOk_nil, inD_tup, inD_lst, notInD_tup, notInD_lst, agV_, agN_, agC_, tupAs_, its_ok, itemsD_lst, itemsD_tup, h0, em, ea]) (nxt_nx ?_))
  simp -implicitDefEqProofs only [List.set_cons_succ, List.set_cons_zero]
  refine w_then (w_asg (.int s) (by simp -implicitDefEqProofs only [get_succ, get_zero, wipeE_cons, wipeE_nil, setE_cons, setE_nil, List.set_cons_succ, List.set_cons_zero, acons_ok, cbf_ok, o1_ok, o2_ok, o3_ok, toI_ok, calm_ok, ok_bind, tst_ok, tnot_ok, ifv_ok, tand_ok, tor_ok, vand_ok, vor_ok, vnot_ok, dsp_ok, call1, call2, call3, call4, call5, callF2, callF3, addD_int, subD_int, negD_int, leD_int, ltD_int, gtD_int, geX_int, eqD_int, neD_int, intD_int, lenD_lst, lenD_tup, lenD_scr, tupleD_lst, tupleD_tup, listD_lst, listL_lst, listL_tup, lstD_nil, tupD_nil, tupD_1, tupD_2, lstD_1, lenOk_nil, inD_tup, inD_lst, notInD_tup, notInD_lst, agV_, agN_, agC_, tupAs_, its_ok, itemsD_lst, itemsD_tup, h1, em2, ea2]) (nxt_nx ?_))
  simp -implicitDefEqProofs only [List.set_cons_succ, List.set_cons_zero]
  refine w_then (w_asg A (by simp -implicitDefEqProofs only [get_succ, get_zero, wipeE_cons, wipeE_nil, setE_cons, setE_nil, List.set_cons_succ, List.set_cons_zero, acons_ok, cbf_ok, o1_ok, o2_ok, o3_ok, toI_ok, calm_ok, ok_bind, tst_ok, tnot_ok, ifv_ok, tand_ok, tor_ok, vand_ok, vor_ok, vnot_ok, dsp_ok, call1, call2, call3, call4, call5, callF2, callF3, addD_int, subD_int, negD_int, leD_int, ltD_int, gtD_int, geX_int, eqD_int, neD_int, intD_int, lenD_lst, lenD_tup, lenD_scr, tupleD_lst, tupleD_tup, listD_lst, listL_lst, listL_tup, lstD_nil, tupD_nil, tupD_1, tupD_2, lstD_1, lenOk_nil, inD_tup, inD_lst, notInD_tup, notInD_lst, agV_, agN_, agC_, tupAs_, its_ok, itemsD_lst, itemsD_tup, hq]) (nxt_nx ?_))
  simp -implicitDefEqProofs only [List.set_cons_succ, List.set_cons_zero]
  refine w_then (w_asg (.int n2) (by simp -implicitDefEqProofs only [get_succ, get_zero, wipeE_cons, wipeE_nil, setE_cons, setE_nil, List.set_cons_succ, List.set_cons_zero, acons_ok, cbf_ok, o1_ok, o2_ok, o3_ok, toI_ok, calm_ok, ok_bind, tst_ok, tnot_ok, ifv_ok, tand_ok, tor_ok, vand_ok, vor_ok, vnot_ok, dsp_ok, call1, call2, call3, call4, call5, callF2, callF3, addD_int, subD_int, negD_int, leD_int, ltD_int, gtD_int, geX_int, eqD_int, neD_int, intD_int, lenD_lst, lenD_tup, lenD_scr, tupleD_lst, tupleD_tup, listD_lst, listL_lst, listL_tup, lstD_nil, tupD_nil, tupD_1, tupD_2, lstD_1, lenOk_nil, inD_tup, inD_lst, notInD_tup, notInD_lst, agV_, agN_, agC_, tupAs_, its_ok, itemsD_lst, itemsD_tup, h2, em3, ea3]) (nxt_nx ?_))
  simp -implicitDefEqProofs only [List.set_cons_succ, List.set_cons_zero]
  refine w_then (w_asg (.int s2) (by simp -implicitDefEqProofs only [get_succ, get_zero, wipeE_cons, wipeE_nil, setE_cons, setE_nil, List.set_cons_succ, List.set_cons_zero, acons_ok, cbf_ok, o1_ok, o2_ok, o3_ok, toI_ok, calm_ok, ok_bind, tst_ok, tnot_ok, ifv_ok, tand_ok, tor_ok, vand_ok, vor_ok, vnot_ok, dsp_ok, call1, call2, call3, call4, call5, callF2, callF3, addD_int, subD_int, negD_int, leD_int, ltD_int, gtD_int, geX_int, eqD_int, neD_int, intD_int, lenD_lst, lenD_tup, lenD_scr, tupleD_lst, tupleD_tup, listD_lst, listL_lst, listL_tup, lstD_nil, tupD_nil, tupD_1, tupD_2, lstD_1, lenOk_nil, inD_tup, inD_lst, notInD_tup, notInD_lst, agV_, agN_, agC_, tupAs_, its_ok, itemsD_lst, itemsD_tup, h3, em4, ea4]) (nxt_nx ?_))
  simp -implicitDefEqProofs only [List.set_cons_succ, List.set_cons_zero]
  refine w_then (w_asg B (by simp -implicitDefEqProofs only [get_succ, get_zero, wipeE_cons, wipeE_nil, setE_cons, setE_nil, List.set_cons_succ, List.set_cons_zero, acons_ok, cbf_ok, o1_ok, o2_ok, o3_ok, toI_ok, calm_ok, ok_bind, tst_ok, tnot_ok, ifv_ok, tand_ok, tor_ok, vand_ok, vor_ok, vnot_ok, dsp_ok, call1, call2, call3, call4, call5, callF2, callF3, addD_int, subD_int, negD_int, leD_int, ltD_int, gtD_int, geX_int, eqD_int, neD_int, intD_int, lenD_lst, lenD_tup, lenD_scr, tupleD_lst, tupleD_tup, listD_lst, listL_lst, listL_tup, lstD_nil, tupD_nil, tupD_1, tupD_2, lstD_1, lenOk_nil, inD_tup, inD_lst, notInD_tup, notInD_lst, agV_, agN_, agC_, tupAs_, its_ok, itemsD_lst, itemsD_tup, hp]) (nxt_nx ?_))
  simp -implicitDefEqProofs only [List.set_cons_succ, List.set_cons_zero]
  refine w_then (w_for (ds := [.int 2]) (fun (k : Nat) => D.int (k : Int)) (List.range 2) (fun i ρ => ∃ a, ρ = [some (.scr ns), some (.int n), some (.int s), some A, some (.int n2), some (.int s2), some B, a]) rfl (rg1_nat (n := 2) (lim_le (by omega))) ⟨none, rfl⟩ ?_ ?_)
  · rintro i x ρ hx ⟨a, rfl⟩
    refine ⟨[(7, .int (x : Int))], rfl, ?_⟩
    refine w_then (w_f ?_ (w_nx (nxt_nx ?_)))
    · simp -implicitDefEqProofs only [get_succ, get_zero, wipeE_cons, wipeE_nil, setE_cons, setE_nil, List.set_cons_succ, List.set_cons_zero, acons_ok, cbf_ok, o1_ok, o2_ok, o3_ok, toI_ok, calm_ok, ok_bind, tst_ok, tnot_ok, ifv_ok, tand_ok, tor_ok, vand_ok, vor_ok, vnot_ok, dsp_ok, call1, call2, call3, call4, call5, callF2, callF3, addD_int, subD_int, negD_int, leD_int, ltD_int, gtD_int, geX_int, eqD_int, neD_int, intD_int, lenD_lst, lenD_tup, lenD_scr, tupleD_lst, tupleD_tup, listD_lst, listL_lst, listL_tup, lstD_nil, tupD_nil, tupD_1, tupD_2, lstD_1, lenOk_nil, inD_tup, inD_lst, notInD_tup, notInD_lst, agV_, agN_, agC_, tupAs_, its_ok, itemsD_lst, itemsD_tup, b1, b2]
      simp
    refine w_f ?_ (w_nx (lp_nx ⟨_, rfl⟩))
    simp -implicitDefEqProofs only [get_succ, get_zero, wipeE_cons, wipeE_nil, setE_cons, setE_nil, List.set_cons_succ, List.set_cons_zero, acons_ok, cbf_ok, o1_ok, o2_ok, o3_ok, toI_ok, calm_ok, ok_bind, tst_ok, tnot_ok, ifv_ok, tand_ok, tor_ok, vand_ok, vor_ok, vnot_ok, dsp_ok, call1, call2, call3, call4, call5, callF2, callF3, addD_int, subD_int, negD_int, leD_int, ltD_int, gtD_int, geX_int, eqD_int, neD_int, intD_int, lenD_lst, lenD_tup, lenD_scr, tupleD_lst, tupleD_tup, listD_lst, listL_lst, listL_tup, lstD_nil, tupD_nil, tupD_1, tupD_2, lstD_1, lenOk_nil, inD_tup, inD_lst, notInD_tup, notInD_lst, agV_, agN_, agC_, tupAs_, its_ok, itemsD_lst, itemsD_tup, b3]
    simp
  · rintro ρ ⟨a, rfl⟩
    refine nxt_nx (w_rt (.bl true) ?_ (fin_rt rfl))
    have e0 : dsp lstD (.ok []) = .ok (.lst []) := rfl
    simp -implicitDefEqProofs only [get_succ, get_zero, wipeE_cons, wipeE_nil, setE_cons, setE_nil, List.set_cons_succ, List.set_cons_zero, acons_ok, cbf_ok, o1_ok, o2_ok, o3_ok, toI_ok, calm_ok, ok_bind, tst_ok, tnot_ok, ifv_ok, tand_ok, tor_ok, vand_ok, vor_ok, vnot_ok, dsp_ok, call1, call2, call3, call4, call5, callF2, callF3, addD_int, subD_int, negD_int, leD_int, ltD_int, gtD_int, geX_int, eqD_int, neD_int, intD_int, lenD_lst, lenD_tup, lenD_scr, tupleD_lst, tupleD_tup, listD_lst, listL_lst, listL_tup, lstD_nil, tupD_nil, tupD_1, tupD_2, lstD_1, lenOk_nil, inD_tup, inD_lst, notInD_tup, notInD_lst, agV_, agN_, agC_, tupAs_, its_ok, itemsD_lst, itemsD_tup, b4, b5]
    simp
theorem m_law_holds (ns : List Int) (hns : ns.length ≤ 63) : m_law [.scr ns] = .ok (.bl true) := by
  obtain ⟨c0, _, h0⟩ := cell_ok ns 0 (by omega)
  obtain ⟨c1, _, h1⟩ := cell_ok ns 1 (by omega)
  obtain ⟨c2, _, h2⟩ := cell_ok ns 12 (by omega)
  obtain ⟨c3, _, h3⟩ := cell_ok ns 13 (by omega)
  have h0 : m__law_cell [.scr ns, .int 0] = .ok (.int c0) := h0
  have h1 : m__law_cell [.scr ns, .int 1] = .ok (.int c1) := h1
  have h2 : m__law_cell [.scr ns, .int 12] = .ok (.int c2) := h2
  have h3 : m__law_cell [.scr ns, .int 13] = .ok (.int c3) := h3
  obtain ⟨m, hm, em⟩ := modD_nat c0 (n := 12) (by omega)
  have em : modD (.int c0) (.int 12) = .ok (.int (m : Int)) := em
  obtain ⟨n, hnm⟩ : ∃ n, n = m + 1 := ⟨_, rfl⟩
  have hn : 1 ≤ n ∧ n ≤ 12 := by omega
  have ea : addD (.int 1) (.int (m : Int)) = .ok (.int (n : Int)) := int_eq (by omega)
  obtain ⟨m2, hm2, em2⟩ := modD_nat c1 (n := n) (by omega)
  obtain ⟨s, hsm⟩ : ∃ s, s = m2 + 1 := ⟨_, rfl⟩
  have hs : 1 ≤ s ∧ s ≤ n := by omega
  have ea2 : addD (.int 1) (.int (m2 : Int)) = .ok (.int (s : Int)) := int_eq (by omega)
  obtain ⟨Q, hQ, hq⟩ := rooms_ok ns 2 (by omega) hn hs
  have hq : m__law_rooms [.scr ns, .int 2, .int (n : Int), .int (s : Int)] = .ok (.lst (Q.map rowL)) := hq
  obtain ⟨m3, hm3, em3⟩ := modD_nat c2 (n := 12) (by omega)
  have em3 : modD (.int c2) (.int 12) = .ok (.int (m3 : Int)) := em3
  obtain ⟨n2, hnm2⟩ : ∃ n, n = m3 + 1 := ⟨_, rfl⟩
  have hn2 : 1 ≤ n2 ∧ n2 ≤ 12 := by omega
  have ea3 : addD (.int 1) (.int (m3 : Int)) = .ok (.int (n2 : Int)) := int_eq (by omega)
  obtain ⟨m4, hm4, em4⟩ := modD_nat c3 (n := n2) (by omega)
  obtain ⟨s2, hsm2⟩ : ∃ s, s = m4 + 1 := ⟨_, rfl⟩
  have hs2 : 1 ≤ s2 ∧ s2 ≤ n2 := by omega
  have ea4 : addD (.int 1) (.int (m4 : Int)) = .ok (.int (s2 : Int)) := int_eq (by omega)
  obtain ⟨P, hP, hp⟩ := rooms_ok ns 14 (by omega) hn2 hs2
  have hp : m__law_rooms [.scr ns, .int 14, .int (n2 : Int), .int (s2 : Int)] = .ok (.lst (P.map rowL)) := hp
  have b1 := back_ok hQ
  have b2 := back_ok hP
  have b3 := ends_ok hQ
  have b4 : m__law_there_and_back [.int (n : Int), .int (s : Int), .lst []] = .ok (.bl true) := by
    have := back_ok hQ.none
    rw [List.map_nil] at this
    exact this
  have b5 : m__law_ends [.int (n : Int), .int (s : Int), .lst []] = .ok (.bl true) := by
    have := ends_ok hQ.none
    rw [List.map_nil] at this
    exact this
  exact law_go h0 h1 h2 h3 em ea em2 ea2 em3 ea3 em4 ea4 hq hp b1 b2 b3 b4 b5
end Lk06

set_option maxHeartbeats 0 in
theorem PySem.Challenge.cw_neveralone_k06_book_texts_there_and_back_holds : PySem.Challenge.rw_neveralone_k06_book_texts_there_and_back.Holds := by
  w_on; o_law; k_head; (case hw => w_witness2)
  k_fill
  refine L2.walk_of (l := PySem.Challenge.rw_neveralone_k06_book_texts_there_and_back) (n := 63) (k := 15) (x := "_law_script") (CX := fun w => L2N.CX (PySem.Challenge.rw_neveralone_k06_book_texts_there_and_back).prog w) (sp := fun w => DL.spLaw _) rfl (by decide) rfl ⟨rfl, by decide, by decide⟩ (fun w h Y => PySem.W.kIn_of Y) ?F (fun _ _ a ns hl _ hS => ⟨a, ns, rfl, hS, hl, fun _ => rfl⟩) (fun _ _ _ _ _ h => DL.cx_no h)
  case F =>
    intro w mg fa h KX G hmg
    refine' Lk06.all_mk KX G hmg Lk06.m_law_holds ?aC_Book ?aC_BadText ?aC_NeverAloneError ?aC_BadBook ?aC_Mismatch ?a0 ?i0 ?l0 ?c0 ?k0 ?a1 ?i1 ?l1 ?c1 ?k1 ?a2 ?l2 ?c2 ?k2 ?a3 ?l3 ?c3 ?k3 ?a4 ?l4 ?c4 ?k4 ?a5 ?l5 ?c5 ?k5 ?a6 ?i6 ?l6 ?c6 ?k6 ?a7 ?l7 ?c7 ?k7 ?a8 ?i8 ?l8 ?c8 ?k8 ?a9 ?i9 ?l9 ?c9 ?k9 ?a10 ?l10 ?c10 ?k10 ?a11 ?i11 ?l11 ?c11 ?k11 ?a12 ?l12 ?c12 ?k12 ?a13 ?l13 ?c13 ?k13 ?a14 ?l14 ?c14 ?k14 ?a15 ?l15 ?c15 ?k15 ?a16 ?l16 ?c16 ?k16 ?a17 ?l17 ?c17 ?k17 ?a18 ?l18 ?c18 ?k18 ?a19 ?l19 ?c19 ?k19 ?a20 ?l20 ?c20 ?k20 ?a21 ?l21 ?c21 ?k21 ?a22 ?l22 ?c22 ?k22 ?a23 ?l23 ?c23 ?k23 ?a24 ?l24 ?c24 ?k24 ?a25 ?l25 ?c25 ?k25 ?a26 ?l26 ?c26 ?k26 ?a27 ?l27 ?c27 ?k27 ?a28 ?l28 ?c28 ?k28 ?a29 ?l29 ?c29 ?k29 ?a30 ?l30 ?c30 ?k30 ?a31 ?l31 ?c31 ?k31 ?a32 ?l32 ?c32 ?k32 ?pg_Book ?hd_Book ?po_Book ?sa_Book ?sf_Book ?mk_Book ?kc_Book ?no_Book_rooms ?no_Book__known ?no_Book_places ?no_Book_size ?xL_BadBook ?xV_BadBook ?eC_BadBook ?tC_BadBook ?sa_BadBook ?kc_BadBook ?no_BadBook_fault ?no_BadBook_at ?a_BadBook ?t_BadBook ?l_BadBook ?c_BadBook ?k_BadBook ?xL_Mismatch ?xV_Mismatch ?eC_Mismatch ?tC_Mismatch ?sa_Mismatch ?kc_Mismatch ?no_Mismatch_fault ?a_Mismatch ?t_Mismatch ?l_Mismatch ?c_Mismatch ?k_Mismatch ?xL_BadText ?xV_BadText ?eC_BadText ?tC_BadText ?sa_BadText ?kc_BadText ?no_BadText_line ?no_BadText_fault ?a_BadText ?t_BadText ?l_BadText ?c_BadText ?k_BadText ?ga_BadText ?gg_BadText ?hC_BadText ?ga_Mismatch ?gg_Mismatch ?hC_Mismatch ?ga_BadBook ?gg_BadBook ?hC_BadBook ?oC ?oT_ ?cc_BadBook ?mo_BadBook ?ic_BadBook ?s_BadBook_BadBook ?cc_Mismatch ?mo_Mismatch ?ic_Mismatch ?s_Mismatch_Mismatch ?cc_BadText ?mo_BadText ?ic_BadText ?s_BadText_BadText ?eC_NeverAloneError ?tC_NeverAloneError ?ic_NeverAloneError ?s_BadText_NeverAloneError ?s_Mismatch_NeverAloneError ?s_Mismatch_BadText ?s_BadBook_NeverAloneError ?s_BadBook_BadText ?eB_ValueError ?sb_BadText_ValueError ?sb_Mismatch_ValueError ?sb_BadBook_ValueError ?cc_Book ?mo_Book ?tC_Book ?s_Book_Book ?ic_Book ?sb_Book_bool ?sb_Book_int ?sb_Book_tuple ?sb_Book_str ?z_len ?z_iter ?z_range ?z_tuple ?z_any ?z_set ?z_sorted ?z_enumerate ?z_isinstance ?z_abs ?z_int ?z_list ?z_str ?z_all ?z_bool ?z_ValueError ?z_MOST_PLACES ?z_MOST_DIGITS
    (case aC_Book => k_is); (case aC_BadText => k_is); (case aC_NeverAloneError => k_is); (case aC_BadBook => k_is); (case aC_Mismatch => k_is); (case a0 => k_is); (case i0 => k_is); (case l0 => k_is); (case c0 => k_is); (case k0 => k_is); (case a1 => k_is); (case i1 => k_is); (case l1 => k_is); (case c1 => k_is); (case k1 => k_is); (case a2 => k_is); (case l2 => k_is); (case c2 => k_is); (case k2 => k_is); (case a3 => k_is); (case l3 => k_is); (case c3 => k_is); (case k3 => k_is); (case a4 => k_is); (case l4 => k_is); (case c4 => k_is); (case k4 => k_is); (case a5 => k_is); (case l5 => k_is); (case c5 => k_is); (case k5 => k_is); (case a6 => k_is); (case i6 => k_is); (case l6 => k_is); (case c6 => k_is); (case k6 => k_is); (case a7 => k_is); (case l7 => k_is); (case c7 => k_is); (case k7 => k_is); (case a8 => k_is); (case i8 => k_is); (case l8 => k_is); (case c8 => k_is); (case k8 => k_is); (case a9 => k_is); (case i9 => k_is); (case l9 => k_is); (case c9 => k_is); (case k9 => k_is); (case a10 => k_is); (case l10 => k_is); (case c10 => k_is); (case k10 => k_is); (case a11 => k_is); (case i11 => k_is); (case l11 => k_is); (case c11 => k_is); (case k11 => k_is); (case a12 => k_is); (case l12 => k_is); (case c12 => k_is); (case k12 => k_is); (case a13 => k_is); (case l13 => k_is); (case c13 => k_is); (case k13 => k_is); (case a14 => k_is); (case l14 => k_is); (case c14 => k_is); (case k14 => k_is); (case a15 => k_is); (case l15 => k_is); (case c15 => k_is); (case k15 => k_is); (case a16 => k_is); (case l16 => k_is); (case c16 => k_is); (case k16 => k_is); (case a17 => k_is); (case l17 => k_is); (case c17 => k_is); (case k17 => k_is); (case a18 => k_is); (case l18 => k_is); (case c18 => k_is); (case k18 => k_is); (case a19 => k_is); (case l19 => k_is); (case c19 => k_is); (case k19 => k_is); (case a20 => k_is); (case l20 => k_is); (case c20 => k_is); (case k20 => k_is); (case a21 => k_is); (case l21 => k_is); (case c21 => k_is); (case k21 => k_is); (case a22 => k_is); (case l22 => k_is); (case c22 => k_is); (case k22 => k_is); (case a23 => k_is); (case l23 => k_is); (case c23 => k_is); (case k23 => k_is); (case a24 => k_is); (case l24 => k_is); (case c24 => k_is); (case k24 => k_is); (case a25 => k_is); (case l25 => k_is); (case c25 => k_is); (case k25 => k_is); (case a26 => k_is); (case l26 => k_is); (case c26 => k_is); (case k26 => k_is); (case a27 => k_is); (case l27 => k_is); (case c27 => k_is); (case k27 => k_is); (case a28 => k_is); (case l28 => k_is); (case c28 => k_is); (case k28 => k_is); (case a29 => k_is); (case l29 => k_is); (case c29 => k_is); (case k29 => k_is); (case a30 => k_is); (case l30 => k_is); (case c30 => k_is); (case k30 => k_is); (case a31 => k_is); (case l31 => k_is); (case c31 => k_is); (case k31 => k_is); (case a32 => k_is); (case l32 => k_is); (case c32 => k_is); (case k32 => k_is); (case pg_Book => k_is); (case hd_Book => k_is); (case po_Book => k_is); (case sa_Book => k_is); (case sf_Book => k_is); (case mk_Book => k_is); (case kc_Book => k_is); (case no_Book_rooms => k_is); (case no_Book__known => k_is); (case no_Book_places => k_is); (case no_Book_size => k_is); (case xL_BadBook => k_is); (case xV_BadBook => first | k_is | rfl); (case eC_BadBook => k_is); (case tC_BadBook => k_is); (case sa_BadBook => k_is); (case kc_BadBook => k_is); (case no_BadBook_fault => k_is); (case no_BadBook_at => k_is); (case a_BadBook => k_is); (case t_BadBook => k_is); (case l_BadBook => k_is); (case c_BadBook => k_is); (case k_BadBook => k_is); (case xL_Mismatch => k_is); (case xV_Mismatch => first | k_is | rfl); (case eC_Mismatch => k_is); (case tC_Mismatch => k_is); (case sa_Mismatch => k_is); (case kc_Mismatch => k_is); (case no_Mismatch_fault => k_is); (case a_Mismatch => k_is); (case t_Mismatch => k_is); (case l_Mismatch => k_is); (case c_Mismatch => k_is); (case k_Mismatch => k_is); (case xL_BadText => k_is); (case xV_BadText => first | k_is | rfl); (case eC_BadText => k_is); (case tC_BadText => k_is); (case sa_BadText => k_is); (case kc_BadText => k_is); (case no_BadText_line => k_is); (case no_BadText_fault => k_is); (case a_BadText => k_is); (case t_BadText => k_is); (case l_BadText => k_is); (case c_BadText => k_is); (case k_BadText => k_is); (case ga_BadText => k_is); (case gg_BadText => k_is); (case hC_BadText => k_is); (case ga_Mismatch => k_is); (case gg_Mismatch => k_is); (case hC_Mismatch => k_is); (case ga_BadBook => k_is); (case gg_BadBook => k_is); (case hC_BadBook => k_is); (case oC => k_is); (case oT_ => k_is); (case cc_BadBook => k_is); (case mo_BadBook => k_is); (case ic_BadBook => k_is); (case s_BadBook_BadBook => first | k_is | rfl); (case cc_Mismatch => k_is); (case mo_Mismatch => k_is); (case ic_Mismatch => k_is); (case s_Mismatch_Mismatch => first | k_is | rfl); (case cc_BadText => k_is); (case mo_BadText => k_is); (case ic_BadText => k_is); (case s_BadText_BadText => first | k_is | rfl); (case eC_NeverAloneError => k_is); (case tC_NeverAloneError => k_is); (case ic_NeverAloneError => k_is); (case s_BadText_NeverAloneError => first | k_is | rfl); (case s_Mismatch_NeverAloneError => first | k_is | rfl); (case s_Mismatch_BadText => first | k_is | rfl); (case s_BadBook_NeverAloneError => first | k_is | rfl); (case s_BadBook_BadText => first | k_is | rfl); (case eB_ValueError => k_is); (case sb_BadText_ValueError => k_is); (case sb_Mismatch_ValueError => k_is); (case sb_BadBook_ValueError => k_is); (case cc_Book => k_is); (case mo_Book => k_is); (case tC_Book => k_is); (case s_Book_Book => first | k_is | rfl); (case ic_Book => k_is); (case sb_Book_bool => k_is); (case sb_Book_int => k_is); (case sb_Book_tuple => k_is); (case sb_Book_str => k_is); (case z_len => k_is); (case z_iter => k_is); (case z_range => k_is); (case z_tuple => k_is); (case z_any => k_is); (case z_set => k_is); (case z_sorted => k_is); (case z_enumerate => k_is); (case z_isinstance => k_is); (case z_abs => k_is); (case z_int => k_is); (case z_list => k_is); (case z_str => k_is); (case z_all => k_is); (case z_bool => k_is); (case z_ValueError => k_is); (case z_MOST_PLACES => k_is); (case z_MOST_DIGITS => k_is)

