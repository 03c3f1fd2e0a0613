import PyProof.Rows.All
import Wide.All
import OpenK.AllK
import Wide.FinOn
import HandS.Base
import HandS.Call
import HandS.List
import HandS.Comp
import HandS.Words
import HandS.TupAny
import HandS.IsInst
import HandS.Conv
import HandS.Iter
import HandS.SortInts
import HandS.Sort
import HandS.Text
import PyProof.TupleOfSeq
import HandS.TupLe
import PySem.Challenge.RW_neveralone_k00_rooms_and_their_signs
set_option Elab.async false
set_option linter.all false
set_option maxRecDepth 100000
/-! The data layer: what a def makes of its arguments as plain data, apart from where the data lie. -/
namespace DL
open PySem PySem.Spec PyProof.Rows L2

/-! ### data -/
inductive D where
  | non | bl (b : Bool) | int (i : Int) | str (x : Str)
  | lst (ds : List D) | tup (ds : List D) | scr (ns : List Int) | rng (lo hi : Int) | ty (n : String)
  deriving Inhabited
mutual
inductive Rep (K : PySem.W.Frag) (I : Hp) : V → D → Prop
  | non : Rep K I .non .non
  | bl (b : Bool) : Rep K I (.bl b) (.bl b)
  | int (i : Int) : Rep K I (.int i) (.int i)
  | str (x : Str) : Rep K I (.str x) (.str x)
  | lst {a : Addr} {vs : List V} {ds : List D} : I a = some (.lst vs) → Reps K I vs ds → Rep K I (.ref a) (.lst ds)
  | tup {a : Addr} {vs : List V} {ds : List D} : SqT K I a vs → Reps K I vs ds → Rep K I (.ref a) (.tup ds)
  | scr {a : Addr} {ns : List Int} : SqL K I a (ns.map V.int) → Rep K I (.ref a) (.scr ns)
  | rng {a : Addr} {lo hi : Int} : I a = some (.rng lo hi) → Rep K I (.ref a) (.rng lo hi)
  | ty (n : String) : Rep K I (.ty n) (.ty n)
inductive Reps (K : PySem.W.Frag) (I : Hp) : List V → List D → Prop
  | nil : Reps K I [] []
  | cons {v : V} {vs : List V} {d : D} {ds : List D} : Rep K I v d → Reps K I vs ds → Reps K I (v :: vs) (d :: ds)
end
theorem same_t {K : PySem.W.Frag} {H H' : Hp} {a : Addr} {xs : List V} (e : Same H H') (h : SqT K H a xs) : SqT K H' a xs := by
  rcases h with (h | ⟨o, h⟩) | h
  · exact .inl (.inl (e _ _ h))
  · exact .inl (.inr ⟨o, e _ _ h⟩)
  · exact .inr h
section
variable {K : PySem.W.Frag} {I I' H H' I2 H2 : Hp}
mutual
theorem Rep.mono (e : Same I I') : ∀ {v : V} {d : D}, Rep K I v d → Rep K I' v d
  | _, _, .non => .non
  | _, _, .bl b => .bl b
  | _, _, .int i => .int i
  | _, _, .str x => .str x
  | _, _, .lst h r => .lst (e _ _ h) (Reps.mono e r)
  | _, _, .tup h r => .tup (same_t e h) (Reps.mono e r)
  | _, _, .scr h => .scr (e.seq h)
  | _, _, .rng h => .rng (e _ _ h)
  | _, _, .ty n => .ty n
theorem Reps.mono (e : Same I I') : ∀ {vs : List V} {ds : List D}, Reps K I vs ds → Reps K I' vs ds
  | _, _, .nil => .nil
  | _, _, .cons h r => .cons (Rep.mono e h) (Reps.mono e r)
end
theorem Reps.len : ∀ {vs : List V} {ds : List D}, Reps K I vs ds → vs.length = ds.length
  | _, _, .nil => rfl
  | _, _, .cons _ r => congrArg (· + 1) (Reps.len r)
theorem Reps.get : ∀ {vs : List V} {ds : List D} {i : Nat} {d : D}, Reps K I vs ds → ds[i]? = some d → ∃ v, vs[i]? = some v ∧ Rep K I v d
  | _, _, _, _, .nil, h => by simp at h
  | _, _, 0, _, .cons h r, e => by
    have e : _ = _ := Option.some.inj e
    subst e
    exact ⟨_, rfl, h⟩
  | _, _, i + 1, _, .cons h r, e => Reps.get (i := i) r e
theorem Reps.get' : ∀ {vs : List V} {ds : List D} {i : Nat} {v : V}, Reps K I vs ds → vs[i]? = some v → ∃ d, ds[i]? = some d ∧ Rep K I v d
  | _, _, _, _, .nil, h => by simp at h
  | _, _, 0, _, .cons h r, e => by
    have e : _ = _ := Option.some.inj e
    subst e
    exact ⟨_, rfl, h⟩
  | _, _, i + 1, _, .cons h r, e => Reps.get' (i := i) r e
theorem Reps.app : ∀ {vs ws : List V} {ds es : List D}, Reps K I vs ds → Reps K I ws es → Reps K I (vs ++ ws) (ds ++ es)
  | _, _, _, _, .nil, s => s
  | _, _, _, _, .cons h r, s => .cons h (Reps.app r s)
theorem Reps.take : ∀ {vs : List V} {ds : List D} (n : Nat), Reps K I vs ds → Reps K I (vs.take n) (ds.take n)
  | _, _, 0, _ => .nil
  | _, _, _ + 1, .nil => .nil
  | _, _, n + 1, .cons h r => .cons h (Reps.take n r)
theorem Reps.drop : ∀ {vs : List V} {ds : List D} (n : Nat), Reps K I vs ds → Reps K I (vs.drop n) (ds.drop n)
  | _, _, 0, r => r
  | _, _, _ + 1, .nil => .nil
  | _, _, n + 1, .cons _ r => Reps.drop n r
theorem Reps.set {v : V} {d : D} (h : Rep K I v d) : ∀ {vs : List V} {ds : List D} (i : Nat), Reps K I vs ds → Reps K I (vs.set i v) (ds.set i d)
  | _, _, _, .nil => .nil
  | _, _, 0, .cons _ r => .cons h r
  | _, _, i + 1, .cons q r => .cons q (Reps.set h i r)
theorem Reps.erase : ∀ {vs : List V} {ds : List D} (i : Nat), Reps K I vs ds → Reps K I (vs.eraseIdx i) (ds.eraseIdx i)
  | _, _, _, .nil => .nil
  | _, _, 0, .cons _ r => r
  | _, _, i + 1, .cons q r => .cons q (Reps.erase i r)
theorem Reps.rev {vs : List V} {ds : List D} (h : Reps K I vs ds) : Reps K I vs.reverse ds.reverse := by
  induction vs generalizing ds with
  | nil =>
    cases h
    exact .nil
  | cons v vs ih =>
    cases h with
    | cons a r =>
      rw [List.reverse_cons, List.reverse_cons]
      exact (ih r).app (.cons a .nil)
theorem Reps.ints {ns : List Int} : Reps K I (ns.map V.int) (ns.map D.int) := by
  induction ns with
  | nil => exact .nil
  | cons n ns ih => exact .cons (.int n) ih

/-! ### a step: nothing that stood is changed; what the data lie in grows by new objects alone -/
structure Stp (I H I' H' : Hp) : Prop where
  i : Same I I'
  h : Same H H'
  e : Same I' H'
  f : ∀ a o, I' a = some o → I a = some o ∨ H a = none
theorem Stp.refl (e : Same I H) : Stp I H I H := ⟨.refl _, .refl _, e, fun _ _ h => .inl h⟩
theorem Stp.trans (s : Stp I H I' H') (t : Stp I' H' I2 H2) : Stp I H I2 H2 := ⟨s.i.trans t.i, s.h.trans t.h, t.e, fun a o h => by
  rcases t.f a o h with h | h
  · exact s.f a o h
  · exact .inr (s.h.free h)⟩
/-- a new object -/
theorem Stp.new {p : Addr} {o : HO} (e : Same I H) (h : H p = none) : Stp I H (upd I p o) (upd H p o) := by
  have hi : I p = none := e.free h
  refine ⟨fun b u q => ?_, fun b u q => ?_, fun b u q => ?_, fun b u q => ?_⟩
  · rw [upd_ne (ne_of_none q hi)]
    exact q
  · rw [upd_ne (ne_of_none q h)]
    exact q
  · by_cases hb : b = p
    · subst hb
      rw [upd_same] at q ⊢
      exact q
    · rw [upd_ne hb] at q ⊢
      exact e _ _ q
  · by_cases hb : b = p
    · subst hb
      exact .inr h
    · rw [upd_ne hb] at q
      exact .inl q
/-- an object of H alone, new -/
theorem Stp.side {p : Addr} {o : HO} (e : Same I H) (h : H p = none) : Stp I H I (upd H p o) := by
  have q : Same H (upd H p o) := fun b u q => by
    rw [upd_ne (ne_of_none q h)]
    exact q
  exact ⟨.refl _, q, e.trans q, fun b u q => .inl q⟩
end

/-! ### results -/
inductive R (α : Type) where
  | ok (a : α) | err (nm : Str) (ds : List D) | stuck
def R.bind {α β : Type} : R α → (α → R β) → R β
  | .ok a, f => f a
  | .err n ds, _ => .err n ds
  | .stuck, _ => .stuck
instance : Monad R where
  pure := R.ok
  bind := R.bind
@[simp] theorem ok_bind {α β : Type} (a : α) (f : α → R β) : (R.ok a >>= f) = f a := rfl
@[simp] theorem err_bind {α β : Type} (n : Str) (ds : List D) (f : α → R β) : ((R.err n ds : R α) >>= f) = .err n ds := rfl
@[simp] theorem stuck_bind {α β : Type} (f : α → R β) : ((R.stuck : R α) >>= f) = .stuck := rfl
@[simp] theorem pure_ok {α : Type} (a : α) : (pure a : R α) = .ok a := rfl
abbrev Env := List (Option D)
def get (ρ : Env) (i : Nat) : R D := match ρ[i]? with
  | some (some d) => .ok d
  | _ => .stuck

/-! ### the wishes: of a value, of an exception -/
/-- an exception of the class nm whose fields are ds -/
structure XRep (K : PySem.W.Frag) (mg : Str → Option Value) (I H : Hp) (nm : Str) (ds : List D) (C : Value) (od : Option Addr) : Prop where
  c : mg nm = some C
  d : ∃ d fs vs, od = some d ∧ H d = some (.xd fs) ∧ fs.map (·.2) = vs ∧ Reps K I vs ds
def Out (K : PySem.W.Frag) (mg : Str → Option Value) (E : XK) {α β : Type} (rp : Hp → β → α → Prop) (I H : Hp) (r : R α) (Q : β → Hp → Prop) : Prop := match r with
  | .ok d => ∀ v I' H', Stp I H I' H' → rp I' v d → Q v H'
  | .err nm ds => ∀ C od I' H', Stp I H I' H' → XRep K mg I' H' nm ds C od → E C od H'
  | .stuck => False
/-- the slots' values -/
structure RE (K : PySem.W.Frag) (I : Hp) (σ : L2.St) (ρ : Env) : Prop where
  len : σ.length = ρ.length
  at_ : ∀ (i : Nat) (d : D), ρ[i]? = some (some d) → ∃ v, σ[i]? = some (some v) ∧ Rep K I v d
abbrev rB : Hp → Bool → Bool → Prop := fun _ v d => v = d
abbrev rO : Hp → Option Int → Option Int → Prop := fun _ v d => v = d
/-- an iterator whose items are ds -/
def ItOk (K : PySem.W.Frag) (I : Hp) (J : It) (ds : List D) : Prop :=
  ∀ I1 H, Same I I1 → Same I1 H → (∀ (i : Nat) d, ds[i]? = some d → J.go i H ∧ ∀ x H', J.yld i H x H' → ∃ I2, Stp I1 H I2 H' ∧ Rep K I2 x d) ∧ J.stop ds.length H
section
variable {K : PySem.W.Frag} {mg : Str → Option Value} {E : XK} {I I' H H' : Hp} {σ : L2.St} {ρ : Env} {α β α' β' : Type} {rp : Hp → β → α → Prop} {rp' : Hp → β' → α' → Prop} {Q : β → Hp → Prop} {r : R α}
theorem RE.mono (h : RE K I σ ρ) (e : Same I I') : RE K I' σ ρ := ⟨h.len, fun i d q => by
  obtain ⟨v, a, b⟩ := h.at_ i d q
  exact ⟨v, a, b.mono e⟩⟩
theorem ItOk.mono {J : It} {ds : List D} (h : ItOk K I J ds) (e : Same I I') : ItOk K I' J ds := fun I1 H a b => h I1 H (e.trans a) b
theorem Out.mono (s : Stp I H I' H') (h : Out K mg E rp I H r Q) : Out K mg E rp I' H' r Q := by
  cases r with
  | ok d => exact fun v I2 H2 t q => h v I2 H2 (s.trans t) q
  | err nm ds => exact fun C od I2 H2 t q => h C od I2 H2 (s.trans t) q
  | stuck => exact h
def Sn (K : PySem.W.Frag) (mg : Str → Option Value) (E : XK) {α β : Type} (rp : Hp → β → α → Prop) (te : L2.St → Hp → (β → Hp → Prop) → Prop) (m : Env → R α) : Prop :=
  ∀ (σ : L2.St) (I H : Hp) (ρ : Env) (Q : β → Hp → Prop), RE K I σ ρ → Same I H → Out K mg E rp I H (m ρ) Q → te σ H Q
theorem Sn.run {te : L2.St → Hp → (β → Hp → Prop) → Prop} {m : Env → R α} {k : α → R α'} {P : β → Hp → Prop} {Q : β' → Hp → Prop} (h : Sn K mg E rp te m) (re : RE K I σ ρ) (ex : Same I H) (hq : Out K mg E rp' I H (m ρ >>= k) Q)
    (hk : ∀ d v I' H', m ρ = .ok d → Stp I H I' H' → rp I' v d → Out K mg E rp' I' H' (k d) Q → P v H') : te σ H P := by
  refine h σ I H ρ P re ex ?_
  cases e : m ρ with
  | ok d =>
    rw [e] at hq
    exact fun v I' H' s q => hk d v I' H' e s q (Out.mono s hq)
  | err nm ds =>
    rw [e] at hq
    exact hq
  | stuck =>
    rw [e] at hq
    exact hq
theorem Out.here {d : α} {v : β} (h : Out K mg E rp I H (.ok d) Q) (e : Same I H) (r : rp I v d) : Q v H := h v I H (.refl e) r
theorem Out.there {d : α} {v : β} (h : Out K mg E rp I H (.ok d) Q) (e : Stp I H I' H') (r : rp I' v d) : Q v H' := h v I' H' e r
end
end DL
namespace DL
open PySem PySem.Spec L2

/-! ### judgements: a piece of syntax and what it makes of the slots' data -/
structure ME (X : Cx) (E : XK) (e : Expr) (t : TE) (m : Env → R D) : Prop where
  pe : PE X e t
  sn : Sn X.K X.mg E (Rep X.K) t m
structure MT (X : Cx) (E : XK) (e : Expr) (t : TT) (m : Env → R Bool) : Prop where
  pe : PT X e t
  sn : Sn X.K X.mg E rB t m
structure MW (X : Cx) (E : XK) (e : Expr) (t : TT) (m : Env → R Bool) : Prop where
  pe : PW X e t
  sn : Sn X.K X.mg E rB t m
structure MTs (X : Cx) (E : XK) (es : List Expr) (t : TT) (m : Env → R Bool) : Prop where
  pe : PTs X es t
  sn : Sn X.K X.mg E rB t m
structure MA (X : Cx) (E : XK) (es : List Expr) (t : TA) (m : Env → R (List D)) : Prop where
  pe : PA X es t
  sn : Sn X.K X.mg E (Reps X.K) t m
structure MO (X : Cx) (E : XK) (e : Option Expr) (t : TO) (m : Env → R (Option Int)) : Prop where
  pe : PO X e t
  sn : Sn X.K X.mg E rO t m
structure MI (X : Cx) (E : XK) (tg e : Expr) (t : TI) (m : Env → R (List D)) : Prop where
  pe : PI X tg e t
  sn : Sn X.K X.mg E (ItOk X.K) t m
theorem MW.mt {X : Cx} {E : XK} {e : Expr} {t : TT} {m : Env → R Bool} (h : MW X E e t m) : MT X E e t m := by
  obtain ⟨a, b⟩ := h
  exact ⟨a.pt, b⟩

/-! ### rules by values -/
def RSn (K : PySem.W.Frag) (r : R2) (f : D → D → R D) : Prop :=
  ∀ (x y : V) (I H : Hp) (dx dy d : D) (Q : VK), Same I H → Rep K I x dx → Rep K I y dy → f dx dy = .ok d → (∀ v I' H', Stp I H I' H' → Rep K I' v d → Q v H') → r x y H Q
def USn (K : PySem.W.Frag) (r : V → Hp → VK → Prop) (f : D → R D) : Prop :=
  ∀ (x : V) (I H : Hp) (dx d : D) (Q : VK), Same I H → Rep K I x dx → f dx = .ok d → (∀ v I' H', Stp I H I' H' → Rep K I' v d → Q v H') → r x H Q
def CSn (K : PySem.W.Frag) (r : List V → Hp → VK → Prop) (f : List D → R D) : Prop :=
  ∀ (xs : List V) (I H : Hp) (ds : List D) (d : D) (Q : VK), Same I H → Reps K I xs ds → f ds = .ok d → (∀ v I' H', Stp I H I' H' → Rep K I' v d → Q v H') → r xs H Q
/-- an error of a built-in is none that we speak of -/
def calm {α : Type} : R α → R α
  | .ok a => .ok a
  | _ => .stuck
@[simp] theorem calm_ok {α : Type} (a : α) : calm (R.ok a) = .ok a := rfl
@[simp] theorem calm_stuck {α : Type} : calm (R.stuck : R α) = .stuck := rfl
theorem calm_of {α : Type} {r : R α} {a : α} (h : calm r = .ok a) : r = .ok a := by
  cases r with
  | ok b => exact h
  | err _ _ => cases h
  | stuck => cases h

/-! ### the parts of what a text makes -/
def o2 (f : D → D → R D) (a b : R D) : R D := a >>= fun x => b >>= fun y => calm (f x y)
def o1 (f : D → R D) (a : R D) : R D := a >>= fun x => calm (f x)
def asB : D → R Bool
  | .bl b => .ok b
  | _ => .stuck
@[simp] theorem asB_bl (b : Bool) : asB (.bl b) = .ok b := rfl
def tst (a : R D) : R Bool := a >>= asB
def tnot (a : R Bool) : R Bool := a >>= fun k => .ok (!k)
def ifv {α : Type} (c : R Bool) (a b : R α) : R α := c >>= fun k => if k = true then a else b
def tand (a b : R Bool) : R Bool := a >>= fun k => if k = true then b else .ok false
def tor (a b : R Bool) : R Bool := a >>= fun k => if k = true then .ok true else b
def vand (a b : R D) : R D := a >>= fun k => asB k >>= fun k => if k = true then b else .ok (.bl false)
def vor (a b : R D) : R D := a >>= fun k => asB k >>= fun k => if k = true then .ok (.bl true) else b
def vnot (a : R D) : R D := a >>= fun k => asB k >>= fun k => .ok (.bl !k)
def acons (a : R D) (r : R (List D)) : R (List D) := a >>= fun d => r >>= fun ds => .ok (d :: ds)
def cbf (f : List D → R D) (r : R (List D)) : R D := r >>= fun ds => calm (f ds)
def call_ (n : Nat) (g : List D → R D) (r : R (List D)) : R D := r >>= fun ds => if ds.length = n then g ds else .stuck
def asI : D → R (Option Int)
  | .int i => .ok (some i)
  | _ => .stuck
def toI (a : R D) : R (Option Int) := a >>= asI
def o3 (f : D → Option Int → Option Int → R D) (a : R D) (l u : R (Option Int)) : R D := a >>= fun d => l >>= fun l => u >>= fun u => calm (f d l u)
@[simp] theorem o2_ok (f : D → D → R D) (x y : D) : o2 f (.ok x) (.ok y) = calm (f x y) := rfl
@[simp] theorem o1_ok (f : D → R D) (x : D) : o1 f (.ok x) = calm (f x) := rfl
@[simp] theorem tst_ok (b : Bool) : tst (.ok (.bl b)) = .ok b := rfl
@[simp] theorem tnot_ok (b : Bool) : tnot (.ok b) = .ok (!b) := rfl
@[simp] theorem ifv_ok {α : Type} (k : Bool) (a b : R α) : ifv (.ok k) a b = if k = true then a else b := rfl
@[simp] theorem tand_ok (k : Bool) (b : R Bool) : tand (.ok k) b = if k = true then b else .ok false := rfl
@[simp] theorem tor_ok (k : Bool) (b : R Bool) : tor (.ok k) b = if k = true then .ok true else b := rfl
@[simp] theorem vand_ok (k : Bool) (b : R D) : vand (.ok (.bl k)) b = if k = true then b else .ok (.bl false) := rfl
@[simp] theorem vor_ok (k : Bool) (b : R D) : vor (.ok (.bl k)) b = if k = true then .ok (.bl true) else b := rfl
@[simp] theorem vnot_ok (k : Bool) : vnot (.ok (.bl k)) = .ok (.bl !k) := rfl
@[simp] theorem acons_ok (d : D) (ds : List D) : acons (.ok d) (.ok ds) = .ok (d :: ds) := rfl
@[simp] theorem cbf_ok (f : List D → R D) (ds : List D) : cbf f (.ok ds) = calm (f ds) := rfl
@[simp] theorem call_ok (n : Nat) (g : List D → R D) (ds : List D) : call_ n g (.ok ds) = if ds.length = n then g ds else .stuck := rfl
@[simp] theorem toI_ok (i : Int) : toI (.ok (.int i)) = .ok (some i) := rfl
@[simp] theorem o3_ok (f : D → Option Int → Option Int → R D) (d : D) (l u : Option Int) : o3 f (.ok d) (.ok l) (.ok u) = calm (f d l u) := rfl

section
variable {X : Cx} {E : XK} {K : PySem.W.Frag} {mg : Str → Option Value} {I I' H H' : Hp} {σ : L2.St} {ρ : Env} {a b c e : Expr} {es : List Expr} {pos p : Pos} {ma mb mc m : Env → R D} {mt mu : Env → R Bool} {ms : Env → R (List D)} {x : Str} {ta tb t : TE} {tt tu : TT} {tas tr : TA} {tl th : TO}

theorem out_calm {α β : Type} {rp : Hp → β → α → Prop} {r : R α} {Q : β → Hp → Prop} (h : Out K mg E rp I H (calm r) Q) : ∃ d, r = .ok d ∧ ∀ v I' H', Stp I H I' H' → rp I' v d → Q v H' := by
  cases r with
  | ok d => exact ⟨d, rfl, h⟩
  | err _ _ => exact h.elim
  | stuck => exact h.elim

theorem me_var (i : Nat) (hN : X.N[i]? = some x := by rfl) (hv : Vis X.env.scope x := by first | exact Or.inl rfl | exact Or.inr (Or.inl rfl) | exact Or.inr (Or.inr rfl)) (hd : (x == ("__debug__" : Str)) = false := by decide)
    (hcd : (x == ("__classdict__" : Str)) = false := by decide) : ME X E (.Name x pos) (tVar i) (fun ρ => get ρ i) := ⟨pe_var (i := i) hN hv hd hcd, fun σ I H ρ Q re ex h => by
  have h : Out X.K X.mg E (Rep X.K) I H (match ρ[i]? with | some (some d) => R.ok d | _ => .stuck) Q := h
  cases q : ρ[i]? with
  | none =>
    rw [q] at h
    exact h.elim
  | some o =>
    rw [q] at h
    cases o with
    | none => exact h.elim
    | some d =>
      obtain ⟨v, h1, h2⟩ := re.at_ i d q
      exact ⟨v, h1, h.here ex h2⟩⟩
theorem me_int {i : Int} {j} : ME X E (.Constant (.int i) j pos) (tC (.int i)) (fun _ => .ok (.int i)) := ⟨pe_int, fun _ _ _ _ _ _ ex h => h.here ex (.int i)⟩
theorem me_bl {i : Bool} {j} : ME X E (.Constant (.bool i) j pos) (tC (.bl i)) (fun _ => .ok (.bl i)) := ⟨pe_bl, fun _ _ _ _ _ _ ex h => h.here ex (.bl i)⟩
theorem me_non {j} : ME X E (.Constant .none j pos) (tC .non) (fun _ => .ok .non) := ⟨pe_non, fun _ _ _ _ _ _ ex h => h.here ex .non⟩
theorem me_str {i : Str} {j} : ME X E (.Constant (.str i) j pos) (tC (.str i)) (fun _ => .ok (.str i)) := ⟨pe_str, fun _ _ _ _ _ _ ex h => h.here ex (.str i)⟩

theorem me_op {op : Operator} {r : R2} {f : D → D → R D} (ho : OpR X (binaryOp op) r) (hs : RSn X.K r f) (ha : ME X E a ta ma) (hb : ME X E b tb mb) : ME X E (.BinOp a op b pos) (tOp r ta tb) (fun ρ => o2 f (ma ρ) (mb ρ)) := by
  obtain ⟨pa, sa⟩ := ha
  obtain ⟨pb, sb⟩ := hb
  refine ⟨pe_op ho pa pb, fun σ I H ρ Q re ex h => ?_⟩
  refine sa.run re ex h fun d v I1 H1 _ st rx h => ?_
  refine sb.run (re.mono st.i) st.e h fun d2 v2 I2 H2 _ st2 ry h => ?_
  obtain ⟨z, hz, h⟩ := out_calm h
  exact hs v v2 I2 H2 d d2 z Q st2.e (rx.mono st2.i) ry hz h
theorem me_un {op : UnaryOp} {r : V → Hp → VK → Prop} {f : D → R D} (ho : UnR X (unaryOp op) r) (hs : USn X.K r f) (ha : ME X E a ta ma) : ME X E (.UnaryOp op a pos) (tUn r ta) (fun ρ => o1 f (ma ρ)) := by
  obtain ⟨pa, sa⟩ := ha
  refine ⟨pe_un ho pa, fun σ I H ρ Q re ex h => ?_⟩
  refine sa.run re ex h fun d v I1 H1 _ st rx h => ?_
  obtain ⟨z, hz, h⟩ := out_calm h
  exact hs v I1 H1 d z Q st.e rx hz h
theorem me_cmp {op : CmpOp} {r : R2} {f : D → D → R D} (ho : OpR X (compareOp op) r) (hs : RSn X.K r f) (ha : ME X E a ta ma) (hb : ME X E b tb mb) (hm : behindInMarks op b = false := by first | exact nomark _ | rfl) :
    ME X E (.Compare a [op] [b] pos) (tOp r ta tb) (fun ρ => o2 f (ma ρ) (mb ρ)) := by
  obtain ⟨pa, sa⟩ := ha
  obtain ⟨pb, sb⟩ := hb
  refine ⟨pe_cmpR ho pa pb hm, fun σ I H ρ Q re ex h => ?_⟩
  refine sa.run re ex h fun d v I1 H1 _ st rx h => ?_
  refine sb.run (re.mono st.i) st.e h fun d2 v2 I2 H2 _ st2 ry h => ?_
  obtain ⟨z, hz, h⟩ := out_calm h
  exact hs v v2 I2 H2 d d2 z Q st2.e (rx.mono st2.i) ry hz h
/-- o[i] -/
theorem me_ix {r : R2} {f : D → D → R D} (ho : IxR X r) (hs : RSn X.K r f) (ha : ME X E a ta ma) (hb : ME X E b tb mb) (hp : PlainIx b := by exact fun _ _ => rfl) : ME X E (.Subscript a b pos) (tOp r ta tb) (fun ρ => o2 f (ma ρ) (mb ρ)) := by
  obtain ⟨pa, sa⟩ := ha
  obtain ⟨pb, sb⟩ := hb
  refine ⟨pe_ix ho pa pb hp, fun σ I H ρ Q re ex h => ?_⟩
  refine sa.run re ex h fun d v I1 H1 _ st rx h => ?_
  refine sb.run (re.mono st.i) st.e h fun d2 v2 I2 H2 _ st2 ry h => ?_
  obtain ⟨z, hz, h⟩ := out_calm h
  exact hs v v2 I2 H2 d d2 z Q st2.e (rx.mono st2.i) ry hz h

/-! ### tests -/
theorem mt_val (h : ME X E e t m) (he : ∀ whole, isTrue e X.env whole = (do let v ← whole; standAt e.pos; holding [v] (truthy v)) := by intro _; rfl) : MT X E e (tB t) (fun ρ => tst (m ρ)) := by
  obtain ⟨pt, st⟩ := h
  refine ⟨pt_val pt he, fun σ I H ρ Q re ex h => ?_⟩
  refine st.run re ex h fun d v I1 H1 _ st rx h => ?_
  cases rx with
  | bl k => exact ⟨k, rfl, h.here st.e rfl⟩
  | _ => exact h.elim
theorem mt_cmp {op : CmpOp} {r : R2} {f : D → D → R D} (ho : OpR X (compareOp op) r) (hs : RSn X.K r f) (ha : ME X E a ta ma) (hb : ME X E b tb mb) (hm : behindInMarks op b = false := by first | exact nomark _ | rfl) :
    MT X E (.Compare a [op] [b] pos) (tTest (tOp r ta tb)) (fun ρ => tst (o2 f (ma ρ) (mb ρ))) := by
  obtain ⟨pa, sa⟩ := ha
  obtain ⟨pb, sb⟩ := hb
  refine ⟨pt_cmpR ho pa pb hm, fun σ I H ρ Q re ex h => ?_⟩
  have h : Out X.K X.mg E rB I H (ma ρ >>= fun x => (mb ρ >>= fun y => calm (f x y)) >>= asB) Q := by
    have h : Out X.K X.mg E rB I H (tst (o2 f (ma ρ) (mb ρ))) Q := h
    cases e : ma ρ with
    | ok x =>
      rw [e] at h
      exact h
    | err _ _ =>
      rw [e] at h
      exact h
    | stuck =>
      rw [e] at h
      exact h
  refine sa.run re ex h fun d v I1 H1 _ st rx h => ?_
  have h : Out X.K X.mg E rB I1 H1 (mb ρ >>= fun y => calm (f d y) >>= asB) Q := by
    cases e : mb ρ with
    | ok x =>
      rw [e] at h
      exact h
    | err _ _ =>
      rw [e] at h
      exact h
    | stuck =>
      rw [e] at h
      exact h
  refine sb.run (re.mono st.i) st.e h fun d2 v2 I2 H2 _ st2 ry h => ?_
  cases hz : f d d2 with
  | err _ _ =>
    rw [hz] at h
    exact h.elim
  | stuck =>
    rw [hz] at h
    exact h.elim
  | ok z =>
    rw [hz] at h
    refine hs v v2 I2 H2 d d2 z _ st2.e (rx.mono st2.i) ry hz fun v3 I3 H3 st3 r3 => ?_
    cases r3 with
    | bl k => exact ⟨k, rfl, h.there st3 rfl⟩
    | _ => exact h.elim
theorem mt_not (h : MT X E a tt mt) : MT X E (.UnaryOp .Not a pos) (tNot tt) (fun ρ => tnot (mt ρ)) := by
  obtain ⟨pt, st⟩ := h
  refine ⟨pt_not pt, fun σ I H ρ Q re ex h => ?_⟩
  refine st.run re ex h fun d v I1 H1 _ st rx h => ?_
  cases rx
  exact h.here st.e rfl
theorem mw_and1 (h : MT X E a tt mt) : MW X E (.BoolOp .And [a] pos) tt mt := by
  obtain ⟨pt, st⟩ := h
  exact ⟨pw_and1 pt, st⟩
theorem mw_or1 (h : MT X E a tt mt) : MW X E (.BoolOp .Or [a] pos) tt mt := by
  obtain ⟨pt, st⟩ := h
  exact ⟨pw_or1 pt, st⟩
theorem mw_and {rest : List Expr} (h : MT X E a tt mt) (h2 : MW X E (.BoolOp .And (b :: rest) pos) tu mu) : MW X E (.BoolOp .And (a :: b :: rest) pos) (tAnd tt tu) (fun ρ => tand (mt ρ) (mu ρ)) := by
  obtain ⟨pt, st⟩ := h
  obtain ⟨pt2, st2⟩ := h2
  refine ⟨pw_and pt pt2, fun σ I H ρ Q re ex h => ?_⟩
  refine st.run re ex h fun d v I1 H1 _ st rx h => ?_
  cases rx
  cases d with
  | true => exact st2 σ I1 H1 ρ Q (re.mono st.i) st.e h
  | false => exact h.here st.e rfl
theorem mw_or {rest : List Expr} (h : MT X E a tt mt) (h2 : MW X E (.BoolOp .Or (b :: rest) pos) tu mu) : MW X E (.BoolOp .Or (a :: b :: rest) pos) (tOr tt tu) (fun ρ => tor (mt ρ) (mu ρ)) := by
  obtain ⟨pt, st⟩ := h
  obtain ⟨pt2, st2⟩ := h2
  refine ⟨pw_or pt pt2, fun σ I H ρ Q re ex h => ?_⟩
  refine st.run re ex h fun d v I1 H1 _ st rx h => ?_
  cases rx
  cases d with
  | true => exact h.here st.e rfl
  | false => exact st2 σ I1 H1 ρ Q (re.mono st.i) st.e h
/-- and, or, not as values -/
theorem me_one {op} (h : ME X E a ta ma) : ME X E (.BoolOp op [a] pos) ta ma := by
  obtain ⟨pt, st⟩ := h
  exact ⟨pe_one pt, st⟩
theorem me_and {rest : List Expr} (h : ME X E a ta ma) (h2 : ME X E (.BoolOp .And (b :: rest) pos) tb mb) : ME X E (.BoolOp .And (a :: b :: rest) pos) (tAndV ta tb) (fun ρ => vand (ma ρ) (mb ρ)) := by
  obtain ⟨pt, st⟩ := h
  obtain ⟨pt2, st2⟩ := h2
  refine ⟨pe_and pt pt2, fun σ I H ρ Q re ex h => ?_⟩
  refine st.run re ex h fun d v I1 H1 _ st rx h => ?_
  cases rx with
  | bl k =>
    refine ⟨k, rfl, ?_⟩
    cases k with
    | true => exact st2 σ I1 H1 ρ Q (re.mono st.i) st.e h
    | false => exact h.here st.e (.bl false)
  | _ => exact h.elim
theorem me_or {rest : List Expr} (h : ME X E a ta ma) (h2 : ME X E (.BoolOp .Or (b :: rest) pos) tb mb) : ME X E (.BoolOp .Or (a :: b :: rest) pos) (tOrV ta tb) (fun ρ => vor (ma ρ) (mb ρ)) := by
  obtain ⟨pt, st⟩ := h
  obtain ⟨pt2, st2⟩ := h2
  refine ⟨pe_or pt pt2, fun σ I H ρ Q re ex h => ?_⟩
  refine st.run re ex h fun d v I1 H1 _ st rx h => ?_
  cases rx with
  | bl k =>
    refine ⟨k, rfl, ?_⟩
    cases k with
    | true => exact h.here st.e (.bl true)
    | false => exact st2 σ I1 H1 ρ Q (re.mono st.i) st.e h
  | _ => exact h.elim
theorem me_not (h : ME X E a ta ma) : ME X E (.UnaryOp .Not a pos) (tNotV ta) (fun ρ => vnot (ma ρ)) := by
  obtain ⟨pt, st⟩ := h
  refine ⟨pe_not pt, fun σ I H ρ Q re ex h => ?_⟩
  refine st.run re ex h fun d v I1 H1 _ st rx h => ?_
  cases rx with
  | bl k => exact ⟨k, rfl, h.here st.e (.bl _)⟩
  | _ => exact h.elim
theorem me_if (hc : MT X E c tt mt) (ha : ME X E a ta ma) (hb : ME X E b tb mb) : ME X E (.IfExp c a b pos) (tIf tt ta tb) (fun ρ => ifv (mt ρ) (ma ρ) (mb ρ)) := by
  obtain ⟨pt, st⟩ := hc
  obtain ⟨pa, sa⟩ := ha
  obtain ⟨pb, sb⟩ := hb
  refine ⟨pe_ifExp pt pa pb, fun σ I H ρ Q re ex h => ?_⟩
  refine st.run re ex h fun d v I1 H1 _ st rx h => ?_
  have rx : v = d := rx
  subst rx
  cases v with
  | true => exact sa σ I1 H1 ρ Q (re.mono st.i) st.e h
  | false => exact sb σ I1 H1 ρ Q (re.mono st.i) st.e h
theorem mts_nil : MTs X E [] tYes (fun _ => .ok true) := ⟨pts_nil, fun σ I H ρ Q re ex h => h.here ex rfl⟩
theorem mts_one (h : MT X E c tt mt) : MTs X E [c] tt mt := by
  obtain ⟨pt, st⟩ := h
  exact ⟨pts_one pt, st⟩

/-! ### arguments, displays -/
theorem ma_nil : MA X E [] tNil (fun _ => .ok []) := ⟨pa_nil, fun σ I H ρ Q re ex h => h.here ex .nil⟩
theorem ma_cons (ha : ME X E e ta ma) (hr : MA X E es tr ms) (hs : starEach (e :: es) X.env = (false, eval e X.env) :: starEach es X.env := by rfl) : MA X E (e :: es) (tCons ta tr) (fun ρ => acons (ma ρ) (ms ρ)) := by
  obtain ⟨pt, st⟩ := ha
  obtain ⟨pt2, st2⟩ := hr
  refine ⟨pa_cons pt pt2 hs, fun σ I H ρ Q re ex h => ?_⟩
  refine st.run re ex h fun d v I1 H1 _ st rx h => ?_
  refine st2.run (re.mono st.i) st.e h fun ds vs I2 H2 _ st2 rs h => ?_
  exact h.here st2.e (.cons (rx.mono st2.i) rs)
def LIM : Nat := 1000000
theorem lim_ok {n : Nat} (h : n ≤ LIM) : n ≤ sizeLine := Nat.le_trans h (by decide)
theorem lim_lt {n : Nat} (h : n ≤ LIM) : n < sizeLine := Nat.lt_of_le_of_lt h (by decide)
theorem upd_rep {p : Addr} {o : HO} {vs : List V} {ds : List D} (e : Same I H) (h : H p = none) (r : Reps K I vs ds) : Reps K (upd I p o) vs ds := r.mono (Stp.new e h).i
theorem new_lst {p : Addr} {vs : List V} {ds : List D} (e : Same I H) (h : H p = none) (r : Reps K I vs ds) : Rep K (upd I p (.lst vs)) (.ref p) (.lst ds) := .lst upd_same (upd_rep e h r)
theorem new_tup {p : Addr} {vs : List V} {ds : List D} (e : Same I H) (h : H p = none) (r : Reps K I vs ds) : Rep K (upd I p (.tup vs)) (.ref p) (.tup ds) := .tup (SqT.of upd_same) (upd_rep e h r)
def lstD (ds : List D) : R D := if ds.length ≤ LIM then .ok (.lst ds) else .stuck
def tupD (ds : List D) : R D := if ds.length ≤ LIM then .ok (.tup ds) else .stuck
def dsp {α : Type} (f : List D → R α) (r : R (List D)) : R α := r >>= f
@[simp] theorem dsp_ok {α : Type} (f : List D → R α) (ds : List D) : dsp f (.ok ds) = f ds := rfl
theorem out_if {α β : Type} {rp : Hp → β → α → Prop} {c : Prop} [Decidable c] {r : R α} {Q : β → Hp → Prop} (h : Out K mg E rp I H (if c then r else .stuck) Q) : c ∧ Out K mg E rp I H r Q := by
  by_cases hc : c
  · rw [if_pos hc] at h
    exact ⟨hc, h⟩
  · rw [if_neg hc] at h
    exact h.elim
theorem me_tup {x1} (h : MA X E es tas ms) : ME X E (.Tuple es x1 pos) (tTup tas) (fun ρ => dsp tupD (ms ρ)) := by
  obtain ⟨pt, st⟩ := h
  refine ⟨pe_tup pt, fun σ I H ρ Q re ex h => ?_⟩
  refine st.run re ex h fun ds vs I1 H1 _ st rx h => ?_
  obtain ⟨hl, h⟩ := out_if h
  exact ⟨lim_ok (by rw [rx.len]; exact hl), fun p hp => h.there (.new st.e hp) (new_tup st.e hp rx)⟩
theorem me_lst (h : MA X E es tas ms) : ME X E (.List es pos) (tLst tas) (fun ρ => dsp lstD (ms ρ)) := by
  obtain ⟨pt, st⟩ := h
  refine ⟨pe_lst pt, fun σ I H ρ Q re ex h => ?_⟩
  refine st.run re ex h fun ds vs I1 H1 _ st rx h => ?_
  obtain ⟨hl, h⟩ := out_if h
  exact ⟨lim_ok (by rw [rx.len]; exact hl), fun p hp => h.there (.new st.e hp) (new_lst st.e hp rx)⟩

/-! ### calls of built-ins -/
theorem me_callB {id : String} {r : List V → Hp → VK → Prop} {f : List D → R D} (hc : CallR X (.builtin id) r) (hs : CSn X.K r f) (hg : Gl X x) (hm : X.mg x = none) (hv : bootBuiltins x = some (.builtin id)) (ha : MA X E (e :: es) tas ms) (hn : x ≠ "__name__" := by decide) (hdb : (x == ("__debug__" : Str)) = false := by decide)
    (he : starEach (e :: es) X.env = (false, eval e X.env) :: starEach es X.env := by rfl) (hpl : (backTo pos (starEach es X.env)).any (·.1) = false := by rfl) : ME X E (.Call (.Name x p) (e :: es) [] pos) (tCB r tas) (fun ρ => cbf f (ms ρ)) := by
  obtain ⟨pt, st⟩ := ha
  refine ⟨pe_callB hc hg hm hv pt hn hdb he hpl, fun σ I H ρ Q re ex h => ?_⟩
  refine st.run re ex h fun ds vs I1 H1 _ st rx h => ?_
  obtain ⟨z, hz, h⟩ := out_calm h
  exact hs vs I1 H1 ds z Q st.e rx hz h
theorem me_callTy {T : String} {r : List V → Hp → VK → Prop} {f : List D → R D} (hc : CallR X (.type T) r) (hs : CSn X.K r f) (hg : Gl X x) (hm : X.mg x = none) (hv : bootBuiltins x = some (.type T)) (ha : MA X E (e :: es) tas ms) (hn : x ≠ "__name__" := by decide) (hdb : (x == ("__debug__" : Str)) = false := by decide)
    (he : starEach (e :: es) X.env = (false, eval e X.env) :: starEach es X.env := by rfl) (hpl : (backTo pos (starEach es X.env)).any (·.1) = false := by rfl) : ME X E (.Call (.Name x p) (e :: es) [] pos) (tCB r tas) (fun ρ => cbf f (ms ρ)) := by
  obtain ⟨pt, st⟩ := ha
  refine ⟨pe_callTy hc hg hm hv pt hn hdb he hpl, fun σ I H ρ Q re ex h => ?_⟩
  refine st.run re ex h fun ds vs I1 H1 _ st rx h => ?_
  obtain ⟨z, hz, h⟩ := out_calm h
  exact hs vs I1 H1 ds z Q st.e rx hz h

/-! ### calls of one's own -/
/-- what a def promises: f of the arguments' data -/
def spOf (K : PySem.W.Frag) (mg : Str → Option Value) (n : Nat) (f : List D → R D) : Sp := fun vs H Q E => ∃ I ds, ds.length = n ∧ Same I H ∧ Reps K I vs ds ∧ Out K mg E (Rep K) I H (f ds) Q
theorem spOf.len {n : Nat} {f : List D → R D} {vs : List V} {Q : VK} (h : spOf K mg n f vs H Q E) : vs.length = n := by
  obtain ⟨I, ds, hl, _, r, _⟩ := h
  exact r.len.trans hl
theorem me_call {CX : CXT} {k n : Nat} {f : Addr} {fd : FuncData} {ps : List Str} {g : List D → R D} (F : FnOk X.prog X.w X.K X.mg X.base CX k f fd ps (spOf X.K X.mg n g)) (hr : Room k X.A) (hg : Gl X x) (hm : X.mg x = some (.ref f)) (hk : PySem.W.keepIn X.K (.ref f) = true) (hb : Binds X.K fd ps []) (hx : Passes CX X E)
    (ha : MA X E (e :: es) tas ms) (hdb : (x == ("__debug__" : Str)) = false := by decide) (he : starEach (e :: es) X.env = (false, eval e X.env) :: starEach es X.env := by rfl) (hpl : (backTo pos (starEach es X.env)).any (·.1) = false := by rfl) :
    ME X E (.Call (.Name x p) (e :: es) [] pos) (tCall (spOf X.K X.mg n g) [] E tas) (fun ρ => call_ n g (ms ρ)) := by
  obtain ⟨pt, st⟩ := ha
  refine ⟨pe_call F hr hg hm hk hb .nil hx pt hdb he hpl, fun σ I H ρ Q re ex h => ?_⟩
  refine st.run re ex h fun ds vs I1 H1 _ st rx h => ?_
  obtain ⟨hl, h⟩ := out_if h
  refine ⟨I1, ds, hl, st.e, ?_, h⟩
  rw [List.append_nil]
  exact rx

/-! ### slices -/
theorem mo_none : MO X E none tNoPart (fun _ => .ok none) := ⟨po_none, fun σ I H ρ Q re ex h => h.here ex rfl⟩
theorem mo_some (h : ME X E e t m) : MO X E (some e) (tPart t) (fun ρ => toI (m ρ)) := by
  obtain ⟨pt, st⟩ := h
  refine ⟨po_some pt, fun σ I H ρ Q re ex h => ?_⟩
  refine st.run re ex h fun d v I1 H1 _ st rx h => ?_
  cases rx with
  | int i => exact ⟨i, rfl, h.here st.e rfl⟩
  | _ => exact h.elim
def SSn (K : PySem.W.Frag) (r : V → Option Int → Option Int → Hp → VK → Prop) (f : D → Option Int → Option Int → R D) : Prop :=
  ∀ (x : V) (lo hi : Option Int) (I H : Hp) (dx d : D) (Q : VK), Same I H → Rep K I x dx → f dx lo hi = .ok d → (∀ v I' H', Stp I H I' H' → Rep K I' v d → Q v H') → r x lo hi H Q
theorem me_slice {lo hi : Option Expr} {p2 : Pos} {r : V → Option Int → Option Int → Hp → VK → Prop} {f : D → Option Int → Option Int → R D} {ml mh : Env → R (Option Int)} (hr : SlR X r) (hs : SSn X.K r f) (ha : ME X E a ta ma) (hl : MO X E lo tl ml) (hh : MO X E hi th mh) :
    ME X E (.Subscript a (.Slice lo hi none p2) pos) (tSl r ta tl th) (fun ρ => o3 f (ma ρ) (ml ρ) (mh ρ)) := by
  obtain ⟨pt, st⟩ := ha
  obtain ⟨pl, sl⟩ := hl
  obtain ⟨ph, sh⟩ := hh
  refine ⟨pe_slice hr pt pl ph, fun σ I H ρ Q re ex h => ?_⟩
  refine st.run re ex h fun d v I1 H1 _ s1 rx h => ?_
  refine sl.run (re.mono s1.i) s1.e h fun l l' I2 H2 _ s2 e1 h => ?_
  cases e1
  refine sh.run ((re.mono s1.i).mono s2.i) s2.e h fun u u' I3 H3 _ s3 e2 h => ?_
  cases e2
  obtain ⟨z, hz, h⟩ := out_calm h
  exact hs v _ _ I3 H3 d z Q s3.e ((rx.mono s2.i).mono s3.i) hz h
end
end DL
namespace DL
open PySem PySem.Spec L2

/-! ### data as the library's data, for == -/
mutual
def D.py : D → PyData
  | .non => .none
  | .bl b => .bool b
  | .int i => .int i
  | .str x => .str x
  | .lst ds => .list (D.pys ds)
  | .tup ds => .tuple (D.pys ds)
  | .scr _ => .none
  | .rng _ _ => .none
  | .ty _ => .none
def D.pys : List D → List PyData
  | [] => []
  | d :: ds => D.py d :: D.pys ds
end
/-- of at most that depth, no script in it, short texts -/
def D.fine : Nat → D → Bool
  | _, .non => true
  | _, .bl _ => true
  | _, .int _ => true
  | _, .str x => PyData.canLay0 (.str x)
  | 0, .lst ds => ds.isEmpty
  | 0, .tup ds => ds.isEmpty
  | n + 1, .lst ds => ds.all (D.fine n)
  | n + 1, .tup ds => ds.all (D.fine n)
  | _, .scr _ => false
  | _, .rng _ _ => false
  | _, .ty _ => false
mutual
theorem D.fine_lay : ∀ (n : Nat) (d : D), d.fine n = true → PyData.canLay0 d.py = true ∧ PyData.depth d.py ≤ n + 1
  | n, .non, _ => ⟨rfl, Nat.zero_le _⟩
  | n, .bl _, _ => ⟨rfl, Nat.zero_le _⟩
  | n, .int _, _ => ⟨rfl, Nat.zero_le _⟩
  | n, .str x, h => ⟨by
      have h : PyData.canLay0 (.str x) = true := by cases n <;> exact h
      exact h, Nat.zero_le _⟩
  | 0, .lst [], h => ⟨rfl, Nat.le_refl _⟩
  | 0, .lst (_ :: _), h => nomatch h
  | 0, .tup [], h => ⟨rfl, Nat.le_refl _⟩
  | 0, .tup (_ :: _), h => nomatch h
  | n + 1, .lst ds, h => by
    obtain ⟨a, b⟩ := D.fine_lays n ds h
    exact ⟨a, Nat.succ_le_succ b⟩
  | n + 1, .tup ds, h => by
    obtain ⟨a, b⟩ := D.fine_lays n ds h
    exact ⟨a, Nat.succ_le_succ b⟩
  | n, .scr _, h => by cases n <;> cases h
  | n, .rng _ _, h => by cases n <;> cases h
  | n, .ty _, h => by cases n <;> cases h
theorem D.fine_lays : ∀ (n : Nat) (ds : List D), ds.all (D.fine n) = true → PyData.canLayAll0 (D.pys ds) = true ∧ PyData.depthAll (D.pys ds) ≤ n + 1
  | n, [], _ => ⟨rfl, Nat.zero_le _⟩
  | n, d :: ds, h => by
    rw [List.all_cons, Bool.and_eq_true] at h
    obtain ⟨a, b⟩ := D.fine_lay n d h.1
    obtain ⟨a', b'⟩ := D.fine_lays n ds h.2
    refine ⟨?_, ?_⟩
    · show (PyData.canLay0 d.py && PyData.canLayAll0 (D.pys ds)) = true
      rw [a, a']
      rfl
    · show max (PyData.depth d.py) (PyData.depthAll (D.pys ds)) ≤ n + 1
      exact Nat.max_le.mpr ⟨b, b'⟩
end
theorem D.fine_shaped {d : D} (h : d.fine 60 = true) : SeqAt.shaped d.py = true := by
  obtain ⟨a, b⟩ := D.fine_lay 60 d h
  show (PyData.canLay0 d.py && decide (PyData.depth d.py ≤ 64)) = true
  rw [a, decide_eq_true (show PyData.depth d.py ≤ 64 by omega)]
  rfl
mutual
theorem Rep.dp {K : PySem.W.Frag} {H : Hp} : ∀ (n : Nat) {v : V} {d : D}, Rep K H v d → d.fine n = true → Dp K H v d.py
  | _, _, _, .non, _ => .non
  | _, _, _, .bl b, _ => .bl b
  | _, _, _, .int i, _ => .int i
  | _, _, _, .str x, _ => .str x
  | 0, _, .lst [], .lst h r, _ => .lst (SqL.of h) (by cases r; exact .nil)
  | 0, _, .lst (_ :: _), .lst h r, q => nomatch q
  | 0, _, .tup [], .tup h r, _ => .tup h (by cases r; exact .nil)
  | 0, _, .tup (_ :: _), .tup h r, q => nomatch q
  | n + 1, _, .lst _, .lst h r, q => .lst (SqL.of h) (Reps.dp n r q)
  | n + 1, _, .tup _, .tup h r, q => .tup h (Reps.dp n r q)
  | n, _, _, .scr h, q => by cases n <;> cases q
  | n, _, _, .rng h, q => by cases n <;> cases q
  | n, _, _, .ty _, q => by cases n <;> cases q
theorem Reps.dp {K : PySem.W.Frag} {H : Hp} : ∀ (n : Nat) {vs : List V} {ds : List D}, Reps K H vs ds → ds.all (D.fine n) = true → DpAll K H vs (D.pys ds)
  | _, _, _, .nil, _ => .nil
  | n, _, d :: ds, .cons a r, q => by
    rw [List.all_cons, Bool.and_eq_true] at q
    exact .cons (Rep.dp n a q.1) (Reps.dp n r q.2)
end

/-! ### operators -/
theorem OpR.or {X : Cx} {f : Value → Value → Sem Value} {r r' : R2} (h : OpR X f r) (h' : OpR X f r') : OpR X f (fun x y H Q => r x y H Q ∨ r' x y H Q) := by
  intro pins s σ H x y v u Q I rx ry q
  rcases q with q | q
  · exact h pins s σ H x y v u Q I rx ry q
  · exact h' pins s σ H x y v u Q I rx ry q
def gd (c : Prop) [Decidable c] (d : D) : R D := if c then .ok d else .stuck
theorem gd_of {c : Prop} [Decidable c] {d e : D} (h : gd c d = .ok e) : c ∧ d = e := by
  unfold gd at h
  by_cases hc : c
  · rw [if_pos hc] at h
    cases h
    exact ⟨hc, rfl⟩
  · rw [if_neg hc] at h
    cases h
theorem gd_ok {c : Prop} [Decidable c] {d : D} (h : c) : gd c d = .ok d := if_pos h

def addD : D → D → R D
  | .int i, .int j => .ok (.int (i + j))
  | .str x, .str y => gd (x.length + y.length ≤ LIM) (.str (x ++ y))
  | .lst xs, .lst ys => gd (xs.length + ys.length ≤ LIM) (.lst (xs ++ ys))
  | .tup xs, .tup ys => gd (xs.length + ys.length ≤ LIM) (.tup (xs ++ ys))
  | _, _ => .stuck
def rAddX (K : PySem.W.Frag) : R2 := fun x y H Q => rI0 (fun i j => .int (i + j)) x y H Q ∨ (rCat x y H Q ∨ (rCatA K x y H Q ∨ (∃ i j, x = .str i ∧ y = .str j ∧ i.length + j.length ≤ sizeLine ∧ Q (.str (i ++ j)) H)))
theorem op_addX {X : Cx} : OpR X (binaryOp .Add) (rAddX X.K) := OpR.or op_add (OpR.or op_cat (OpR.or op_catA op_add_str))
theorem rs_add {K : PySem.W.Frag} : RSn K (rAddX K) addD := by
  intro x y I H dx dy d Q ex rx ry h q
  cases rx with
  | int i =>
    cases ry with
    | int j =>
      cases h
      exact .inl ⟨i, j, rfl, rfl, q _ _ _ (.refl ex) (.int _)⟩
    | _ => cases h
  | str i =>
    cases ry with
    | str j =>
      obtain ⟨hl, rfl⟩ := gd_of h
      exact .inr (.inr (.inr ⟨i, j, rfl, rfl, lim_ok hl, q _ _ _ (.refl ex) (.str _)⟩))
    | _ => cases h
  | @lst a vs ds ha ra =>
    cases ry with
    | @lst b ws es hb rb =>
      obtain ⟨hl, rfl⟩ := gd_of h
      refine .inr (.inl ⟨a, b, vs, ws, rfl, rfl, ex _ _ ha, ex _ _ hb, lim_ok (by rw [ra.len, rb.len]; exact hl), fun p hp => q _ _ _ (.new ex hp) (new_lst ex hp (ra.app rb))⟩)
    | _ => cases h
  | @tup a vs ds ha ra =>
    cases ry with
    | @tup b ws es hb rb =>
      obtain ⟨hl, rfl⟩ := gd_of h
      refine .inr (.inr (.inl ⟨a, b, vs, ws, rfl, rfl, same_t ex ha, same_t ex hb, lim_ok (by rw [ra.len, rb.len]; exact hl), fun e => ?_, fun _ e => ?_, fun _ _ p hp => q _ _ _ (.new ex hp) (new_tup ex hp (ra.app rb))⟩))
      · subst e
        cases ra
        exact q _ _ _ (.refl ex) (.tup hb rb)
      · subst e
        cases rb
        rw [List.append_nil] at q
        exact q _ _ _ (.refl ex) (.tup ha ra)
    | _ => cases h
  | _ => cases h
def subD : D → D → R D
  | .int i, .int j => .ok (.int (i - j))
  | _, _ => .stuck
/-- a number or a list as the left one; one factor small -/
def mulD : D → D → R D
  | .int i, .int j => gd ((-(2 ^ 64) < i ∧ i < 2 ^ 64) ∨ (-(2 ^ 64) < j ∧ j < 2 ^ 64)) (.int (i * j))
  | .lst xs, .int k => gd (0 ≤ k ∧ k ≤ LIM ∧ xs.length * k.toNat ≤ LIM) (.lst (List.replicate k.toNat xs).flatten)
  | _, _ => .stuck
def modD : D → D → R D
  | .int i, .int j => gd (0 < j) (.int (i % j))
  | _, _ => .stuck
def fdivD : D → D → R D
  | .int i, .int j => gd (0 < j ∧ j < 1073741824) (.int (i / j))
  | _, _ => .stuck
def powD : D → D → R D
  | .int i, .int j => gd (0 ≤ j ∧ j ≤ 1000000 ∧ i.natAbs < 2 ^ 64) (.int (i ^ j.toNat))
  | _, _ => .stuck
def negD : D → R D
  | .int i => .ok (.int (-i))
  | _ => .stuck
theorem rs_I0 {K : PySem.W.Frag} {g : Int → Int → V} {gd' : Int → Int → D} {f : D → D → R D} (hg : ∀ I i j, Rep K I (g i j) (gd' i j)) (hf : ∀ i j, f (.int i) (.int j) = .ok (gd' i j)) (hn : ∀ dx dy d, f dx dy = .ok d → ∃ i j, dx = .int i ∧ dy = .int j) : RSn K (rI0 g) f := by
  intro x y I H dx dy d Q ex rx ry h q
  obtain ⟨i, j, rfl, rfl⟩ := hn _ _ _ h
  cases rx
  cases ry
  rw [hf] at h
  cases h
  exact ⟨i, j, rfl, rfl, q _ _ _ (.refl ex) (hg _ _ _)⟩
theorem rs_I {K : PySem.W.Frag} {C : Int → Int → Prop} {g : Int → Int → V} {gd' : Int → Int → D} {f : D → D → R D} (hg : ∀ I i j, Rep K I (g i j) (gd' i j)) (hf : ∀ i j d, f (.int i) (.int j) = .ok d → C i j ∧ d = gd' i j) (hn : ∀ dx dy d, f dx dy = .ok d → ∃ i j, dx = .int i ∧ dy = .int j) : RSn K (rI C g) f := by
  intro x y I H dx dy d Q ex rx ry h q
  obtain ⟨i, j, rfl, rfl⟩ := hn _ _ _ h
  cases rx
  cases ry
  obtain ⟨hc, rfl⟩ := hf _ _ _ h
  exact ⟨i, j, rfl, rfl, hc, q _ _ _ (.refl ex) (hg _ _ _)⟩
theorem rs_sub {K : PySem.W.Frag} : RSn K (rI0 fun i j => .int (i - j)) subD := rs_I0 (gd' := fun i j => .int (i - j)) (fun _ _ _ => .int _) (fun _ _ => rfl) fun dx dy d h => by
  cases dx <;> cases dy <;> first | exact ⟨_, _, rfl, rfl⟩ | cases h
def rMulX : R2 := fun x y H Q => rI CMul (fun i j => .int (i * j)) x y H Q ∨ rRep x y H Q
theorem op_mulX {X : Cx} : OpR X (binaryOp .Mult) rMulX := OpR.or op_mul op_rep
theorem Reps.rep {K : PySem.W.Frag} {I : Hp} {vs : List V} {ds : List D} (r : Reps K I vs ds) : ∀ n : Nat, Reps K I (List.replicate n vs).flatten (List.replicate n ds).flatten
  | 0 => .nil
  | n + 1 => by
    rw [List.replicate_succ, List.replicate_succ, List.flatten_cons, List.flatten_cons]
    exact r.app (Reps.rep r n)
theorem rs_mul {K : PySem.W.Frag} : RSn K rMulX mulD := by
  intro x y I H dx dy d Q ex rx ry h q
  cases rx with
  | int i =>
    cases ry with
    | int j =>
      obtain ⟨hl, rfl⟩ := gd_of h
      exact .inl ⟨i, j, rfl, rfl, hl, q _ _ _ (.refl ex) (.int _)⟩
    | _ => cases h
  | @lst a vs ds ha ra =>
    cases ry with
    | int k =>
      obtain ⟨⟨h0, h1, h2⟩, rfl⟩ := gd_of h
      have h1 : k ≤ 1000000 := h1
      exact .inr ⟨a, k, vs, rfl, rfl, ex _ _ ha, by omega, by omega, lim_ok (by rw [ra.len]; exact h2), fun p hp => q _ _ _ (.new ex hp) (new_lst ex hp (ra.rep _))⟩
    | _ => cases h
  | _ => cases h
theorem rs_mod {K : PySem.W.Frag} : RSn K (rI (fun _ j => 0 < j) fun i j => .int (i % j)) modD := rs_I (gd' := fun i j => .int (i % j)) (fun _ _ _ => .int _) (fun i j d h => (gd_of h).imp id Eq.symm) fun dx dy d h => by
  cases dx <;> cases dy <;> first | exact ⟨_, _, rfl, rfl⟩ | cases h
theorem rs_fdiv {K : PySem.W.Frag} : RSn K (rI CDiv fun i j => .int (i / j)) fdivD := rs_I (gd' := fun i j => .int (i / j)) (fun _ _ _ => .int _) (fun i j d h => (gd_of h).imp id Eq.symm) fun dx dy d h => by
  cases dx <;> cases dy <;> first | exact ⟨_, _, rfl, rfl⟩ | cases h
theorem rs_pow {K : PySem.W.Frag} : RSn K (rI CPow fun i j => .int (i ^ j.toNat)) powD := rs_I (gd' := fun i j => .int (i ^ j.toNat)) (fun _ _ _ => .int _) (fun i j d h => (gd_of h).imp id Eq.symm) fun dx dy d h => by
  cases dx <;> cases dy <;> first | exact ⟨_, _, rfl, rfl⟩ | cases h
theorem us_neg {K : PySem.W.Frag} : USn K (rU fun i => .int (-i)) negD := by
  intro x I H dx d Q ex rx h q
  cases rx with
  | int i =>
    cases h
    exact ⟨i, rfl, q _ _ _ (.refl ex) (.int _)⟩
  | _ => cases h

/-! ### comparisons -/
def lexI : List Int → List Int → Bool := HT.lexLt
def intsOf : List D → Option (List Int)
  | [] => some []
  | .int i :: ds => (intsOf ds).map (i :: ·)
  | _ :: _ => none
theorem intsOf_map (ns : List Int) : intsOf (ns.map D.int) = some ns := by
  induction ns with
  | nil => rfl
  | cons n ns ih => rw [List.map_cons, intsOf, ih]; rfl
theorem reps_ints {K : PySem.W.Frag} {I : Hp} : ∀ {vs : List V} {ds : List D} {ns : List Int}, Reps K I vs ds → intsOf ds = some ns → vs = ns.map V.int ∧ ds = ns.map D.int
  | _, _, ns, .nil, h => by
    cases h
    exact ⟨rfl, rfl⟩
  | _, _, ns, .cons (d := d) (ds := ds) a r, h => by
    cases a with
    | int i =>
      cases e : intsOf ds with
      | none =>
        rw [intsOf, e] at h
        cases h
      | some ms =>
        rw [intsOf, e] at h
        cases h
        obtain ⟨a, b⟩ := reps_ints r e
        rw [a, b]
        exact ⟨rfl, rfl⟩
    | _ => cases h
def ltD : D → D → R D
  | .int i, .int j => .ok (.bl (decide (i < j)))
  | .tup xs, .tup ys => match intsOf xs, intsOf ys with
    | some ns, some ms => .ok (.bl (HT.lexLt ns ms))
    | _, _ => .stuck
  | _, _ => .stuck
def leD : D → D → R D
  | .int i, .int j => .ok (.bl (decide (i ≤ j)))
  | _, _ => .stuck
def gtD : D → D → R D
  | .int i, .int j => .ok (.bl (decide (j < i)))
  | _, _ => .stuck
def geD : D → D → R D
  | .int i, .int j => .ok (.bl (decide (j ≤ i)))
  | _, _ => .stuck
theorem rs_le {K : PySem.W.Frag} : RSn K (rI0 fun i j => .bl (decide (i ≤ j))) leD := rs_I0 (gd' := fun i j => .bl (decide (i ≤ j))) (fun _ _ _ => .bl _) (fun _ _ => rfl) fun dx dy d h => by
  cases dx <;> cases dy <;> first | exact ⟨_, _, rfl, rfl⟩ | cases h
theorem rs_gt {K : PySem.W.Frag} : RSn K (rI0 fun i j => .bl (decide (j < i))) gtD := rs_I0 (gd' := fun i j => .bl (decide (j < i))) (fun _ _ _ => .bl _) (fun _ _ => rfl) fun dx dy d h => by
  cases dx <;> cases dy <;> first | exact ⟨_, _, rfl, rfl⟩ | cases h
theorem rs_ge {K : PySem.W.Frag} : RSn K (rI0 fun i j => .bl (decide (j ≤ i))) geD := rs_I0 (gd' := fun i j => .bl (decide (j ≤ i))) (fun _ _ _ => .bl _) (fun _ _ => rfl) fun dx dy d h => by
  cases dx <;> cases dy <;> first | exact ⟨_, _, rfl, rfl⟩ | cases h
def rLtX (K : PySem.W.Frag) : R2 := fun x y H Q => rI0 (fun i j => .bl (decide (i < j))) x y H Q ∨ rLtT K x y H Q
theorem op_ltX {X : Cx} {k : Nat} (hr : Room k X.A) : OpR X (compareOp .Lt) (rLtX X.K) := OpR.or op_lt (op_ltT hr.units0)
theorem rs_lt {K : PySem.W.Frag} : RSn K (rLtX K) ltD := by
  intro x y I H dx dy d Q ex rx ry h q
  cases rx with
  | int i =>
    cases ry with
    | int j =>
      cases h
      exact .inl ⟨i, j, rfl, rfl, q _ _ _ (.refl ex) (.bl _)⟩
    | _ => cases h
  | @tup a vs ds ha ra =>
    cases ry with
    | @tup b ws es hb rb =>
      have h : (match intsOf ds, intsOf es with | some ns, some ms => R.ok (.bl (HT.lexLt ns ms)) | _, _ => .stuck) = R.ok d := h
      cases e1 : intsOf ds with
      | none =>
        rw [e1] at h
        cases h
      | some ns =>
        cases e2 : intsOf es with
        | none =>
          rw [e1, e2] at h
          cases h
        | some ms =>
          rw [e1, e2] at h
          cases h
          obtain ⟨rfl, _⟩ := reps_ints ra e1
          obtain ⟨rfl, _⟩ := reps_ints rb e2
          exact .inr ⟨a, b, ns, ms, rfl, rfl, same_t ex ha, same_t ex hb, q _ _ _ (.refl ex) (.bl _)⟩
    | _ => cases h
  | _ => cases h
def eqD : D → D → R D
  | .int i, .int j => .ok (.bl (decide (i = j)))
  | .non, .non => .ok (.bl true)
  | d, e => gd (d.fine 60 = true ∧ e.fine 60 = true) (.bl (PyData.eqv d.py e.py))
def notD : R D → R D
  | .ok (.bl b) => .ok (.bl !b)
  | _ => .stuck
def neD (d e : D) : R D := notD (eqD d e)
theorem eqD_of {d e r : D} (h : eqD d e = .ok r) : d.fine 60 = true ∧ e.fine 60 = true ∧ r = .bl (PyData.eqv d.py e.py) := by
  unfold eqD at h
  split at h
  · cases h
    refine ⟨rfl, rfl, ?_⟩
    congr 1
  · cases h
    exact ⟨rfl, rfl, rfl⟩
  · obtain ⟨⟨a, b⟩, c⟩ := gd_of h
    exact ⟨a, b, c.symm⟩
theorem rs_eq {K : PySem.W.Frag} : RSn K (rEqD K) eqD := by
  intro x y I H dx dy d Q ex rx ry h q
  obtain ⟨a, b, rfl⟩ := eqD_of h
  exact ⟨_, _, (rx.mono ex).dp _ a, (ry.mono ex).dp _ b, D.fine_shaped a, D.fine_shaped b, q _ _ _ (.refl ex) (.bl _)⟩
theorem rs_ne {K : PySem.W.Frag} : RSn K (rNeD K) neD := by
  intro x y I H dx dy d Q ex rx ry h q
  unfold neD at h
  cases e : eqD dx dy with
  | ok r =>
    obtain ⟨a, b, rfl⟩ := eqD_of e
    rw [e] at h
    cases h
    exact ⟨_, _, (rx.mono ex).dp _ a, (ry.mono ex).dp _ b, D.fine_shaped a, D.fine_shaped b, q _ _ _ (.refl ex) (.bl _)⟩
  | err _ _ =>
    rw [e] at h
    cases h
  | stuck =>
    rw [e] at h
    cases h
end DL
namespace DL
open PySem PySem.Spec L2

/-! ### in -/
theorem cr_range1 {X : Cx} : CallR X (.type "range") (fun vs H Q => ∃ j, vs = [V.int j] ∧ ∀ p, H p = none → Q (.ref p) (upd H p (.rng 0 j))) := by
  intro pins s σ H vs us Q I r h
  obtain ⟨j, rfl, q⟩ := h
  obtain ⟨u1, rfl, rj⟩ := vals1 r
  obtain ⟨u, rfl⟩ := rj
  refine PySem.call_range_1 ⟨.ref s.heap.objs.size, upd H s.heap.objs.size (.rng 0 j), I.laid (t' := s.toks + 2) (fun b o e => Heap.get?_push_of_some _ e) (Nat.le_refl _) ?_, rfl, q _ (I.hok.fresh (Nat.le_refl _))⟩
  exact ⟨_, _, _, Heap.get?_push_size _ rfl⟩
theorem op_notIn_rng {X : Cx} : OpR X (compareOp .NotIn) (fun x y H Q => ∃ i a lo hi, x = V.int i ∧ y = V.ref a ∧ H a = some (.rng lo hi) ∧ Q (.bl (!decide (lo ≤ i ∧ i < hi))) H) := by
  intro pins s σ H x y v u Q I rx ry h
  obtain ⟨i, a, lo, hi, rfl, rfl, ha, q⟩ := h
  obtain ⟨k, rfl⟩ := rx
  obtain rfl : u = Value.ref a := ry
  obtain ⟨t1, t2, t3, ho⟩ := I.hok a _ ha
  show wpAny _ _ (do return Value.bool (!(← contains (Value.ref a) (Value.int i k)))) _ _ s
  refine wpAny_bind (wpAny_contains_slot (T := "range") ⟨_, ho, rfl⟩ F.slot_range_contains (call_meets F.slot_range_contains ⟨_, ho, rfl⟩ F.entry_range_contains (F.args_range_contains_2 _ _) (q_contains a lo hi i t1 t2 t3 k)
    ⟨ho, wpAny_truthy_bool (wpAny_pure ⟨.bl _, H, I, rfl, ?_⟩)⟩))
  rw [place1]
  exact q
def D.flat : D → Bool
  | .non => true
  | .bl _ => true
  | .int _ => true
  | .str _ => true
  | _ => false
def eqF : D → D → Bool
  | .non, .non => true
  | .bl a, .bl b => a == b
  | .bl a, .int b => (if a then 1 else 0) == b
  | .int a, .bl b => a == (if b then 1 else 0)
  | .int a, .int b => a == b
  | .str a, .str b => a == b
  | _, _ => false
def inB (x : D) (ds : List D) : Bool := ds.any fun y => eqF y x
def inD : D → D → R D
  | x, .lst ds => gd (x.flat = true ∧ ds.all D.flat = true) (.bl (inB x ds))
  | x, .tup ds => gd (x.flat = true ∧ ds.all D.flat = true) (.bl (inB x ds))
  | .int i, .rng lo hi => .ok (.bl (decide (lo ≤ i ∧ i < hi)))
  | _, _ => .stuck
def notInD (x y : D) : R D := notD (inD x y)
theorem Rep.flat {K : PySem.W.Frag} {I : Hp} {v : V} {d : D} (r : Rep K I v d) (h : d.flat = true) : flatV v = true := by
  cases r <;> first | rfl | cases h
theorem Rep.eqF {K : PySem.W.Frag} {I : Hp} {v w : V} {d e : D} (r : Rep K I v d) (q : Rep K I w e) (h : d.flat = true) (h2 : e.flat = true) : eqV v w = eqF d e := by
  cases r <;> cases q <;> first | rfl | cases h | cases h2
theorem Reps.flat {K : PySem.W.Frag} {I : Hp} : ∀ {vs : List V} {ds : List D}, Reps K I vs ds → ds.all D.flat = true → vs.all flatV = true
  | _, _, .nil, _ => rfl
  | _, _, .cons a r, h => by
    rw [List.all_cons, Bool.and_eq_true] at h
    rw [List.all_cons, a.flat h.1, Reps.flat r h.2]
    rfl
theorem Reps.inB {K : PySem.W.Frag} {I : Hp} {x : V} {d : D} (rx : Rep K I x d) (hx : d.flat = true) : ∀ {vs : List V} {ds : List D}, Reps K I vs ds → ds.all D.flat = true → inV x vs = inB d ds
  | _, _, .nil, _ => rfl
  | _, _, .cons (v := v) (vs := vs) (d := e) (ds := ds) a r, h => by
    rw [List.all_cons, Bool.and_eq_true] at h
    have ih := Reps.inB rx hx r h.2
    show (eqV v x || vs.any fun y => eqV y x) = (DL.eqF e d || ds.any fun y => DL.eqF y d)
    rw [a.eqF rx h.1 hx]
    exact congrArg _ ih
def rInX (K : PySem.W.Frag) : R2 := fun x y H Q => rIn K false x y H Q ∨ (∃ i a lo hi, x = V.int i ∧ y = V.ref a ∧ H a = some (.rng lo hi) ∧ Q (.bl (decide (lo ≤ i ∧ i < hi))) H)
def rNinX (K : PySem.W.Frag) : R2 := fun x y H Q => rIn K true x y H Q ∨ (∃ i a lo hi, x = V.int i ∧ y = V.ref a ∧ H a = some (.rng lo hi) ∧ Q (.bl (!decide (lo ≤ i ∧ i < hi))) H)
theorem op_inX {X : Cx} : OpR X (compareOp .In) (rInX X.K) := OpR.or op_in_seq op_in_rng
theorem op_ninX {X : Cx} : OpR X (compareOp .NotIn) (rNinX X.K) := OpR.or op_notIn_seq op_notIn_rng
theorem in_cases {x y d : D} (h : inD x y = .ok d) : (∃ ds, (y = .lst ds ∨ y = .tup ds) ∧ x.flat = true ∧ ds.all D.flat = true ∧ d = .bl (inB x ds)) ∨ (∃ i lo hi, x = .int i ∧ y = .rng lo hi ∧ d = .bl (decide (lo ≤ i ∧ i < hi))) := by
  unfold inD at h
  split at h
  · obtain ⟨⟨a, b⟩, rfl⟩ := gd_of h
    exact .inl ⟨_, .inl rfl, a, b, rfl⟩
  · obtain ⟨⟨a, b⟩, rfl⟩ := gd_of h
    exact .inl ⟨_, .inr rfl, a, b, rfl⟩
  · cases h
    exact .inr ⟨_, _, _, rfl, rfl, rfl⟩
  · cases h
theorem in_seq {K : PySem.W.Frag} {I H : Hp} {x y : V} {dx dy : D} {ds : List D} (ex : Same I H) (rx : Rep K I x dx) (ry : Rep K I y dy) (e : dy = .lst ds ∨ dy = .tup ds) (a : dx.flat = true) (b : ds.all D.flat = true) :
    ∃ p xs, y = .ref p ∧ (SqL K H p xs ∨ SqT K H p xs) ∧ flatV x = true ∧ xs.all flatV = true ∧ inV x xs = inB dx ds := by
  rcases e with e | e
  · subst e
    cases ry with
    | lst h r => exact ⟨_, _, rfl, .inl (SqL.of (ex _ _ h)), rx.flat a, r.flat b, Reps.inB rx a r b⟩
  · subst e
    cases ry with
    | tup h r => exact ⟨_, _, rfl, .inr (same_t ex h), rx.flat a, r.flat b, Reps.inB rx a r b⟩
theorem rs_in {K : PySem.W.Frag} : RSn K (rInX K) inD := by
  intro x y I H dx dy d Q ex rx ry h q
  rcases in_cases h with ⟨ds, e, a, b, rfl⟩ | ⟨i, lo, hi, rfl, rfl, rfl⟩
  · obtain ⟨p, xs, rfl, hs, fx, fa, eb⟩ := in_seq ex rx ry e a b
    refine .inl ⟨p, xs, rfl, hs, fx, fa, ?_⟩
    show Q (.bl (inV x xs)) H
    rw [eb]
    exact q _ _ _ (.refl ex) (.bl _)
  · cases rx
    cases ry with
    | rng hh => exact .inr ⟨_, _, _, _, rfl, rfl, ex _ _ hh, q _ _ _ (.refl ex) (.bl _)⟩
theorem rs_notIn {K : PySem.W.Frag} : RSn K (rNinX K) notInD := by
  intro x y I H dx dy d Q ex rx ry h q
  unfold notInD at h
  cases hi : inD dx dy with
  | ok r =>
    rw [hi] at h
    rcases in_cases hi with ⟨ds, e, a, b, rfl⟩ | ⟨i, lo, hi, rfl, rfl, rfl⟩
    · cases h
      obtain ⟨p, xs, rfl, hs, fx, fa, eb⟩ := in_seq ex rx ry e a b
      refine .inl ⟨p, xs, rfl, hs, fx, fa, ?_⟩
      show Q (.bl (!inV x xs)) H
      rw [eb]
      exact q _ _ _ (.refl ex) (.bl _)
    · cases h
      cases rx
      cases ry with
      | rng hh => exact .inr ⟨_, _, _, _, rfl, rfl, ex _ _ hh, q _ _ _ (.refl ex) (.bl _)⟩
  | err _ _ =>
    rw [hi] at h
    cases h
  | stuck =>
    rw [hi] at h
    cases h

/-! ### o[i], o[a:b] -/
def ixD : D → D → R D
  | .lst ds, .int i => match atI ds i with
    | some d => .ok d
    | none => .stuck
  | .tup ds, .int i => match atI ds i with
    | some d => .ok d
    | none => .stuck
  | .scr ns, .int i => match atI ns i with
    | some n => .ok (.int n)
    | none => .stuck
  | .str z, .int i => match atI z.cps.toList i with
    | some c => gd (z.length ≤ LIM) (.str ⟨#[c]⟩)
    | none => .stuck
  | _, _ => .stuck
theorem Reps.atI {K : PySem.W.Frag} {I : Hp} {vs : List V} {ds : List D} {i : Int} {d : D} (r : Reps K I vs ds) (h : atI ds i = some d) : ∃ v, L2.atI vs i = some v ∧ Rep K I v d := by
  unfold L2.atI at h ⊢
  rw [r.len]
  cases e : ixN ds.length i with
  | none =>
    rw [e] at h
    cases h
  | some j =>
    rw [e] at h
    obtain ⟨v, hv, rv⟩ := r.get h
    exact ⟨v, hv, rv⟩
theorem rs_ix {K : PySem.W.Frag} : RSn K (rIx K) ixD := by
  intro x y I H dx dy d Q ex rx ry h q
  cases ry with
  | int i =>
    cases rx with
    | @lst a vs ds ha ra =>
      have h : (match atI ds i with | some d => R.ok d | none => .stuck) = R.ok d := h
      cases e : atI ds i with
      | none =>
        rw [e] at h
        cases h
      | some z =>
        rw [e] at h
        cases h
        obtain ⟨v, hv, rv⟩ := ra.atI e
        exact .inl ⟨_, _, _, v, rfl, rfl, SqL.of (ex _ _ ha), hv, q _ _ _ (.refl ex) rv⟩
    | @tup a vs ds ha ra =>
      have h : (match atI ds i with | some d => R.ok d | none => .stuck) = R.ok d := h
      cases e : atI ds i with
      | none =>
        rw [e] at h
        cases h
      | some z =>
        rw [e] at h
        cases h
        obtain ⟨v, hv, rv⟩ := ra.atI e
        exact .inr (.inl ⟨_, _, _, v, rfl, rfl, same_t ex ha, hv, q _ _ _ (.refl ex) rv⟩)
    | @scr a ns ha =>
      have h : (match atI ns i with | some n => R.ok (D.int n) | none => .stuck) = R.ok d := h
      cases e : atI ns i with
      | none =>
        rw [e] at h
        cases h
      | some z =>
        rw [e] at h
        cases h
        refine .inl ⟨_, _, _, .int z, rfl, rfl, ex.seq ha, ?_, q _ _ _ (.refl ex) (.int _)⟩
        unfold L2.atI at e ⊢
        rw [List.length_map]
        cases e1 : ixN ns.length i with
        | none =>
          rw [e1] at e
          cases e
        | some j =>
          rw [e1] at e
          have e : ns[j]? = some z := e
          show (ns.map V.int)[j]? = some (V.int z)
          rw [List.getElem?_map, e]
          rfl
    | str z =>
      have h : (match atI z.cps.toList i with | some c => gd (z.length ≤ LIM) (.str ⟨#[c]⟩) | none => .stuck) = R.ok d := h
      cases e : atI z.cps.toList i with
      | none =>
        rw [e] at h
        cases h
      | some c =>
        rw [e] at h
        obtain ⟨hl, rfl⟩ := gd_of h
        exact .inr (.inr ⟨_, _, c, rfl, rfl, lim_ok hl, e, q _ _ _ (.refl ex) (.str _)⟩)
    | _ => cases h
  | _ => cases rx <;> cases h
def cutD (xs : List D) (lo hi : Option Int) : List D := (xs.drop (HT.sIx xs.length 0 lo)).take (HT.sIx xs.length xs.length hi - HT.sIx xs.length 0 lo)
theorem Reps.cut {K : PySem.W.Frag} {I : Hp} {vs : List V} {ds : List D} (r : Reps K I vs ds) (lo hi : Option Int) : Reps K I (cutV vs lo hi) (cutD ds lo hi) := by
  unfold cutV cutD
  rw [r.len]
  exact (r.drop _).take _
def sliceD : D → Option Int → Option Int → R D
  | .lst ds, lo, hi => .ok (.lst (cutD ds lo hi))
  | .tup ds, lo, hi => .ok (.tup (cutD ds lo hi))
  | .str z, lo, hi => gd (z.length ≤ LIM) (.str (cutS z lo hi))
  | _, _, _ => .stuck
def rSlX (K : PySem.W.Frag) : V → Option Int → Option Int → Hp → VK → Prop := fun x lo hi H Q => rSlL K x lo hi H Q ∨ (rSlA K x lo hi H Q ∨ rSlS x lo hi H Q)
theorem sl_X {X : Cx} : SlR X (rSlX X.K) := SlR.or sl_list (SlR.or sl_tupA sl_str)
theorem ss_X {K : PySem.W.Frag} : SSn K (rSlX K) sliceD := by
  intro x lo hi I H dx d Q ex rx h q
  cases rx with
  | @lst a vs ds ha ra =>
    cases h
    exact .inl ⟨_, _, rfl, SqL.of (ex _ _ ha), fun p hp => q _ _ _ (.new ex hp) (new_lst ex hp (ra.cut lo hi))⟩
  | @tup a vs ds ha ra =>
    cases h
    refine .inr (.inl ⟨_, _, rfl, same_t ex ha, fun e => ?_, fun _ p hp => q _ _ _ (.new ex hp) (new_tup ex hp (ra.cut lo hi))⟩)
    have ec : cutD ds lo hi = ds := by
      unfold cutD
      rw [← ra.len, e.1, e.2, List.drop_zero, Nat.sub_zero]
      exact List.take_of_length_le (Nat.le_of_eq ra.len.symm)
    rw [ec] at q
    exact q _ _ _ (.refl ex) (.tup ha ra)
  | str z =>
    obtain ⟨hl, rfl⟩ := gd_of h
    exact .inr (.inr ⟨_, rfl, lim_ok hl, q _ _ _ (.refl ex) (.str _)⟩)
  | _ => cases h

/-! ### built-ins -/
def lenD : List D → R D
  | [.lst ds] => .ok (.int ds.length)
  | [.tup ds] => .ok (.int ds.length)
  | [.scr ns] => .ok (.int ns.length)
  | _ => .stuck
def rLenX (K : PySem.W.Frag) : List V → Hp → VK → Prop := fun xs H Q => ∃ p ys, xs = [.ref p] ∧ (SqL K H p ys ∨ SqT K H p ys) ∧ Q (.int ys.length) H
theorem cr_lenX {X : Cx} : CallR X (.builtin "len") (rLenX X.K) := call_len_seq
theorem cs_len {K : PySem.W.Frag} : CSn K (rLenX K) lenD := by
  intro xs I H ds d Q ex rs h q
  cases rs with
  | nil => cases h
  | cons rx r =>
    cases r with
    | cons _ _ => cases rx <;> cases h
    | nil =>
      cases rx with
      | lst hh ra =>
        cases h
        refine ⟨_, _, rfl, .inl (SqL.of (ex _ _ hh)), ?_⟩
        rw [ra.len]
        exact q _ _ _ (.refl ex) (.int _)
      | tup hh ra =>
        cases h
        refine ⟨_, _, rfl, .inr (same_t ex hh), ?_⟩
        rw [ra.len]
        exact q _ _ _ (.refl ex) (.int _)
      | scr hh =>
        cases h
        refine ⟨_, _, rfl, .inl (ex.seq hh), ?_⟩
        rw [List.length_map]
        exact q _ _ _ (.refl ex) (.int _)
      | _ => cases h
def absD : List D → R D
  | [.int i] => .ok (.int (if i < 0 then -i else i))
  | _ => .stuck
theorem reps1 {K : PySem.W.Frag} {I : Hp} {xs : List V} {d : D} (r : Reps K I xs [d]) : ∃ v, xs = [v] ∧ Rep K I v d := by
  cases r with
  | cons a t =>
    cases t
    exact ⟨_, rfl, a⟩
theorem reps2 {K : PySem.W.Frag} {I : Hp} {xs : List V} {d e : D} (r : Reps K I xs [d, e]) : ∃ v w, xs = [v, w] ∧ Rep K I v d ∧ Rep K I w e := by
  cases r with
  | cons a t =>
    obtain ⟨w, rfl, b⟩ := reps1 t
    exact ⟨_, _, rfl, a, b⟩
theorem cs_abs {K : PySem.W.Frag} : CSn K (fun xs H Q => ∃ i, xs = [.int i] ∧ Q (.int (if i < 0 then -i else i)) H) absD := by
  intro xs I H ds d Q ex rs h q
  unfold absD at h
  split at h
  · cases h
    obtain ⟨v, rfl, r⟩ := reps1 rs
    cases r
    exact ⟨_, rfl, q _ _ _ (.refl ex) (.int _)⟩
  · cases h
def intD : List D → R D
  | [.int i] => .ok (.int i)
  | [.bl k] => .ok (.int (if k then 1 else 0))
  | _ => .stuck
theorem cs_int {K : PySem.W.Frag} : CSn K (fun xs H Q => (∃ i, xs = [.int i] ∧ Q (.int i) H) ∨ ∃ k, xs = [.bl k] ∧ Q (.int (if k then 1 else 0)) H) intD := by
  intro xs I H ds d Q ex rs h q
  unfold intD at h
  split at h
  · cases h
    obtain ⟨v, rfl, r⟩ := reps1 rs
    cases r
    exact .inl ⟨_, rfl, q _ _ _ (.refl ex) (.int _)⟩
  · cases h
    obtain ⟨v, rfl, r⟩ := reps1 rs
    cases r
    exact .inr ⟨_, rfl, q _ _ _ (.refl ex) (.int _)⟩
  · cases h
def max2D : List D → R D
  | [.int i, .int j] => .ok (.int (if j > i then j else i))
  | _ => .stuck
def min2D : List D → R D
  | [.int i, .int j] => .ok (.int (if j < i then j else i))
  | _ => .stuck
theorem cs_max2 {K : PySem.W.Frag} : CSn K (fun xs H Q => ∃ i j, xs = [.int i, .int j] ∧ Q (.int (if j > i then j else i)) H) max2D := by
  intro xs I H ds d Q ex rs h q
  unfold max2D at h
  split at h
  · cases h
    obtain ⟨v, w, rfl, r, r2⟩ := reps2 rs
    cases r
    cases r2
    exact ⟨_, _, rfl, q _ _ _ (.refl ex) (.int _)⟩
  · cases h
theorem cs_min2 {K : PySem.W.Frag} : CSn K (fun xs H Q => ∃ i j, xs = [.int i, .int j] ∧ Q (.int (if j < i then j else i)) H) min2D := by
  intro xs I H ds d Q ex rs h q
  unfold min2D at h
  split at h
  · cases h
    obtain ⟨v, w, rfl, r, r2⟩ := reps2 rs
    cases r
    cases r2
    exact ⟨_, _, rfl, q _ _ _ (.refl ex) (.int _)⟩
  · cases h
/-- list(xs), tuple(xs) -/
def listD : List D → R D
  | [.lst ds] => .ok (.lst ds)
  | [.tup ds] => .ok (.lst ds)
  | [.scr ns] => .ok (.lst (ns.map D.int))
  | _ => .stuck
def tupleD : List D → R D
  | [.lst ds] => .ok (.tup ds)
  | [.tup ds] => .ok (.tup ds)
  | [.scr ns] => .ok (.tup (ns.map D.int))
  | _ => .stuck
def rListOf (K : PySem.W.Frag) : List V → Hp → VK → Prop := fun xs H Q => ∃ p ys, xs = [.ref p] ∧ (SqL K H p ys ∨ SqT K H p ys) ∧ ∀ l, H l = none → Q (.ref l) (upd H l (.lst ys))
def rTupOf (K : PySem.W.Frag) : List V → Hp → VK → Prop := fun xs H Q => ∃ p ys, xs = [.ref p] ∧ ((SqL K H p ys ∧ ∀ l, H l = none → Q (.ref l) (upd H l (.tup ys))) ∨ (SqT K H p ys ∧ Q (.ref p) H))
theorem cr_listOf {X : Cx} : CallR X (.type "list") (rListOf X.K) := call_list_of
theorem cr_tupOf {X : Cx} : CallR X (.type "tuple") (rTupOf X.K) := call_tuple_of
theorem cs_list {K : PySem.W.Frag} : CSn K (rListOf K) listD := by
  intro xs I H ds d Q ex rs h q
  unfold listD at h
  split at h
  · cases h
    obtain ⟨v, rfl, r⟩ := reps1 rs
    cases r with
    | lst hh ra => exact ⟨_, _, rfl, .inl (SqL.of (ex _ _ hh)), fun p hp => q _ _ _ (.new ex hp) (new_lst ex hp ra)⟩
  · cases h
    obtain ⟨v, rfl, r⟩ := reps1 rs
    cases r with
    | tup hh ra => exact ⟨_, _, rfl, .inr (same_t ex hh), fun p hp => q _ _ _ (.new ex hp) (new_lst ex hp ra)⟩
  · cases h
    obtain ⟨v, rfl, r⟩ := reps1 rs
    cases r with
    | scr hh => exact ⟨_, _, rfl, .inl (ex.seq hh), fun p hp => q _ _ _ (.new ex hp) (new_lst ex hp .ints)⟩
  · cases h
theorem cs_tuple {K : PySem.W.Frag} : CSn K (rTupOf K) tupleD := by
  intro xs I H ds d Q ex rs h q
  unfold tupleD at h
  split at h
  · cases h
    obtain ⟨v, rfl, r⟩ := reps1 rs
    cases r with
    | lst hh ra => exact ⟨_, _, rfl, .inl ⟨SqL.of (ex _ _ hh), fun p hp => q _ _ _ (.new ex hp) (new_tup ex hp ra)⟩⟩
  · cases h
    obtain ⟨v, rfl, r⟩ := reps1 rs
    cases r with
    | tup hh ra => exact ⟨_, _, rfl, .inr ⟨same_t ex hh, q _ _ _ (.refl ex) (.tup hh ra)⟩⟩
  · cases h
    obtain ⟨v, rfl, r⟩ := reps1 rs
    cases r with
    | scr hh => exact ⟨_, _, rfl, .inl ⟨ex.seq hh, fun p hp => q _ _ _ (.new ex hp) (new_tup ex hp .ints)⟩⟩
  · cases h
/-- range(..) as a value -/
def rng1D : List D → R D
  | [.int j] => .ok (.rng 0 j)
  | _ => .stuck
theorem cs_rng1 {K : PySem.W.Frag} : CSn K (fun vs H Q => ∃ j, vs = [V.int j] ∧ ∀ p, H p = none → Q (.ref p) (upd H p (.rng 0 j))) rng1D := by
  intro xs I H ds d Q ex rs h q
  unfold rng1D at h
  split at h
  · cases h
    obtain ⟨v, rfl, r⟩ := reps1 rs
    cases r
    exact ⟨_, rfl, fun p hp => q _ _ _ (.new ex hp) (.rng upd_same)⟩
  · cases h
/-- sorted(xs), ints -/
def insI (x : Int) : List Int → List Int
  | [] => [x]
  | y :: ys => if x ≤ y then x :: y :: ys else y :: insI x ys
def sortI : List Int → List Int
  | [] => []
  | x :: xs => insI x (sortI xs)
theorem insI_perm (x : Int) : ∀ ys : List Int, (insI x ys).Perm (x :: ys)
  | [] => .refl _
  | y :: ys => by
    unfold insI
    split
    · exact .refl _
    · exact ((insI_perm x ys).cons y).trans (.swap x y ys)
theorem sortI_perm : ∀ xs : List Int, (sortI xs).Perm xs
  | [] => .refl _
  | x :: xs => (insI_perm x _).trans ((sortI_perm xs).cons x)
theorem insI_srt (x : Int) : ∀ ys : List Int, ys.Pairwise (· ≤ ·) → (insI x ys).Pairwise (· ≤ ·)
  | [], _ => List.pairwise_singleton _ _
  | y :: ys, h => by
    unfold insI
    split
    · rename_i hxy
      refine List.pairwise_cons.mpr ⟨fun z hz => ?_, h⟩
      rcases List.mem_cons.mp hz with e | hz
      · rw [e]
        exact hxy
      · exact Int.le_trans hxy ((List.pairwise_cons.mp h).1 z hz)
    · rename_i hxy
      refine List.pairwise_cons.mpr ⟨fun z hz => ?_, insI_srt x ys (List.pairwise_cons.mp h).2⟩
      rcases List.mem_cons.mp ((insI_perm x ys).mem_iff.mp hz) with e | hz
      · rw [e]
        omega
      · exact (List.pairwise_cons.mp h).1 z hz
theorem sortI_srt : ∀ xs : List Int, (sortI xs).Pairwise (· ≤ ·)
  | [] => .nil
  | x :: xs => insI_srt x _ (sortI_srt xs)
theorem srt_uniq : ∀ {xs ys : List Int}, xs.Perm ys → xs.Pairwise (· ≤ ·) → ys.Pairwise (· ≤ ·) → xs = ys
  | [], ys, p, _, _ => (List.Perm.nil_eq p)
  | x :: xs, [], p, _, _ => (List.Perm.eq_nil p)
  | x :: xs, y :: ys, p, hx, hy => by
    have e : x = y := by
      have h1 : x ∈ y :: ys := p.mem_iff.mp List.mem_cons_self
      have h2 : y ∈ x :: xs := p.mem_iff.mpr List.mem_cons_self
      rcases List.mem_cons.mp h1 with e | h1
      · exact e
      · rcases List.mem_cons.mp h2 with e | h2
        · exact e.symm
        · have a := (List.pairwise_cons.mp hx).1 y h2
          have b := (List.pairwise_cons.mp hy).1 x h1
          omega
    subst e
    rw [srt_uniq (List.perm_cons x |>.mp p) (List.pairwise_cons.mp hx).2 (List.pairwise_cons.mp hy).2]
def sortedD : List D → R D
  | [.lst ds] => match intsOf ds with
    | some ns => .ok (.lst ((sortI ns).map D.int))
    | none => .stuck
  | [.tup ds] => match intsOf ds with
    | some ns => .ok (.lst ((sortI ns).map D.int))
    | none => .stuck
  | _ => .stuck
section
open PyProof.Rows SrtO
/-- sorted of a list or a tuple, under a strict weak order -/
theorem sorted_seqO {prog : Program} {w : World} {A : Around} {E : Value → Shared → Prop} {s : Shared} {l : Addr} {T : String} {o : Obj} {vs : List Value} {n : Nat} {ltv : Value → Value → Bool} {Q : Value → Shared → Prop} (O : Swo ltv) (hT : T = "list" ∨ T = "tuple")
    (ho : s.heap.get? l = some o) (hc : o.cls = .type T) (hd : o.data = .seq vs.toArray n) (hz : vs.length ≤ sizeLine)
    (hS : 2 ≤ vs.length → ∀ (h₁ : Heap) (a : Addr), h₁.get? a = some (seqObj "list" vs.toArray 0) → (∀ b o, s.heap.get? b = some o → b ≠ a ∧ h₁.get? b = some o) → SortableO prog w A.in1.in1 { s with heap := h₁ } a vs ltv)
    (h : ∀ (h' : Heap) (out : List Value), (∀ b o, s.heap.get? b = some o → h'.get? b = some o) → Srtd ltv out → Stb ltv out vs → Q (.ref h'.objs.size) { s with heap := sortedHeap (h'.push (seqObj "list" vs.toArray 0)) h'.objs.size vs out.toArray }) :
    wpAny (model prog w) A (call (.builtin "sorted") [.ref l]) Q E s := by
  refine Calls.call_function_entry kind_sorted plain_sorted entry_sorted (args_sorted1 _) ?_
  unfold Builtin.«sorted»
  refine wpAny_bind (m := checkCount "sorted" 1 1 _) (wpAny_pure ?_)
  refine wpAny_bind (wpAny_collect_seq l hT ho hc hd (fun h' hk => ?_) (by simpa using hz))
  refine wpAny_bind (wpAny_newList ?_ (by simpa using hz))
  have hoL : (h'.push (seqObj "list" vs.toArray 0)).get? h'.objs.size = some (seqObj "list" vs.toArray 0) := Heap.get?_push_size _ rfl
  have keep : ∀ b o, s.heap.get? b = some o → b ≠ h'.objs.size ∧ (h'.push (seqObj "list" vs.toArray 0)).get? b = some o := fun b o q =>
    ⟨Nat.ne_of_lt (Heap.lt_size (hk b o q)), Heap.get?_push_of_some _ (hk b o q)⟩
  refine wpAny_bind (wpAny_holding (wpAny_call_entry slot_list_sort ⟨_, hoL, rfl⟩ entry_list_sort (list_sort_ord O hoL hz (fun h2 => hS h2 _ _ hoL keep) fun out hs hb => ⟨_, rfl, ?_⟩) (args_list_sort _)))
  exact wpAny_pure ⟨_, rfl, h h' out hk hs hb⟩
end
def rSortedX (K : PySem.W.Frag) : List V → Hp → VK → Prop := fun vs H Q => ∃ (a : Addr) (ns : List Int), vs = [V.ref a] ∧ (SqL K H a (ns.map V.int) ∨ SqT K H a (ns.map V.int)) ∧
  ∀ (ns' : List Int) (p : Addr), ns'.Perm ns → ns'.Pairwise (· ≤ ·) → H p = none → Q (.ref p) (upd H p (.lst (ns'.map V.int)))
theorem cr_sortedX {X : Cx} : CallR X (.builtin "sorted") (rSortedX X.K) := by
  intro pins s σ H vs us Q I r h
  obtain ⟨a, ns, rfl, hs, q⟩ := h
  have hx : ∃ (T : String) (o : Obj) (its : List Value) (n : Nat), (T = "list" ∨ T = "tuple") ∧ s.heap.get? a = some o ∧ o.cls = .type T ∧ o.data = .seq its.toArray n ∧ Vals (ns.map V.int) its ∧ (ns.map V.int).length ≤ sizeLine := by
    rcases hs with hs | hs
    · obtain ⟨its, rv, ⟨o, n, ho, hc, _, hd⟩, hz⟩ := I.list hs
      exact ⟨_, o, its, n, .inl rfl, ho, hc, hd, rv, hz⟩
    · obtain ⟨its, rv, ⟨o, ho, hc, n, hd⟩, hz⟩ := I.tuple hs
      exact ⟨_, o, its, n, .inr rfl, ho, hc, hd, rv, hz⟩
  obtain ⟨T, o, its, n, hT, ho, hc, hd, rv, hz⟩ := hx
  rw [Vals.ref1 r]
  have hi := rv.ints
  refine sorted_seqO SrtO.swo_int hT ho hc hd (by rw [← rv.length]; exact hz) (fun h2 h₁ a' _ _ => SrtO.ints_sortable hi h2) fun h' out hk h1 h2 => ?_
  obtain ⟨k1, k2, k3⟩ := SrtO.ints_out hi h1 h2
  have I' : Inv X pins σ H { s with heap := h' } := I.kept (t' := s.toks) hk
  have hlen : ((out.map SrtO.iv).map V.int).length ≤ sizeLine := by
    rw [List.length_map, k2.length_eq]
    rw [List.length_map] at hz
    exact hz
  obtain ⟨ep, he'⟩ := PyProof.Rows.sortedHeap_at (vs := its) (out := out.toArray) (n := 0) (h := h'.push (PyProof.Rows.seqObj "list" its.toArray 0)) (a := h'.objs.size) (Heap.get?_push_size _ rfl)
  refine ⟨.ref _, upd H h'.objs.size (.lst ((out.map SrtO.iv).map V.int)), I'.laid (t' := s.toks) (fun b u e => ?_) (Nat.le_refl _) ⟨hlen, out, ep, vals_of_ints k1, he'⟩, rfl, q _ _ k2 k3 (I'.hok.fresh (Nat.le_refl _))⟩
  have hlt : b < h'.objs.size := Heap.lt_size e
  rw [PyProof.Rows.sortedHeap_old (Nat.ne_of_lt hlt) (by rw [PyProof.Rows.size_push']; exact Nat.lt_succ_of_lt hlt)]
  exact Heap.get?_push_of_some _ e
theorem cs_sorted {K : PySem.W.Frag} : CSn K (rSortedX K) sortedD := by
  intro xs I H ds d Q ex rs h q
  unfold sortedD at h
  have fin : ∀ (a : Addr) (es : List D) (vs : List V) (ns : List Int), intsOf es = some ns → Reps K I vs es → (SqL K H a vs ∨ SqT K H a vs) → (∀ v I' H', Stp I H I' H' → Rep K I' v (.lst ((sortI ns).map D.int)) → Q v H') → rSortedX K [.ref a] H Q := fun a es vs ns e r hs q => by
    obtain ⟨rfl, _⟩ := reps_ints r e
    refine ⟨a, ns, rfl, hs, fun ns' p hp hs' hn => ?_⟩
    have e2 : ns' = sortI ns := srt_uniq (hp.trans (sortI_perm ns).symm) hs' (sortI_srt ns)
    subst e2
    exact q _ _ _ (.new ex hn) (new_lst ex hn .ints)
  split at h
  · rename_i es
    obtain ⟨v, rfl, r⟩ := reps1 rs
    cases e : intsOf es with
    | none =>
      rw [e] at h
      cases h
    | some ns =>
      rw [e] at h
      cases h
      cases r with
      | lst hh ra => exact fin _ _ _ ns e ra (.inl (SqL.of (ex _ _ hh))) q
  · rename_i es
    obtain ⟨v, rfl, r⟩ := reps1 rs
    cases e : intsOf es with
    | none =>
      rw [e] at h
      cases h
    | some ns =>
      rw [e] at h
      cases h
      cases r with
      | tup hh ra => exact fin _ _ _ ns e ra (.inr (same_t ex hh)) q
  · cases h
/-- any, all of a list of bools -/
def blsOf : List D → Option (List Bool)
  | [] => some []
  | .bl b :: ds => (blsOf ds).map (b :: ·)
  | _ :: _ => none
theorem blsOf_map (bs : List Bool) : blsOf (bs.map D.bl) = some bs := by
  induction bs with
  | nil => rfl
  | cons n ns ih => rw [List.map_cons, blsOf, ih]; rfl
theorem reps_bls {K : PySem.W.Frag} {I : Hp} : ∀ {vs : List V} {ds : List D} {bs : List Bool}, Reps K I vs ds → blsOf ds = some bs → vs = bs.map V.bl
  | _, _, ns, .nil, h => by
    cases h
    rfl
  | _, _, ns, .cons (d := d) (ds := ds) a r, h => by
    cases a with
    | bl i =>
      cases e : blsOf ds with
      | none =>
        rw [blsOf, e] at h
        cases h
      | some ms =>
        rw [blsOf, e] at h
        cases h
        rw [reps_bls r e]
        rfl
    | _ => cases h
def anyD : List D → R D
  | [.lst ds] => match blsOf ds with
    | some bs => .ok (.bl (bs.any id))
    | none => .stuck
  | _ => .stuck
def allD : List D → R D
  | [.lst ds] => match blsOf ds with
    | some bs => .ok (.bl (bs.all id))
    | none => .stuck
  | _ => .stuck
theorem cs_any {K : PySem.W.Frag} : CSn K (rAny K) anyD := by
  intro xs I H ds d Q ex rs h q
  unfold anyD at h
  split at h
  · rename_i es
    obtain ⟨v, rfl, r⟩ := reps1 rs
    cases e : blsOf es with
    | none =>
      rw [e] at h
      cases h
    | some bs =>
      rw [e] at h
      cases h
      cases r with
      | lst hh ra =>
        cases reps_bls ra e
        exact ⟨_, bs, rfl, SqL.of (ex _ _ hh), q _ _ _ (.refl ex) (.bl _)⟩
  · cases h
theorem cs_all {K : PySem.W.Frag} : CSn K (rAll K) allD := by
  intro xs I H ds d Q ex rs h q
  unfold allD at h
  split at h
  · rename_i es
    obtain ⟨v, rfl, r⟩ := reps1 rs
    cases e : blsOf es with
    | none =>
      rw [e] at h
      cases h
    | some bs =>
      rw [e] at h
      cases h
      cases r with
      | lst hh ra =>
        cases reps_bls ra e
        exact ⟨_, bs, rfl, SqL.of (ex _ _ hh), q _ _ _ (.refl ex) (.bl _)⟩
  · cases h
/-- isinstance of a built-in class -/
def tyOf : D → Option String
  | .non => some "NoneType"
  | .bl _ => some "bool"
  | .int _ => some "int"
  | .str _ => some "str"
  | .lst _ => some "list"
  | .tup _ => some "tuple"
  | _ => none
def isiD : List D → R D
  | [x, .ty n] => match tyOf x with
    | some t => match kitB t n with
      | some b => .ok (.bl b)
      | none => .stuck
    | none => .stuck
  | _ => .stuck
theorem Rep.tyx {K : PySem.W.Frag} {I : Hp} {v : V} {d : D} {t : String} (r : Rep K I v d) (h : tyOf d = some t) : TyX K I v (.type t) := by
  cases r with
  | non => cases h; exact .base .non
  | bl b => cases h; exact .base (.bl b)
  | int i => cases h; exact .base (.int i)
  | str x => cases h; exact .base (.str x)
  | lst hh _ => cases h; exact .base (.lst hh)
  | tup hh _ =>
    cases h
    rcases hh with (hh | ⟨o, hh⟩) | ⟨o, _, _, hh, hc, _⟩
    · exact .base (.tup hh)
    · exact .fTuple hh
    · exact .kTuple hh hc
  | _ => cases h
theorem cs_isi {K : PySem.W.Frag} : CSn K (rIsi K) isiD := by
  intro xs I H ds d Q ex rs h q
  unfold isiD at h
  split at h
  · rename_i x n
    obtain ⟨v, w, rfl, r, r2⟩ := reps2 rs
    cases e : tyOf x with
    | none =>
      rw [e] at h
      cases h
    | some t =>
      rw [e] at h
      have h : (match kitB t n with | some b => R.ok (D.bl b) | none => .stuck) = R.ok d := h
      cases e2 : kitB t n with
      | none =>
        rw [e2] at h
        cases h
      | some b =>
        rw [e2] at h
        cases h
        cases r2
        exact ⟨v, _, _, _, b, rfl, .ty n, (r.mono ex).tyx e, kit_ty e2, q _ _ _ (.refl ex) (.bl _)⟩
  · cases h
end DL
namespace DL
open PySem PySem.Spec L2

/-! ### what is walked -/
def itemsD : D → R (List D)
  | .lst ds => .ok ds
  | .tup ds => .ok ds
  | .scr ns => .ok (ns.map D.int)
  | _ => .stuck
def its (a : R D) : R (List D) := a >>= itemsD
@[simp] theorem its_ok (d : D) : its (.ok d) = itemsD d := rfl
def rangeD (lo c : Int) (n : Nat) : List D := (List.range n).map fun i => .int (lo + (i : Nat) * c)
theorem rangeD_len (lo c : Int) (n : Nat) : (rangeD lo c n).length = n := by unfold rangeD; rw [List.length_map, List.length_range]
theorem rangeD_get {lo c : Int} {n i : Nat} {d : D} (h : (rangeD lo c n)[i]? = some d) : i < n ∧ d = .int (lo + (i : Nat) * c) := by
  unfold rangeD at h
  rw [List.getElem?_map] at h
  cases e : (List.range n)[i]? with
  | none =>
    rw [e] at h
    cases h
  | some j =>
    rw [e] at h
    obtain ⟨h1, h2⟩ := List.getElem?_eq_some_iff.mp e
    rw [List.length_range] at h1
    rw [List.getElem_range] at h2
    subst h2
    exact ⟨h1, (Option.some.inj h).symm⟩
section
variable {X : Cx} {E : XK} {K : PySem.W.Frag} {mg : Str → Option Value} {I I' H H' : Hp} {σ : L2.St} {ρ : Env} {a b c e tg : Expr} {es : List Expr} {pos p : Pos} {m : Env → R D} {ms : Env → R (List D)} {t : TE} {tas : TA}
theorem PI.or {w1 w2 : TI} (h : PI X tg e w1) (h' : PI X tg e w2) : PI X tg e (fun σ H Rr => w1 σ H Rr ∨ w2 σ H Rr) := ⟨fun pins s σ H Rr I q => by
  rcases q with q | q
  · exact h.run pins s σ H Rr I q
  · exact h'.run pins s σ H Rr I q⟩
theorem it_list {a : Addr} {vs : List V} {ds : List D} (h : SqL K I a vs) (r : Reps K I vs ds) : ItOk K I (Itl K a) ds := fun I1 H e1 e2 => ⟨fun i d hd => by
    obtain ⟨v, hv, rv⟩ := r.get hd
    exact ⟨⟨vs, v, (e1.trans e2).seq h, hv⟩, fun x H' y => by
      obtain ⟨rfl, y⟩ := y
      have e := y vs ((e1.trans e2).seq h)
      rw [hv] at e
      cases e
      exact ⟨I1, .refl e2, rv.mono e1⟩⟩, ⟨vs, (e1.trans e2).seq h, Nat.le_of_eq r.len⟩⟩
theorem it_tup {a : Addr} {vs : List V} {ds : List D} (h : SqT K I a vs) (r : Reps K I vs ds) : ItOk K I (Itt K a) ds := fun I1 H e1 e2 => ⟨fun i d hd => by
    obtain ⟨v, hv, rv⟩ := r.get hd
    exact ⟨⟨vs, v, same_t (e1.trans e2) h, hv⟩, fun x H' y => by
      obtain ⟨rfl, y⟩ := y
      have e := y vs (same_t (e1.trans e2) h)
      rw [hv] at e
      cases e
      exact ⟨I1, .refl e2, rv.mono e1⟩⟩, ⟨vs, same_t (e1.trans e2) h, Nat.le_of_eq r.len⟩⟩
theorem it_rng {lo : Int} {n : Nat} : ItOk K I (Itr lo n) (rangeD lo 1 n) := fun I1 H e1 e2 => ⟨fun i d hd => by
    obtain ⟨h1, rfl⟩ := rangeD_get hd
    exact ⟨h1, fun x H' y => by
      obtain ⟨rfl, rfl⟩ := y
      refine ⟨I1, .refl e2, ?_⟩
      rw [Int.mul_one]
      exact .int _⟩, Nat.le_of_eq (rangeD_len _ _ _).symm⟩
theorem it_rngC {lo c : Int} {n : Nat} : ItOk K I (Itc lo c n) (rangeD lo c n) := fun I1 H e1 e2 => ⟨fun i d hd => by
    obtain ⟨h1, rfl⟩ := rangeD_get hd
    exact ⟨h1, fun x H' y => by
      obtain ⟨rfl, rfl⟩ := y
      exact ⟨I1, .refl e2, .int _⟩⟩, Nat.le_of_eq (rangeD_len _ _ _).symm⟩
theorem mi_seq (K : PySem.W.Frag) (h : ME X E e t m) (hK : X.K = K := by rfl) : MI X E tg e (fun σ H Rr => iList K t σ H Rr ∨ iTup K t σ H Rr) (fun ρ => its (m ρ)) := by
  subst hK
  obtain ⟨pt, st⟩ := h
  refine ⟨PI.or (pi_list pt) (pi_tup pt), fun σ I H ρ Q re ex h => ?_⟩
  have h : Out X.K X.mg E (ItOk X.K) I H (m ρ >>= itemsD) Q := h
  have fin : ∀ d, m ρ = .ok d → ((∃ ds, d = .lst ds) ∨ (∃ ns, d = .scr ns)) ∨ (∃ ds, d = .tup ds) := fun d e => by
    rw [e] at h
    cases d with
    | lst ds => exact .inl (.inl ⟨_, rfl⟩)
    | tup ds => exact .inr ⟨_, rfl⟩
    | scr ns => exact .inl (.inr ⟨_, rfl⟩)
    | _ => exact h.elim
  have go1 : (∀ d, m ρ = .ok d → (∃ ds, d = .lst ds) ∨ (∃ ns, d = .scr ns)) → iList X.K t σ H Q := fun hd => by
    refine st.run re ex h fun d v I1 H1 e s1 rx h => ?_
    rcases hd d e with ⟨ds, rfl⟩ | ⟨ns, rfl⟩
    · cases rx with
      | lst hh ra => exact ⟨_, rfl, ⟨_, SqL.of (s1.e _ _ hh)⟩, h.here s1.e (it_list (SqL.of hh) ra)⟩
    · cases rx with
      | scr hh => exact ⟨_, rfl, ⟨_, s1.e.seq hh⟩, h.here s1.e (it_list hh .ints)⟩
  have go2 : (∀ d, m ρ = .ok d → ∃ ds, d = .tup ds) → iTup X.K t σ H Q := fun hd => by
    refine st.run re ex h fun d v I1 H1 e s1 rx h => ?_
    obtain ⟨ds, rfl⟩ := hd d e
    cases rx with
    | tup hh ra => exact ⟨_, rfl, ⟨_, same_t s1.e hh⟩, h.here s1.e (it_tup hh ra)⟩
  cases e : m ρ with
  | ok d =>
    rcases fin d e with hd | hd
    · exact .inl (go1 fun d' e' => by
        rw [e] at e'
        cases e'
        exact hd)
    · exact .inr (go2 fun d' e' => by
        rw [e] at e'
        cases e'
        exact hd)
  | err _ _ => exact .inl (go1 fun d' e' => by
      rw [e] at e'
      cases e')
  | stuck => exact .inl (go1 fun d' e' => by
      rw [e] at e'
      cases e')
def rg1 : List D → R (List D)
  | [.int j] => if -(2 ^ 62) ≤ j ∧ j < 2 ^ 62 then .ok (rangeD 0 1 j.toNat) else .stuck
  | _ => .stuck
def rg2 : List D → R (List D)
  | [.int i, .int j] => if -(2 ^ 62) ≤ i ∧ i < 2 ^ 62 ∧ -(2 ^ 62) ≤ j ∧ j < 2 ^ 62 then .ok (rangeD i 1 (j - i).toNat) else .stuck
  | _ => .stuck
/-- a step of -1 -/
def rg3 : List D → R (List D)
  | [.int i, .int j, .int c] => if c = -1 ∧ -(2 ^ 62) ≤ i ∧ i < 2 ^ 62 ∧ -(2 ^ 62) ≤ j ∧ j < 2 ^ 62 then .ok (rangeD i (-1) (i - j).toNat) else .stuck
  | _ => .stuck
theorem mi_rng1 (hg : Gl X "range") (hm : X.mg "range" = none) (ha : MA X E [a] tas ms) (hs : starEach [a] X.env = [(false, eval a X.env)] := by rfl) : MI X E tg (.Call (.Name "range" p) [a] [] pos) (iRng1 tas) (fun ρ => dsp rg1 (ms ρ)) := by
  obtain ⟨pt, st⟩ := ha
  refine ⟨pi_range1 hg hm pt hs, fun σ I H ρ Q re ex h => ?_⟩
  refine st.run re ex h fun ds vs I1 H1 _ s1 rs h => ?_
  unfold rg1 at h
  split at h
  · obtain ⟨⟨h1, h2⟩, h⟩ := out_if h
    obtain ⟨v, rfl, r⟩ := reps1 rs
    cases r
    exact ⟨_, rfl, h1, h2, h.here s1.e it_rng⟩
  · exact h.elim
theorem mi_rng2 (hg : Gl X "range") (hm : X.mg "range" = none) (ha : MA X E [a, b] tas ms) (hs : starEach [a, b] X.env = [(false, eval a X.env), (false, eval b X.env)] := by rfl) (hs2 : starEach [b] X.env = [(false, eval b X.env)] := by rfl) : MI X E tg (.Call (.Name "range" p) [a, b] [] pos) (iRng2 tas) (fun ρ => dsp rg2 (ms ρ)) := by
  obtain ⟨pt, st⟩ := ha
  refine ⟨pi_range2 hg hm pt hs hs2, fun σ I H ρ Q re ex h => ?_⟩
  refine st.run re ex h fun ds vs I1 H1 _ s1 rs h => ?_
  unfold rg2 at h
  split at h
  · obtain ⟨h1, h⟩ := out_if h
    obtain ⟨v, w, rfl, r, r2⟩ := reps2 rs
    cases r
    cases r2
    exact ⟨_, _, rfl, h1, h.here s1.e it_rng⟩
  · exact h.elim
theorem mi_rng3 (hg : Gl X "range") (hm : X.mg "range" = none) (ha : MA X E [a, b, c] tas ms) (hi : ∀ t, PA X [a, b, c] t → PI X tg (.Call (.Name "range" p) [a, b, c] [] pos) (iRng3 t) := by intro t pt; exact pi_range3 (by assumption) (by assumption) pt) : MI X E tg (.Call (.Name "range" p) [a, b, c] [] pos) (iRng3 tas) (fun ρ => dsp rg3 (ms ρ)) := by
  obtain ⟨pt, st⟩ := ha
  refine ⟨hi _ pt, fun σ I H ρ Q re ex h => ?_⟩
  refine st.run re ex h fun ds vs I1 H1 _ s1 rs h => ?_
  unfold rg3 at h
  split at h
  · obtain ⟨⟨hc, h1, h2, h3, h4⟩, h9⟩ := out_if h
    subst hc
    cases rs with
    | cons r rs =>
      obtain ⟨v, w, rfl, r2, r3⟩ := reps2 rs
      cases r
      cases r2
      cases r3
      exact ⟨_, _, _, _, rfl, RgC.neg h1 h2 h3 h4, h9.here s1.e it_rngC⟩
  · exact h.elim

/-! ### targets: which slots are stored -/
abbrev As := List (Nat × D)
def setE (ρ : Env) : As → Env
  | [] => ρ
  | (i, d) :: as => setE (ρ.set i (some d)) as
def setS (σ : L2.St) : List (Nat × V) → L2.St
  | [] => σ
  | (i, v) :: as => setS (σ.set i (some v)) as
inductive AR (K : PySem.W.Frag) (I : Hp) : List (Nat × V) → As → Prop
  | nil : AR K I [] []
  | cons {i : Nat} {v : V} {d : D} {us : List (Nat × V)} {as : As} : Rep K I v d → AR K I us as → AR K I ((i, v) :: us) ((i, d) :: as)
theorem AR.app {K : PySem.W.Frag} {I : Hp} : ∀ {us ws : List (Nat × V)} {as bs : As}, AR K I us as → AR K I ws bs → AR K I (us ++ ws) (as ++ bs)
  | _, _, _, _, .nil, s => s
  | _, _, _, _, .cons h r, s => .cons h (AR.app r s)
theorem setS_app (σ : L2.St) : ∀ us ws : List (Nat × V), setS σ (us ++ ws) = setS (setS σ us) ws
  | [], _ => rfl
  | (i, v) :: us, ws => setS_app (σ.set i (some v)) us ws
theorem setE_app (ρ : Env) : ∀ us ws : As, setE ρ (us ++ ws) = setE (setE ρ us) ws
  | [], _ => rfl
  | (i, v) :: us, ws => setE_app (ρ.set i (some v)) us ws
theorem AR.slots {K : PySem.W.Frag} {I : Hp} : ∀ {us : List (Nat × V)} {as : As}, AR K I us as → us.map (·.1) = as.map (·.1)
  | _, _, .nil => rfl
  | _, _, .cons (i := i) h r => congrArg (i :: ·) (AR.slots r)
def SnG (K : PySem.W.Frag) (g : TG) (ag : D → R As) : Prop :=
  ∀ (x : V) (σ : L2.St) (I H : Hp) (d : D) (as : As) (Q : L2.St → Hp → Prop), Same I H → Rep K I x d → ag d = .ok as → (∀ us, AR K I us as → Q (setS σ us) H) → g x σ H Q
def SnGs (K : PySem.W.Frag) (g : TGs) (ag : List D → R As) : Prop :=
  ∀ (xs : List V) (σ : L2.St) (I H : Hp) (ds : List D) (as : As) (Q : L2.St → Hp → Prop), Same I H → Reps K I xs ds → ag ds = .ok as → (∀ us, AR K I us as → Q (setS σ us) H) → g xs σ H Q
structure MG (X : Cx) (tg : Expr) (g : TG) (ag : D → R As) : Prop where
  pe : PG X tg g
  sn : SnG X.K g ag
structure MGs (X : Cx) (tgs : List Expr) (g : TGs) (ag : List D → R As) : Prop where
  pe : PGs X tgs g
  sn : SnGs X.K g ag
def agV (i : Nat) : D → R As := fun d => .ok [(i, d)]
def agN : List D → R As
  | [] => .ok []
  | _ => .stuck
def agC (ag : D → R As) (bg : List D → R As) : List D → R As
  | d :: ds => ag d >>= fun as => bg ds >>= fun bs => .ok (as ++ bs)
  | [] => .stuck
theorem mg_name (i : Nat) {x : Str} (hN : X.N.Nodup) (hi : X.N[i]? = some x := by rfl) (hx : Loc X.env.scope x := by first | exact .inl rfl | exact .inr rfl) (hf : X.fn x = true ∨ X.env.scope.names.lookup x = some .local := by first | exact .inl rfl | exact .inr rfl) : MG X (.Name x pos) (gName i) (agV i) :=
  ⟨pg_name hN hi hx hf, fun x σ I H d as Q ex r h q => by
    cases h
    exact q [(i, x)] (.cons r .nil)⟩
theorem mgs_nil : MGs X [] gNil agN := ⟨pgs_nil, fun xs σ I H ds as Q ex r h q => by
  cases r with
  | nil =>
    cases h
    exact ⟨rfl, q [] .nil⟩
  | cons _ _ => cases h⟩
theorem mgs_cons {ag : D → R As} {bg : List D → R As} {es : List Expr} {g : TG} {gs : TGs} (h1 : MG X e g ag) (h2 : MGs X es gs bg) (hs : (assignEach (e :: es) X.env).map (·.2) = assign e X.env :: (assignEach es X.env).map (·.2) := by rfl) : MGs X (e :: es) (gCons g gs) (agC ag bg) := by
  obtain ⟨pg, sg⟩ := h1
  obtain ⟨pgs, sgs⟩ := h2
  refine ⟨pgs_cons pg pgs hs, fun xs σ I H ds as Q ex r h q => ?_⟩
  cases r with
  | nil => cases h
  | @cons v vs d ds rv rs =>
    have h : (ag d >>= fun as => bg ds >>= fun bs => R.ok (as ++ bs)) = .ok as := h
    cases e1 : ag d with
    | ok a1 =>
      cases e2 : bg ds with
      | ok a2 =>
        rw [e1, ok_bind, e2, ok_bind] at h
        cases h
        refine ⟨v, vs, rfl, sg v σ I H d a1 _ ex rv e1 fun us ar => ?_⟩
        refine sgs vs _ I H ds a2 _ ex rs e2 fun ws ar2 => ?_
        rw [← setS_app]
        exact q _ (ar.app ar2)
      | err _ _ =>
        rw [e1, ok_bind, e2] at h
        cases h
      | stuck =>
        rw [e1, ok_bind, e2] at h
        cases h
    | err _ _ =>
      rw [e1] at h
      cases h
    | stuck =>
      rw [e1] at h
      cases h
def tupAs (n : Nat) (ag : List D → R As) : D → R As
  | .tup ds => if ds.length = n then ag ds else .stuck
  | _ => .stuck
theorem mg_tup (K : PySem.W.Frag) {ag : List D → R As} {k n : Nat} {g : TGs} (h : MGs X es g ag) (hK : X.K = K := by rfl) (hc : X.calm = true := by rfl) (hn : (assignEach es X.env).length = n := by rfl) (hst : (assignEach es X.env).findIdx? (·.1) = none := by rfl) : MG X (.Tuple es k pos) (gTup K n g) (tupAs n ag) := by
  obtain ⟨pg, sg⟩ := h
  subst hK
  refine ⟨pg_tup hc pg hn hst, fun x σ I H d as Q ex r h q => ?_⟩
  cases r with
  | @tup a vs ds hh ra =>
    have h : (if ds.length = n then ag ds else .stuck) = R.ok as := h
    by_cases hl : ds.length = n
    · rw [if_pos hl] at h
      exact ⟨a, vs, rfl, same_t ex hh, ra.len.trans hl, sg vs σ I H ds as Q ex ra h q⟩
    · rw [if_neg hl] at h
      cases h
  | _ => cases h
end
theorem set_of_lt {α : Type} {l : List (Option α)} {i j : Nat} {a b : α} (h : (l.set i (some a))[j]? = some (some b)) : (i = j ∧ a = b) ∨ (i ≠ j ∧ l[j]? = some (some b)) := by
  by_cases e : i = j
  · subst e
    by_cases hl : i < l.length
    · rw [List.getElem?_set_self hl] at h
      exact .inl ⟨rfl, Option.some.inj (Option.some.inj h)⟩
    · rw [List.getElem?_eq_none (by rw [List.length_set]; omega)] at h
      cases h
  · rw [List.getElem?_set_ne e] at h
    exact .inr ⟨e, h⟩
theorem RE.set {K : PySem.W.Frag} {I : Hp} {σ : L2.St} {ρ : Env} {i : Nat} {v : V} {d : D} (h : RE K I σ ρ) (r : Rep K I v d) : RE K I (σ.set i (some v)) (ρ.set i (some d)) := ⟨by rw [List.length_set, List.length_set, h.len], fun j e q => by
  have hl := h.len
  rcases set_of_lt q with ⟨rfl, rfl⟩ | ⟨hne, q⟩
  · have hi : i < ρ.length := by
      have := (List.getElem?_eq_some_iff.mp q).1
      rw [List.length_set] at this
      exact this
    exact ⟨v, by rw [List.getElem?_set_self (by omega)], r⟩
  · rw [List.getElem?_set_ne hne]
    exact h.at_ j e q⟩
theorem setS_len (σ : L2.St) : ∀ us : List (Nat × V), (setS σ us).length = σ.length
  | [] => rfl
  | (i, v) :: us => by
    unfold setS
    rw [setS_len _ us, List.length_set]
theorem setE_len (σ : Env) : ∀ us : As, (setE σ us).length = σ.length
  | [] => rfl
  | (i, v) :: us => by
    unfold setE
    rw [setE_len _ us, List.length_set]
theorem RE.setAll {K : PySem.W.Frag} {I : Hp} {us : List (Nat × V)} {as : As} {σ : L2.St} {ρ : Env} (ar : AR K I us as) (h : RE K I σ ρ) : RE K I (setS σ us) (setE ρ as) := by
  induction ar generalizing σ ρ with
  | nil => exact h
  | cons r _ ih => exact ih (h.set r)
theorem wipe_setS {vs : List Nat} : ∀ {us : List (Nat × V)} {σ : L2.St}, (∀ p ∈ us, p.1 ∈ vs) → wipe (setS σ us) vs = wipe σ vs
  | [], σ, _ => rfl
  | (i, v) :: us, σ, h => by
    unfold setS
    rw [wipe_setS fun p hp => h p (List.mem_cons_of_mem _ hp)]
    exact wipe_set (h (i, v) List.mem_cons_self)
where
  wipe_set {vs : List Nat} {σ : L2.St} {i : Nat} {o : Option V} (hi : i ∈ vs) : wipe (σ.set i o) vs = wipe σ vs := by
    apply List.ext_getElem?
    intro j
    have key : ∀ (τ : L2.St) (vs : List Nat), (wipe τ vs)[j]? = if j ∈ vs then (if j < τ.length then some none else none) else τ[j]? := fun τ vs => by
      induction vs with
      | nil => simp [wipe]
      | cons v vs ih =>
        unfold wipe
        by_cases e : v = j
        · subst e
          simp only [List.mem_cons_self, if_true]
          by_cases hl : v < τ.length
          · rw [List.getElem?_set_self (by rw [wipe_length]; exact hl), if_pos hl]
          · rw [if_neg hl, List.getElem?_eq_none (by rw [List.length_set, wipe_length]; omega)]
        · rw [List.getElem?_set_ne e, ih]
          have : (j ∈ v :: vs) = (j ∈ vs) := by
            simp only [List.mem_cons, eq_iff_iff]
            exact ⟨fun h => h.elim (fun z => absurd z.symm e) id, .inr⟩
          simp only [this]
    rw [key, key]
    by_cases hj : j ∈ vs
    · rw [if_pos hj, if_pos hj, List.length_set]
    · rw [if_neg hj, if_neg hj, List.getElem?_set_ne (fun e : i = j => hj (by rw [← e]; exact hi))]
def wipeE (ρ : Env) : List Nat → Env
  | [] => ρ
  | v :: vs => (wipeE ρ vs).set v none
theorem wipeE_len (ρ : Env) : ∀ vs : List Nat, (wipeE ρ vs).length = ρ.length
  | [] => rfl
  | v :: vs => by unfold wipeE; rw [List.length_set, wipeE_len ρ vs]
theorem RE.wipe {K : PySem.W.Frag} {I : Hp} {σ : L2.St} {ρ : Env} (h : RE K I σ ρ) (vs : List Nat) : RE K I (L2.wipe σ vs) (wipeE ρ vs) := by
  induction vs with
  | nil => exact h
  | cons v vs ih =>
    refine ⟨by rw [wipe_length, wipeE_len, h.len], fun i d q => ?_⟩
    unfold wipeE at q
    unfold L2.wipe
    by_cases e : v = i
    · subst e
      by_cases hl : v < (wipeE ρ vs).length
      · rw [List.getElem?_set_self hl] at q
        cases q
      · rw [List.getElem?_eq_none (by rw [List.length_set]; omega)] at q
        cases q
    · rw [List.getElem?_set_ne e] at q
      rw [List.getElem?_set_ne e]
      exact ih.at_ i d q
end DL
namespace DL
open PySem PySem.Spec L2

/-- where the stored slots lie -/
def AgIn (ag : D → R As) (P : Nat → Prop) : Prop := ∀ d as, ag d = .ok as → ∀ p ∈ as, P p.1
/-! ### comprehensions -/
theorem wipe_at (τ : L2.St) (j : Nat) : ∀ vs : List Nat, (wipe τ vs)[j]? = if j ∈ vs then (if j < τ.length then some none else none) else τ[j]? := fun vs => by
  induction vs with
  | nil => simp [wipe]
  | cons v vs ih =>
    unfold wipe
    by_cases e : v = j
    · subst e
      simp only [List.mem_cons_self, if_true]
      by_cases hl : v < τ.length
      · rw [List.getElem?_set_self (by rw [wipe_length]; exact hl), if_pos hl]
      · rw [if_neg hl, List.getElem?_eq_none (by rw [List.length_set, wipe_length]; omega)]
    · rw [List.getElem?_set_ne e, ih]
      have : (j ∈ v :: vs) = (j ∈ vs) := by
        simp only [List.mem_cons, eq_iff_iff]
        exact ⟨fun h => h.elim (fun z => absurd z.symm e) id, .inr⟩
      simp only [this]
theorem wipe_wipe (σ : L2.St) (vs : List Nat) : wipe (wipe σ vs) vs = wipe σ vs := by
  apply List.ext_getElem?
  intro j
  rw [wipe_at (wipe σ vs) j vs, wipe_at σ j vs, wipe_length]
  by_cases hj : j ∈ vs
  · rw [if_pos hj, if_pos hj]
  · rw [if_neg hj, if_neg hj]
def lcGo (ag : D → R As) (mt : Env → R Bool) (me : Env → R D) (ρ : Env) : List D → R (List D)
  | [] => .ok []
  | d :: ds => calm (ag d) >>= fun as => calm (mt (setE ρ as)) >>= fun b => if b = true then calm (me (setE ρ as)) >>= fun y => lcGo ag mt me ρ ds >>= fun r => .ok (y :: r) else lcGo ag mt me ρ ds
def lcM (vs : List Nat) (mi : Env → R (List D)) (ag : D → R As) (mt : Env → R Bool) (me : Env → R D) : Env → R D :=
  fun ρ => mi ρ >>= fun ds => if ds.length ≤ LIM then (calm (lcGo ag mt me (wipeE ρ vs) ds) >>= fun r => .ok (.lst r)) else .stuck
theorem bind_ok {α β : Type} {r : R α} {f : α → R β} {b : β} (h : (r >>= f) = .ok b) : ∃ a, r = .ok a ∧ f a = .ok b := by
  cases r with
  | ok a => exact ⟨a, rfl, h⟩
  | err _ _ => cases h
  | stuck => cases h
/-- the accumulated list ahead of a turn -/
structure LcAt (K : PySem.W.Frag) (I1 H1 : Hp) (D0 : Addr) (n : Nat) (accD : List D) (I2 H : Hp) : Prop where
  i : Same I1 I2
  e : Same I2 H
  z : I2 D0 = none
  h : Same H1 H
  f : ∀ a o, I2 a = some o → I1 a = some o ∨ H1 a = none
  l : ∃ vs, H D0 = some (.lst vs) ∧ Reps K I2 vs accD ∧ vs.length ≤ n
section
variable {K : PySem.W.Frag} {I1 H1 I2 H I3 H3 : Hp} {D0 : Addr} {n : Nat} {accD : List D} {y : V} {d : D}
theorem LcAt.start (ex : Same I1 H1) (hD : H1 D0 = none) : LcAt K I1 H1 D0 0 [] I1 (upd H1 D0 (.lst [])) :=
  ⟨.refl _, (Stp.side ex hD).e, ex.free hD, (Stp.side ex hD).h, fun _ _ h => .inl h, [], upd_same, .nil, Nat.le_refl _⟩
theorem LcAt.step (p : LcAt K I1 H1 D0 n accD I2 H) (s : Stp I2 H I3 H3) : LcAt K I1 H1 D0 n accD I3 H3 := by
  obtain ⟨vs, h1, h2, h3⟩ := p.l
  refine ⟨p.i.trans s.i, s.e, ?_, p.h.trans s.h, fun a o h => ?_, vs, s.h _ _ h1, h2.mono s.i, h3⟩
  · cases q : I3 D0 with
    | none => rfl
    | some o =>
      rcases s.f _ _ q with z | z
      · rw [p.z] at z
        cases z
      · rw [h1] at z
        cases z
  · rcases s.f a o h with z | z
    · exact p.f a o z
    · exact .inr (p.h.free z)
theorem LcAt.push (p : LcAt K I1 H1 D0 n accD I2 H) (hD : H1 D0 = none) (r : Rep K I2 y d) (hn : n < LIM) : ∃ acc, H D0 = some (.lst acc) ∧ acc.length < sizeLine ∧ LcAt K I1 H1 D0 (n + 1) (accD ++ [d]) I2 (upd H D0 (.lst (acc ++ [y]))) := by
  obtain ⟨vs, h1, h2, h3⟩ := p.l
  refine ⟨vs, h1, lim_lt (by omega), p.i, fun a o q => ?_, p.z, fun a o q => ?_, p.f, vs ++ [y], upd_same, h2.app (.cons r .nil), by rw [List.length_append, List.length_singleton]; omega⟩
  · rw [upd_ne (ne_of_none q p.z)]
    exact p.e _ _ q
  · rw [upd_ne (ne_of_none q hD)]
    exact p.h _ _ q
theorem LcAt.skip (p : LcAt K I1 H1 D0 n accD I2 H) : LcAt K I1 H1 D0 (n + 1) accD I2 H := by
  obtain ⟨vs, h1, h2, h3⟩ := p.l
  exact ⟨p.i, p.e, p.z, p.h, p.f, vs, h1, h2, by omega⟩
theorem LcAt.done (p : LcAt K I1 H1 D0 n accD I2 H) (hD : H1 D0 = none) : ∃ I', Stp I1 H1 I' H ∧ Rep K I' (.ref D0) (.lst accD) := by
  obtain ⟨vs, h1, h2, h3⟩ := p.l
  have k : Same I2 (upd I2 D0 (.lst vs)) := fun a o q => by
    rw [upd_ne (ne_of_none q p.z)]
    exact q
  refine ⟨upd I2 D0 (.lst vs), ⟨p.i.trans k, p.h, fun a o q => ?_, fun a o q => ?_⟩, .lst upd_same (h2.mono k)⟩
  · by_cases e : a = D0
    · subst e
      rw [upd_same] at q
      rw [h1]
      exact q
    · rw [upd_ne e] at q
      exact p.e _ _ q
  · by_cases e : a = D0
    · subst e
      exact .inr hD
    · rw [upd_ne e] at q
      exact p.f _ _ q
end
section
variable {X : Cx} {E : XK} {elt tg iter : Expr} {ifs : List Expr} {scope : Scope} {own : List (Str × Nat)} {pos : Pos} {wi : TI} {g : TG} {tt : TT} {te : TE} {mi : Env → R (List D)} {ag : D → R As} {mt : Env → R Bool} {me : Env → R D}
theorem lc_snd {K : PySem.W.Frag} {mg : Str → Option Value} {vs : List Nat} (si : Sn K mg E (ItOk K) wi mi) (sg : SnG K g ag) (st : Sn K mg E0 rB tt mt) (se : Sn K mg E0 (Rep K) te me) (hv : ∀ d as, ag d = .ok as → ∀ p ∈ as, p.1 ∈ vs) :
    Sn K mg E (Rep K) (tLc wi g tt te vs) (lcM vs mi ag mt me) := fun σ I H ρ Q re ex h => by
  refine si.run re ex h fun ds J I1 H1 _ s1 it h D0 hD => ?_
  obtain ⟨hl, h⟩ := out_if h
  cases eo : lcGo ag mt me (wipeE ρ vs) ds with
  | err _ _ =>
    rw [eo] at h
    exact h.elim
  | stuck =>
    rw [eo] at h
    exact h.elim
  | ok out =>
    rw [eo] at h
    refine ⟨fun i m H => m = ds.length - i ∧ i ≤ ds.length ∧ ∃ I2 accD r, LcAt K I1 H1 D0 i accD I2 H ∧ lcGo ag mt me (wipeE ρ vs) (ds.drop i) = .ok r ∧ accD ++ r = out, ⟨ds.length, by simp, Nat.zero_le _, I1, [], out, .start s1.e hD, eo, rfl⟩, ?_⟩
    rintro i m H2 ⟨rfl, hi, I2, accD, r, p, hr, ho⟩
    have hit := it I2 H2 p.i p.e
    by_cases hlt : i < ds.length
    · have hd : ds[i]? = some ds[i] := List.getElem?_eq_getElem hlt
      obtain ⟨hgo, hy⟩ := hit.1 i _ hd
      refine .inr ⟨hgo, fun H' => ∃ I2 accD r, LcAt K I1 H1 D0 (i + 1) accD I2 H' ∧ lcGo ag mt me (wipeE ρ vs) (ds.drop (i + 1)) = .ok r ∧ accD ++ r = out, fun H' hN => ⟨ds.length - (i + 1), by omega, rfl, hlt, hN⟩, fun x H' y => ?_⟩
      obtain ⟨I3, s3, rx⟩ := hy x H' y
      rw [List.drop_eq_getElem_cons hlt] at hr
      unfold lcGo at hr
      obtain ⟨as, ha, hr⟩ := bind_ok hr
      have ha := calm_of ha
      obtain ⟨b, hb, hr⟩ := bind_ok hr
      have hb := calm_of hb
      refine sg x _ I3 H' _ as _ s3.e rx ha fun us ar => ?_
      have hus : ∀ p ∈ us, p.1 ∈ vs := fun p hp => by
        have hm : p.1 ∈ as.map (·.1) := by
          rw [← ar.slots]
          exact List.mem_map_of_mem hp
        obtain ⟨q, hq, e⟩ := List.mem_map.mp hm
        rw [← e]
        exact hv _ _ ha q hq
      refine ⟨by rw [wipe_setS hus, wipe_wipe], ?_⟩
      have re3 : RE K I3 (setS (wipe σ vs) us) (setE (wipeE ρ vs) as) := RE.setAll ar (((re.mono s1.i).mono (p.i.trans s3.i)).wipe vs)
      have p3 := p.step s3
      refine st _ I3 H' _ _ re3 s3.e ?_
      rw [hb]
      intro b' I4 H4 s4 eb
      have eb : b' = b := eb
      subst eb
      have p4 := p3.step s4
      cases b' with
      | true =>
        show te _ H4 _
        rw [if_pos rfl] at hr
        obtain ⟨yd, hyd, hr⟩ := bind_ok hr
        have hyd := calm_of hyd
        obtain ⟨r', hr', hr⟩ := bind_ok hr
        cases hr
        refine se _ I4 H4 _ _ (re3.mono s4.i) s4.e ?_
        rw [hyd]
        intro yv I5 H5 s5 ry
        obtain ⟨acc, h1, h2, p5⟩ := (p4.step s5).push hD ry (by omega)
        exact ⟨acc, h1, h2, I5, _, r', p5, hr', by rw [List.append_assoc]; exact ho⟩
      | false =>
        rw [if_neg (by decide)] at hr
        exact ⟨I4, accD, r, p4.skip, hr, ho⟩
    · have e : i = ds.length := by omega
      subst e
      rw [List.drop_length] at hr
      cases hr
      obtain ⟨I', s', r'⟩ := p.done hD
      rw [List.append_nil] at ho
      subst ho
      exact .inl ⟨hit.2, h.there s' r'⟩
theorem me_lc (hc : X.calm = true) (hN : X.N.Nodup) (hi : MI X E tg iter wi mi) (ok : BlkOk X.N X.env.scope scope own)
    (hg : ∀ (s : Shared) (H : Hp) (C : Addr) (cl : List (Str × Addr)) (fp : List Addr), MG (X.blk s H scope (compEnvC scope cl C X.env) fp) tg g ag) (ht : ∀ (s : Shared) (H : Hp) (C : Addr) (cl : List (Str × Addr)) (fp : List Addr), MTs (X.blk s H scope (compEnvC scope cl C X.env) fp) E0 ifs tt mt)
    (he : ∀ (s : Shared) (H : Hp) (C : Addr) (cl : List (Str × Addr)) (fp : List Addr), ME (X.blk s H scope (compEnvC scope cl C X.env) fp) E0 elt te me) (hv : AgIn ag (· ∈ own.map (·.2))) (hs : ∀ x, foldedSetIterable iter X.env x = pure x := by intro _; rfl) :
    ME X E (.ListComp elt [⟨tg, iter, ifs, 0⟩] scope pos) (tLc wi g tt te (own.map (·.2))) (lcM (own.map (·.2)) mi ag mt me) :=
  ⟨pe_lc hc hN hi.pe ok (fun s H C cl fp => (hg s H C cl fp).pe) (fun s H C cl fp => (ht s H C cl fp).pe) (fun s H C cl fp => (he s H C cl fp).pe) hs,
    lc_snd hi.sn (hg X.s_0 X.H_0 0 [] []).sn (ht X.s_0 X.H_0 0 [] []).sn (he X.s_0 X.H_0 0 [] []).sn hv⟩
end
end DL
namespace DL
open PySem PySem.Spec L2

/-! ### statements -/
inductive Fl where
  | nx (ρ : Env) | rt (d : D) | bk (ρ : Env) | ct (ρ : Env)
/-- the slots of M hold lists of the def's own that nothing else holds; all other data lie in I, which is never changed -/
structure SE (K : PySem.W.Frag) (M : List Nat) (Ie He : Hp) (σ : L2.St) (I H : Hp) (ρ : Env) : Prop where
  st : Stp Ie He I H
  len : σ.length = ρ.length
  imm : ∀ (i : Nat) (d : D), i ∉ M → ρ[i]? = some (some d) → ∃ v, σ[i]? = some (some v) ∧ Rep K I v d
  own_ : ∀ (i : Nat) (d : D), i ∈ M → ρ[i]? = some (some d) → ∃ p vs ds, d = .lst ds ∧ σ[i]? = some (some (.ref p)) ∧ I p = none ∧ He p = none ∧ H p = some (.lst vs) ∧ Reps K I vs ds
  dis : ∀ (i j : Nat) (p : Addr) (d e : D), i ∈ M → j ∈ M → i ≠ j → ρ[i]? = some (some d) → ρ[j]? = some (some e) → σ[i]? = some (some (.ref p)) → σ[j]? = some (some (.ref p)) → False
/-- I0: what the data lay in at the start -/
def OutS (K : PySem.W.Frag) (mg : Str → Option Value) (E : XK) (Mb M : List Nat) (Ie He I0 : Hp) (D : Ends) (r : R Fl) : Prop := match r with
  | .ok (.nx ρ) => ∀ σ I H, SE K M Ie He σ I H ρ → Same I0 I → D.nx σ H
  | .ok (.bk ρ) => ∀ σ I H, SE K Mb Ie He σ I H ρ → Same I0 I → D.bk σ H
  | .ok (.ct ρ) => ∀ σ I H, SE K Mb Ie He σ I H ρ → Same I0 I → D.ct σ H
  | .ok (.rt d) => ∀ v I H, Stp Ie He I H → Rep K I v d → D.rt v H
  | .err nm ds => ∀ C od I H, Stp Ie He I H → XRep K mg I H nm ds C od → E C od H
  | .stuck => False
def SnS (K : PySem.W.Frag) (mg : Str → Option Value) (E : XK) (Mb M M' : List Nat) (ts : TS) (ms : Env → R Fl) : Prop :=
  ∀ (Ie He : Hp) (σ : L2.St) (I H : Hp) (ρ : Env) (D : Ends), SE K M Ie He σ I H ρ → OutS K mg E Mb M' Ie He I D (ms ρ) → ts D σ H
structure MS (X : Cx) (E : XK) (Mb M M' : List Nat) (s : Stmt) (ts : TS) (ms : Env → R Fl) : Prop where
  pe : PS X s ts
  sn : SnS X.K X.mg E Mb M M' ts ms
structure MSs (X : Cx) (E : XK) (Mb M M' : List Nat) (s : List Stmt) (ts : TS) (ms : Env → R Fl) : Prop where
  pe : PSs X s ts
  sn : SnS X.K X.mg E Mb M M' ts ms

section
variable {K : PySem.W.Frag} {mg : Str → Option Value} {E : XK} {Mb M M' : List Nat} {Ie He I H I' H' : Hp} {σ : L2.St} {ρ : Env}
theorem wipeE_at (τ : Env) (j : Nat) : ∀ vs : List Nat, (wipeE τ vs)[j]? = if j ∈ vs then (if j < τ.length then some none else none) else τ[j]? := fun vs => by
  induction vs with
  | nil => simp [wipeE]
  | cons v vs ih =>
    unfold wipeE
    by_cases e : v = j
    · subst e
      simp only [List.mem_cons_self, if_true]
      by_cases hl : v < τ.length
      · rw [List.getElem?_set_self (by rw [wipeE_len]; exact hl), if_pos hl]
      · rw [if_neg hl, List.getElem?_eq_none (by rw [List.length_set, wipeE_len]; omega)]
    · rw [List.getElem?_set_ne e, ih]
      have : (j ∈ v :: vs) = (j ∈ vs) := by
        simp only [List.mem_cons, eq_iff_iff]
        exact ⟨fun h => h.elim (fun z => absurd z.symm e) id, .inr⟩
      simp only [this]
theorem wipeE_some {τ : Env} {j : Nat} {vs : List Nat} {d : D} (h : (wipeE τ vs)[j]? = some (some d)) : j ∉ vs ∧ τ[j]? = some (some d) := by
  rw [wipeE_at] at h
  by_cases hj : j ∈ vs
  · rw [if_pos hj] at h
    split at h <;> cases h
  · rw [if_neg hj] at h
    exact ⟨hj, h⟩
/-- what the slots beside M hold -/
theorem SE.re (s : SE K M Ie He σ I H ρ) : RE K I σ (wipeE ρ M) := ⟨by rw [wipeE_len]; exact s.len, fun i d q => by
  obtain ⟨h1, h2⟩ := wipeE_some q
  exact s.imm i d h1 h2⟩
/-- nothing that stood is changed: the slots stand -/
theorem SE.step (s : SE K M Ie He σ I H ρ) (t : Stp I H I' H') : SE K M Ie He σ I' H' ρ where
  st := s.st.trans t
  len := s.len
  imm := fun i d hi q => by
    obtain ⟨v, a, b⟩ := s.imm i d hi q
    exact ⟨v, a, b.mono t.i⟩
  own_ := fun i d hi q => by
    obtain ⟨p, vs, ds, h1, h2, h3, h4, h5, h6⟩ := s.own_ i d hi q
    refine ⟨p, vs, ds, h1, h2, ?_, h4, t.h _ _ h5, h6.mono t.i⟩
    cases z : I' p with
    | none => rfl
    | some o =>
      rcases t.f _ _ z with z | z
      · rw [h3] at z
        cases z
      · rw [h5] at z
        cases z
  dis := s.dis
/-- a list of one's own is changed no more -/
theorem SE.freeze (i : Nat) (s : SE K (i :: M) Ie He σ I H ρ) : ∃ I', Same I I' ∧ SE K M Ie He σ I' H ρ := by
  by_cases him : i ∈ M
  · have hm : ∀ j, j ∈ i :: M ↔ j ∈ M := fun j => ⟨fun h => (List.mem_cons.mp h).elim (fun e => e ▸ him) id, List.mem_cons_of_mem _⟩
    exact ⟨I, .refl _, s.st, s.len, fun j d hj q => s.imm j d (fun z => hj ((hm j).mp z)) q, fun j d hj q => s.own_ j d ((hm j).mpr hj) q, fun j k p d e a b => s.dis j k p d e ((hm j).mpr a) ((hm k).mpr b)⟩
  · cases q0 : ρ[i]? with
    | none => exact ⟨I, .refl _, s.st, s.len, fun j d hj q => s.imm j d (fun z => (List.mem_cons.mp z).elim (fun e => by subst e; rw [q0] at q; cases q) hj) q, fun j d hj q => s.own_ j d (List.mem_cons_of_mem _ hj) q, fun j k p d e a b => s.dis j k p d e (List.mem_cons_of_mem _ a) (List.mem_cons_of_mem _ b)⟩
    | some o =>
      cases o with
      | none => exact ⟨I, .refl _, s.st, s.len, fun j d hj q => s.imm j d (fun z => (List.mem_cons.mp z).elim (fun e => by subst e; rw [q0] at q; cases q) hj) q, fun j d hj q => s.own_ j d (List.mem_cons_of_mem _ hj) q, fun j k p d e a b => s.dis j k p d e (List.mem_cons_of_mem _ a) (List.mem_cons_of_mem _ b)⟩
      | some d0 =>
        obtain ⟨p, vs, ds, h1, h2, h3, h4, h5, h6⟩ := s.own_ i d0 List.mem_cons_self q0
        subst h1
        have k : Same I (upd I p (.lst vs)) := fun a o q => by
          rw [upd_ne (ne_of_none q h3)]
          exact q
        refine ⟨upd I p (.lst vs), k, ⟨s.st.i.trans k, s.st.h, fun a o q => ?_, fun a o q => ?_⟩, s.len, fun j d hj q => ?_, fun j d hj q => ?_, fun j k p d e a b => s.dis j k p d e (List.mem_cons_of_mem _ a) (List.mem_cons_of_mem _ b)⟩
        · by_cases e : a = p
          · subst e
            rw [upd_same] at q
            rw [h5]
            exact q
          · rw [upd_ne e] at q
            exact s.st.e _ _ q
        · by_cases e : a = p
          · subst e
            exact .inr h4
          · rw [upd_ne e] at q
            exact s.st.f _ _ q
        · by_cases e : j = i
          · subst e
            rw [q0] at q
            cases q
            exact ⟨_, h2, .lst upd_same (h6.mono k)⟩
          · obtain ⟨v, a, b⟩ := s.imm j d (fun z => (List.mem_cons.mp z).elim e hj) q
            exact ⟨v, a, b.mono k⟩
        · obtain ⟨p', vs', ds', g1, g2, g3, g4, g5, g6⟩ := s.own_ j d (List.mem_cons_of_mem _ hj) q
          have hne : p' ≠ p := fun e => by
            subst e
            exact s.dis i j _ _ _ List.mem_cons_self (List.mem_cons_of_mem _ hj) (fun e => him (e ▸ hj)) q0 q h2 g2
          exact ⟨p', vs', ds', g1, g2, by rw [upd_ne hne]; exact g3, g4, g5, g6.mono k⟩
theorem SE.all : ∀ {M : List Nat} {I : Hp}, SE K M Ie He σ I H ρ → ∃ I', Same I I' ∧ SE K [] Ie He σ I' H ρ
  | [], I, s => ⟨I, .refl _, s⟩
  | i :: M, I, s => by
    obtain ⟨I1, k1, s1⟩ := s.freeze i
    obtain ⟨I2, k2, s2⟩ := SE.all s1
    exact ⟨I2, k1.trans k2, s2⟩
/-- a slot beside M is stored -/
theorem SE.set {i : Nat} {v : V} {d : D} (s : SE K M Ie He σ I H ρ) (hi : i ∉ M) (r : Rep K I v d) : SE K M Ie He (σ.set i (some v)) I H (ρ.set i (some d)) where
  st := s.st
  len := by rw [List.length_set, List.length_set, s.len]
  imm := fun j e hj q => by
    rcases set_of_lt q with ⟨rfl, rfl⟩ | ⟨hne, q⟩
    · have hl := (List.getElem?_eq_some_iff.mp q).1
      rw [List.length_set] at hl
      exact ⟨v, List.getElem?_set_self (by rw [s.len]; exact hl), r⟩
    · rw [List.getElem?_set_ne hne]
      exact s.imm j e hj q
  own_ := fun j e hj q => by
    have hne : i ≠ j := fun z => hi (z ▸ hj)
    rw [List.getElem?_set_ne hne] at q
    rw [List.getElem?_set_ne hne]
    exact s.own_ j e hj q
  dis := fun j k p d e hj hk hne q1 q2 h1 h2 => by
    have n1 : i ≠ j := fun z => hi (z ▸ hj)
    have n2 : i ≠ k := fun z => hi (z ▸ hk)
    rw [List.getElem?_set_ne n1] at q1 h1
    rw [List.getElem?_set_ne n2] at q2 h2
    exact s.dis j k p d e hj hk hne q1 q2 h1 h2
theorem SE.setAll {us : List (Nat × V)} {as : As} (ar : AR K I us as) : ∀ {σ : L2.St} {ρ : Env}, SE K M Ie He σ I H ρ → (∀ p ∈ as, p.1 ∉ M) → SE K M Ie He (setS σ us) I H (setE ρ as) := by
  induction ar with
  | nil => exact fun s _ => s
  | cons r _ ih => exact fun s h => ih (s.set (h _ List.mem_cons_self) r) fun p hp => h p (List.mem_cons_of_mem _ hp)
/-- H alone grew -/
theorem SE.grow (s : SE K M Ie He σ I H ρ) (t : Same H H') : SE K M Ie He σ I H' ρ :=
  ⟨⟨s.st.i, s.st.h.trans t, s.st.e.trans t, s.st.f⟩, s.len, s.imm, fun i d hi q => by
    obtain ⟨p, vs, ds, h1, h2, h3, h4, h5, h6⟩ := s.own_ i d hi q
    exact ⟨p, vs, ds, h1, h2, h3, h4, t _ _ h5, h6⟩, s.dis⟩
/-- a list of one's own is changed -/
theorem SE.put {i : Nat} {p : Addr} {vs : List V} {ds ds0 : List D} (s : SE K M Ie He σ I H ρ) (hi : i ∈ M) (q : ρ[i]? = some (some (.lst ds0))) (hp : σ[i]? = some (some (.ref p))) (r : Reps K I vs ds) : SE K M Ie He σ I (upd H p (.lst vs)) (ρ.set i (some (.lst ds))) := by
  obtain ⟨p', vs', ds', h1, h2, h3, h4, h5, h6⟩ := s.own_ i _ hi q
  rw [hp] at h2
  cases h2
  have hil : i < ρ.length := (List.getElem?_eq_some_iff.mp q).1
  refine ⟨⟨s.st.i, fun a o z => ?_, fun a o z => ?_, s.st.f⟩, by rw [List.length_set]; exact s.len, fun j d hj z => ?_, fun j d hj z => ?_, fun j k p' d e hj hk hne q1 q2 g1 g2 => ?_⟩
  · rw [upd_ne (ne_of_none z h4)]
    exact s.st.h _ _ z
  · rw [upd_ne (ne_of_none z h3)]
    exact s.st.e _ _ z
  · rcases set_of_lt z with ⟨rfl, _⟩ | ⟨_, z⟩
    · exact absurd hi hj
    · exact s.imm j d hj z
  · rcases set_of_lt z with ⟨rfl, rfl⟩ | ⟨hne, z⟩
    · exact ⟨p, vs, ds, rfl, hp, h3, h4, upd_same, r⟩
    · obtain ⟨p2, vs2, ds2, g1, g2, g3, g4, g5, g6⟩ := s.own_ j d hj z
      have np : p2 ≠ p := fun e => by
        subst e
        exact s.dis i j _ _ _ hi hj hne q z hp g2
      exact ⟨p2, vs2, ds2, g1, g2, g3, g4, by rw [upd_ne np]; exact g5, g6⟩
  · have back : ∀ (j : Nat) (d : D), (ρ.set i (some (.lst ds)))[j]? = some (some d) → ∃ d', ρ[j]? = some (some d') := fun j d z => by
      rcases set_of_lt z with ⟨rfl, _⟩ | ⟨_, z⟩
      · exact ⟨_, q⟩
      · exact ⟨_, z⟩
    obtain ⟨d1, q1⟩ := back _ _ q1
    obtain ⟨e1, q2⟩ := back _ _ q2
    exact s.dis j k p' d1 e1 hj hk hne q1 q2 g1 g2
/-- a new list goes to a slot of M -/
theorem SE.own {i : Nat} {p : Addr} {vs : List V} {ds : List D} (s : SE K M Ie He σ I H ρ) (hi : i ∈ M) (t : Stp I H I' H') (n1 : I' p = none) (n2 : H p = none) (hp : H' p = some (.lst vs)) (r : Reps K I' vs ds) : SE K M Ie He (σ.set i (some (.ref p))) I' H' (ρ.set i (some (.lst ds))) := by
  have s' := s.step t
  have other : ∀ (j : Nat) (d : D), j ∈ M → ρ[j]? = some (some d) → σ[j]? ≠ some (some (.ref p)) := fun j d hj q z => by
    obtain ⟨p2, vs2, ds2, g1, g2, g3, g4, g5, g6⟩ := s.own_ j d hj q
    rw [z] at g2
    cases g2
    rw [n2] at g5
    cases g5
  refine ⟨s'.st, by rw [List.length_set, List.length_set, s.len], fun j d hj z => ?_, fun j d hj z => ?_, fun j k p' d e hj hk hne q1 q2 g1 g2 => ?_⟩
  · rcases set_of_lt z with ⟨rfl, _⟩ | ⟨hne, z⟩
    · exact absurd hi hj
    · rw [List.getElem?_set_ne hne]
      exact s'.imm j d hj z
  · rcases set_of_lt z with ⟨rfl, rfl⟩ | ⟨hne, z⟩
    · have hl := (List.getElem?_eq_some_iff.mp z).1
      rw [List.length_set] at hl
      exact ⟨p, vs, ds, rfl, List.getElem?_set_self (by rw [s.len]; exact hl), n1, s.st.h.free n2, hp, r⟩
    · rw [List.getElem?_set_ne hne]
      exact s'.own_ j d hj z
  · by_cases ej : i = j
    · subst ej
      rw [List.getElem?_set_ne hne] at g2
      rcases set_of_lt g1 with ⟨_, e1⟩ | ⟨z, _⟩
      · cases e1
        rcases set_of_lt q2 with ⟨z, _⟩ | ⟨_, q2⟩
        · exact hne z
        · exact other _ _ hk q2 g2
      · exact z rfl
    · by_cases ek : i = k
      · subst ek
        rw [List.getElem?_set_ne ej] at g1
        rcases set_of_lt g2 with ⟨_, e1⟩ | ⟨z, _⟩
        · cases e1
          rcases set_of_lt q1 with ⟨z, _⟩ | ⟨_, q1⟩
          · exact ej z
          · exact other _ _ hj q1 g1
        · exact z rfl
      · rw [List.getElem?_set_ne ej] at g1 q1
        rw [List.getElem?_set_ne ek] at g2 q2
        exact s.dis j k p' d e hj hk hne q1 q2 g1 g2
/-- a slot is forgotten -/
theorem SE.forget (i : Nat) (s : SE K M Ie He σ I H ρ) : SE K (i :: M) Ie He σ I H (ρ.set i none) := by
  have nn : ∀ (j : Nat) (d : D), (ρ.set i none)[j]? = some (some d) → i ≠ j ∧ ρ[j]? = some (some d) := fun j d z => by
    by_cases e : i = j
    · subst e
      by_cases hl : i < ρ.length
      · rw [List.getElem?_set_self hl] at z
        cases z
      · rw [List.getElem?_eq_none (by rw [List.length_set]; omega)] at z
        cases z
    · rw [List.getElem?_set_ne e] at z
      exact ⟨e, z⟩
  have mem : ∀ j, i ≠ j → j ∈ i :: M → j ∈ M := fun j h z => (List.mem_cons.mp z).elim (fun e => absurd e.symm h) id
  exact ⟨s.st, by rw [List.length_set, s.len], fun j d hj z => s.imm j d (fun h => hj (List.mem_cons_of_mem _ h)) (nn j d z).2, fun j d hj z => s.own_ j d (mem j (nn j d z).1 hj) (nn j d z).2,
    fun j k p d e hj hk hne q1 q2 g1 g2 => s.dis j k p d e (mem j (nn j d q1).1 hj) (mem k (nn k e q2).1 hk) hne (nn j d q1).2 (nn k e q2).2 g1 g2⟩
theorem OutS.mono {I0 I1 : Hp} {D0 : Ends} {r : R Fl} (k : Same I0 I1) (h : OutS K mg E Mb M Ie He I0 D0 r) : OutS K mg E Mb M Ie He I1 D0 r := by
  cases r with
  | ok f =>
    cases f with
    | nx ρ => exact fun σ I H s e => h σ I H s (k.trans e)
    | bk ρ => exact fun σ I H s e => h σ I H s (k.trans e)
    | ct ρ => exact fun σ I H s e => h σ I H s (k.trans e)
    | rt d => exact h
  | err _ _ => exact h
  | stuck => exact h
theorem RE.of (s : SE K [] Ie He σ I H ρ) : RE K I σ ρ := ⟨s.len, fun i d q => s.imm i d (by simp) q⟩
end
end DL
namespace DL
open PySem PySem.Spec L2

section
variable {K : PySem.W.Frag} {mg : Str → Option Value} {E : XK} {Mb M M' M1 : List Nat} {Ie He I H I' H' : Hp} {σ : L2.St} {ρ : Env} {D0 : Ends} {I0 : Hp}
/-- what is wanted behind a part: of its value at the grown state -/
theorem Out.of {α β : Type} {rp : Hp → β → α → Prop} {r : R α} {k : α → R Fl} {Q : β → Hp → Prop} (hs : Stp Ie He I H) (h : OutS K mg E Mb M Ie He I0 D0 (r >>= k)) (hk : ∀ d, r = .ok d → OutS K mg E Mb M Ie He I0 D0 (k d) → ∀ v I' H', Stp I H I' H' → rp I' v d → Q v H') : Out K mg E rp I H r Q := by
  cases r with
  | ok d => exact fun v I' H' s q => hk d rfl h v I' H' s q
  | err nm ds => exact fun C od I' H' s x => h C od I' H' (hs.trans s) x
  | stuck => exact h
theorem Sn.strong {α β : Type} {rp : Hp → β → α → Prop} {te : L2.St → Hp → (β → Hp → Prop) → Prop} {m : Env → R α} {k : α → R Fl} {P : β → Hp → Prop} (h : Sn K mg E rp te m) (s : SE K M Ie He σ I H ρ) (hq : OutS K mg E Mb M' Ie He I0 D0 (m (wipeE ρ M) >>= k))
    (hk : ∀ d v I' H', SE K M Ie He σ I' H' ρ → Stp I H I' H' → rp I' v d → OutS K mg E Mb M' Ie He I0 D0 (k d) → P v H') : te σ H P :=
  h σ I H _ P s.re s.st.e (Out.of s.st hq fun d _ q v I' H' t r => hk d v I' H' (s.step t) t r q)
/-- all slots may be read; what comes back is no data of the heap -/
theorem Sn.weak {α β : Type} {rp : Hp → β → α → Prop} {te : L2.St → Hp → (β → Hp → Prop) → Prop} {m : Env → R α} {k : α → R Fl} {P : β → Hp → Prop} (h : Sn K mg E rp te m) (s : SE K M Ie He σ I H ρ) (hq : OutS K mg E Mb M' Ie He I0 D0 (m ρ >>= k))
    (hk : ∀ d v I' H', SE K M Ie He σ I H' ρ → Stp Ie He I' H' → rp I' v d → OutS K mg E Mb M' Ie He I0 D0 (k d) → P v H') : te σ H P := by
  obtain ⟨I1, k1, s1⟩ := s.all
  exact h σ I1 H _ P (RE.of s1) s1.st.e (Out.of s1.st hq fun d _ q v I' H' t r => hk d v I' H' (s.grow t.h) (s1.st.trans t) r q)
end
def D.scal : D → Bool
  | .non => true
  | .bl _ => true
  | .int _ => true
  | .str _ => true
  | .ty _ => true
  | _ => false
theorem Rep.scal {K : PySem.W.Frag} {I I' : Hp} {v : V} {d : D} (r : Rep K I v d) (h : d.scal = true) : Rep K I' v d := by
  cases r with
  | non => exact .non
  | bl b => exact .bl b
  | int i => exact .int i
  | str x => exact .str x
  | ty n => exact .ty n
  | _ => cases h
def then_ (r : R Fl) (k : Env → R Fl) : R Fl := r >>= fun f => match f with
  | .nx ρ => k ρ
  | f => .ok f
def asg (i : Nat) (ρ : Env) (a : R D) : R Fl := a >>= fun d => .ok (.nx (ρ.set i (some d)))
def asgW (i : Nat) (ρ : Env) (a : R D) : R Fl := a >>= fun d => if d.scal = true then .ok (.nx (ρ.set i (some d))) else .stuck
def asgG (ag : D → R As) (ρ : Env) (a : R D) : R Fl := a >>= fun d => calm (ag d) >>= fun as => .ok (.nx (setE ρ as))
def ret (a : R D) : R Fl := a >>= fun d => .ok (.rt d)
def drp (ρ : Env) (a : R D) : R Fl := a >>= fun _ => .ok (.nx ρ)
@[simp] theorem asg_ok (i : Nat) (ρ : Env) (d : D) : asg i ρ (.ok d) = .ok (.nx (ρ.set i (some d))) := rfl
@[simp] theorem asgW_ok (i : Nat) (ρ : Env) (d : D) : asgW i ρ (.ok d) = if d.scal = true then .ok (.nx (ρ.set i (some d))) else .stuck := rfl
@[simp] theorem asgG_ok (ag : D → R As) (ρ : Env) (d : D) : asgG ag ρ (.ok d) = (calm (ag d) >>= fun as => .ok (.nx (setE ρ as))) := rfl
@[simp] theorem ret_ok (d : D) : ret (.ok d) = .ok (.rt d) := rfl
@[simp] theorem drp_ok (ρ : Env) (d : D) : drp ρ (.ok d) = .ok (.nx ρ) := rfl
@[simp] theorem then_nx (ρ : Env) (k : Env → R Fl) : then_ (.ok (.nx ρ)) k = k ρ := rfl
@[simp] theorem then_rt (d : D) (k : Env → R Fl) : then_ (.ok (.rt d)) k = .ok (.rt d) := rfl
@[simp] theorem then_bk (ρ : Env) (k : Env → R Fl) : then_ (.ok (.bk ρ)) k = .ok (.bk ρ) := rfl
@[simp] theorem then_ct (ρ : Env) (k : Env → R Fl) : then_ (.ok (.ct ρ)) k = .ok (.ct ρ) := rfl
section
variable {X : Cx} {E : XK} {Mb M M' M1 : List Nat} {s : Stmt} {ss : List Stmt} {t u : TS} {ms mr : Env → R Fl} {e c : Expr} {te : TE} {m : Env → R D} {pos : Pos} {x : Str} {tt : TT} {mt : Env → R Bool}
theorem mss_nil : MSs X E Mb M M [] tNext (fun ρ => .ok (.nx ρ)) := ⟨pss_nil, fun Ie He σ I H ρ D0 s h => h σ I H s (.refl _)⟩
theorem mss_one (h : MS X E Mb M M' s t ms) : MSs X E Mb M M' [s] t ms := ⟨pss_one h.pe, h.sn⟩
theorem mss_cons (h1 : MS X E Mb M M1 s t ms) (h2 : MSs X E Mb M1 M' ss u mr) : MSs X E Mb M M' (s :: ss) (tSeq t u) (fun ρ => then_ (ms ρ) mr) := ⟨pss_cons h1.pe h2.pe, fun Ie He σ I H ρ D0 s h => by
  refine h1.sn Ie He σ I H ρ _ s ?_
  have h : OutS X.K X.mg E Mb M' Ie He I D0 (then_ (ms ρ) mr) := h
  cases e : ms ρ with
  | ok f =>
    rw [e] at h
    cases f with
    | nx ρ1 => exact fun σ1 I1 H1 s1 k1 => h2.sn Ie He σ1 I1 H1 ρ1 D0 s1 (h.mono k1)
    | rt d => exact h
    | bk ρ1 => exact h
    | ct ρ1 => exact h
  | err nm ds =>
    rw [e] at h
    exact h
  | stuck =>
    rw [e] at h
    exact h⟩
/-- from here on the slot is not changed in place -/
theorem mss_freeze (i : Nat) (h : MSs X E Mb M M' ss t ms) : MSs X E Mb (i :: M) M' ss t ms := ⟨h.pe, fun Ie He σ I H ρ D0 s q => by
  obtain ⟨I1, k1, s1⟩ := s.freeze i
  exact h.sn Ie He σ I1 H ρ D0 s1 (q.mono k1)⟩
theorem mss_forget (i : Nat) (h : MSs X E Mb (i :: M) M' ss t ms) : MSs X E Mb M M' ss t (fun ρ => ms (ρ.set i none)) := ⟨h.pe, fun Ie He σ I H ρ D0 s q => h.sn Ie He σ I H _ D0 (s.forget i) q⟩
theorem SE.perm {K : PySem.W.Frag} {Ie He I H : Hp} {σ : L2.St} {ρ : Env} (hm : ∀ j, j ∈ M ↔ j ∈ M1) (s : SE K M Ie He σ I H ρ) : SE K M1 Ie He σ I H ρ :=
  ⟨s.st, s.len, fun j d hj q => s.imm j d (fun z => hj ((hm j).mp z)) q, fun j d hj q => s.own_ j d ((hm j).mpr hj) q, fun j k p d e a b => s.dis j k p d e ((hm j).mpr a) ((hm k).mpr b)⟩
theorem mss_perm (h : MSs X E Mb M1 M' ss t ms) (hm : ∀ j, j ∈ M ↔ j ∈ M1 := by simp) : MSs X E Mb M M' ss t ms := ⟨h.pe, fun Ie He σ I H ρ D0 s q => h.sn Ie He σ I H ρ D0 (s.perm hm) q⟩
/-- at the end of a block -/
theorem mss_end (hm : ∀ j, j ∈ M ↔ j ∈ M1 := by simp) : MSs X E Mb M M1 [] tNext (fun ρ => .ok (.nx ρ)) := ⟨pss_nil, fun Ie He σ I H ρ D0 s h => h σ I H (s.perm hm) (.refl _)⟩

/-! #### simple statements -/
theorem ms_pass : MS X E Mb M M (.Pass pos) tNext (fun ρ => .ok (.nx ρ)) := ⟨ps_pass, fun Ie He σ I H ρ D0 s h => h σ I H s (.refl _)⟩
theorem ms_break : MS X E M M M' (.Break pos) tBreak (fun ρ => .ok (.bk ρ)) := ⟨ps_break, fun Ie He σ I H ρ D0 s h => h σ I H s (.refl _)⟩
theorem ms_continue : MS X E M M M' (.Continue pos) tCont (fun ρ => .ok (.ct ρ)) := ⟨ps_continue, fun Ie He σ I H ρ D0 s h => h σ I H s (.refl _)⟩
theorem ms_set (i : Nat) {px : Pos} (hN : X.N.Nodup) (he : ME X E e te m) (hi : X.N[i]? = some x := by rfl) (hx : Loc X.env.scope x := by first | exact .inl rfl | exact .inr rfl) (hM : i ∉ M := by decide) (hs : swapsWith e (some (.Name x px)) pos.line X.env = pure false := by rfl) (hf : X.fn x = true ∨ X.env.scope.names.lookup x = some .local := by first | exact .inl rfl | exact .inr rfl) :
    MS X E Mb M M (.Assign [.Name x px] e pos) (tAsg te (gName i)) (fun ρ => asg i ρ (m (wipeE ρ M))) :=
  ⟨ps_set hN hi hx he.pe hs hf, fun Ie He σ I H ρ D0 s h => he.sn.strong s h fun d v I1 H1 s1 t r q => q _ I1 H1 (s1.set hM r) t.i⟩
/-- all slots are read, the value is none of the heap -/
theorem ms_setW (i : Nat) {px : Pos} (hN : X.N.Nodup) (he : ME X E e te m) (hi : X.N[i]? = some x := by rfl) (hx : Loc X.env.scope x := by first | exact .inl rfl | exact .inr rfl) (hM : i ∉ M := by decide) (hs : swapsWith e (some (.Name x px)) pos.line X.env = pure false := by rfl) (hf : X.fn x = true ∨ X.env.scope.names.lookup x = some .local := by first | exact .inl rfl | exact .inr rfl) :
    MS X E Mb M M (.Assign [.Name x px] e pos) (tAsg te (gName i)) (fun ρ => asgW i ρ (m ρ)) :=
  ⟨ps_set hN hi hx he.pe hs hf, fun Ie He σ I H ρ D0 s h => he.sn.weak s h fun d v I1 H1 s1 _ r q => by
    by_cases hd : d.scal = true
    · rw [if_pos hd] at q
      exact q _ I H1 (s1.set hM (r.scal hd)) (.refl _)
    · rw [if_neg hd] at q
      exact q.elim⟩
theorem ms_asg {tg : Expr} {g : TG} {ag : D → R As} (he : ME X E e te m) (hg : MG X tg g ag) (hM : AgIn ag (· ∉ M)) (hs : swapsWithSole [tg] e pos.line X.env = pure false := by rfl) (hw : swappedStores [tg] e X.env = pure none := by rfl)
    (h1 : (assignEach [tg] X.env).map (·.2) = [assign tg X.env] := by rfl) : MS X E Mb M M (.Assign [tg] e pos) (tAsg te g) (fun ρ => asgG ag ρ (m (wipeE ρ M))) :=
  ⟨ps_asg he.pe hg.pe hs hw h1, fun Ie He σ I H ρ D0 s h => he.sn.strong s h fun d v I1 H1 s1 t r q => by
    cases ea : ag d with
    | ok as =>
      rw [ea] at q
      exact hg.sn v σ I1 H1 d as _ s1.st.e r ea fun us ar => q _ I1 H1 (s1.setAll ar (hM d as ea)) t.i
    | err _ _ =>
      rw [ea] at q
      exact q.elim
    | stuck =>
      rw [ea] at q
      exact q.elim⟩
theorem ms_ret (he : ME X E e te m) : MS X E Mb M M' (.Return (some e) pos) (tRet te) (fun ρ => ret (m ρ)) :=
  ⟨ps_ret he.pe, fun Ie He σ I H ρ D0 s h => he.sn.weak s h fun d v I1 H1 s1 st r q => q v I1 H1 st r⟩
theorem ms_retN : MS X E Mb M M' (.Return none pos) tRetN (fun ρ => .ok (.rt .non)) := ⟨ps_retN, fun Ie He σ I H ρ D0 s h => h _ I H s.st .non⟩
theorem ms_expr (he : ME X E e te m) (hs : swapsWith e none pos.line X.env = pure false := by rfl) : MS X E Mb M M (.Expr e pos) (tDrop te) (fun ρ => drp ρ (m ρ)) :=
  ⟨ps_expr he.pe hs, fun Ie He σ I H ρ D0 s h => he.sn.weak s h fun d v I1 H1 s1 st r q => q _ I H1 s1 (.refl _)⟩
theorem ms_doc {z j pos'} : MS X E Mb M M (.Expr (.Constant (.str z) j pos) pos') tNext (fun ρ => .ok (.nx ρ)) := ⟨ps_doc, fun Ie He σ I H ρ D0 s h => h σ I H s (.refl _)⟩
theorem ms_if {a b : List Stmt} {ta tb : TS} {ma mb : Env → R Fl} (hc : MT X E c tt mt) (ha : MSs X E Mb M M' a ta ma) (hb : MSs X E Mb M M' b tb mb) : MS X E Mb M M' (.If c a b pos) (tIfS tt ta tb) (fun ρ => ifv (mt ρ) (ma ρ) (mb ρ)) :=
  ⟨ps_if hc.pe ha.pe hb.pe, fun Ie He σ I H ρ D0 s h => hc.sn.weak s h fun d v I1 H1 s1 st r q => by
    cases r
    cases d with
    | true => exact ha.sn Ie He σ I H1 ρ D0 s1 q
    | false => exact hb.sn Ie He σ I H1 ρ D0 s1 q⟩
def augG (f : Int → Int → Int) (i : Nat) (ρ : Env) : D → D → R Fl
  | .int a, .int b => .ok (.nx (ρ.set i (some (.int (f a b)))))
  | _, _ => .stuck
def augS (f : Int → Int → Int) (i : Nat) (ρ : Env) (b : R D) : R Fl := calm (get ρ i) >>= fun a => b >>= augG f i ρ a
/-- x += n, ints -/
theorem ms_augI (i : Nat) {f : Int → Int → Int} {op : Operator} {px : Pos} (hN : X.N.Nodup) (ho : PIp X op (ipI f)) (he : ME X E e te m) (hi : X.N[i]? = some x := by rfl) (hx : Loc X.env.scope x := by first | exact .inl rfl | exact .inr rfl) (hM : i ∉ M := by decide) (hf : X.fn x = true ∨ X.env.scope.names.lookup x = some .local := by first | exact .inl rfl | exact .inr rfl) :
    MS X E Mb M M (.AugAssign (.Name x px) op e pos) (tAug i te (ipI f)) (fun ρ => augS f i ρ (m ρ)) :=
  ⟨ps_aug hN hi hx he.pe ho hf, fun Ie He σ I H ρ D0 s h => by
    have h : OutS X.K X.mg E Mb M Ie He I D0 (calm (get ρ i) >>= fun a => m ρ >>= augG f i ρ a) := h
    cases q : ρ[i]? with
    | none =>
      unfold get at h
      rw [q] at h
      exact h.elim
    | some o =>
      unfold get at h
      rw [q] at h
      cases o with
      | none => exact h.elim
      | some d =>
        obtain ⟨v, h1, h2⟩ := s.imm i d hM q
        refine ⟨v, h1, he.sn.weak s h fun d2 v2 I1 H1 s1 _ r q => ?_⟩
        cases h2 with
        | int a =>
          cases r with
          | int b => exact ⟨a, b, rfl, rfl, q _ I H1 (s1.set hM (.int _)) (.refl _)⟩
          | _ => exact q.elim
        | _ => cases r <;> exact q.elim⟩

/-! #### lists of one's own -/
def ownD (ρ : Env) (i : Nat) : R (List D) := match ρ[i]? with
  | some (some (.lst ds)) => .ok ds
  | _ => .stuck
theorem ownD_of {ρ : Env} {i : Nat} {ds : List D} (h : ownD ρ i = .ok ds) : ρ[i]? = some (some (.lst ds)) := by
  unfold ownD at h
  split at h
  · cases h
    assumption
  · cases h
theorem outS_calm {K : PySem.W.Frag} {mg : Str → Option Value} {Ie He I0 : Hp} {D0 : Ends} {α : Type} {r : R α} {k : α → R Fl} (h : OutS K mg E Mb M Ie He I0 D0 (calm r >>= k)) : ∃ a, r = .ok a ∧ OutS K mg E Mb M Ie He I0 D0 (k a) := by
  cases r with
  | ok a => exact ⟨a, rfl, h⟩
  | err _ _ => exact h.elim
  | stuck => exact h.elim
theorem outS_if {K : PySem.W.Frag} {mg : Str → Option Value} {Ie He I0 : Hp} {D0 : Ends} {c : Prop} [Decidable c] {r : R Fl} (h : OutS K mg E Mb M Ie He I0 D0 (if c then r else .stuck)) : c ∧ OutS K mg E Mb M Ie He I0 D0 r := by
  by_cases hc : c
  · rw [if_pos hc] at h
    exact ⟨hc, h⟩
  · rw [if_neg hc] at h
    exact h.elim
def appS (i : Nat) (ρ : Env) (a : R D) : R Fl := calm (ownD ρ i) >>= fun ds => a >>= fun d => if ds.length < LIM then .ok (.nx (ρ.set i (some (.lst (ds ++ [d]))))) else .stuck
/-- x.append(e) -/
theorem ms_app (i : Nat) {px pa pc : Pos} (he : ME X E e te m) (hi : X.N[i]? = some x := by rfl) (hv : Vis X.env.scope x := by first | exact Or.inl rfl | exact Or.inr (Or.inl rfl)) (hM : i ∈ M := by decide)
    (hp : PE X e te → PE X (.Call (.Attribute (.Name x px) "append" pa) [e] [] pc) (tBM X.K "list" rAppend (tVar i) (tCons te tNil))) (hs : swapsWith (.Call (.Attribute (.Name x px) "append" pa) [e] [] pc) none pos.line X.env = pure false := by rfl) :
    MS X E Mb M M (.Expr (.Call (.Attribute (.Name x px) "append" pa) [e] [] pc) pos) (tDrop (tBM X.K "list" rAppend (tVar i) (tCons te tNil))) (fun ρ => appS i ρ (m (wipeE ρ M))) :=
  ⟨ps_expr (hp he.pe) hs, fun Ie He σ I H ρ D0 s h => by
    obtain ⟨ds, ho, h⟩ := outS_calm h
    have q := ownD_of ho
    obtain ⟨p, vs, ds', e1, h2, h3, h4, h5, h6⟩ := s.own_ i _ hM q
    cases e1
    refine ⟨_, h2, .inl ⟨rfl, vs, SqL.of h5⟩, he.sn.strong s h fun d v I1 H1 s1 t r k => ?_⟩
    obtain ⟨hl, k⟩ := outS_if k
    refine ⟨p, vs, v, rfl, rfl, t.h _ _ h5, lim_lt (by rw [h6.len]; omega), k _ I1 _ (s1.put hM q h2 ((h6.mono t.i).app (.cons r .nil))) t.i⟩⟩
def setixG (i : Nat) (ρ : Env) (d : D) (ds : List D) : D → R Fl
  | .int z => match ixN ds.length z with
    | some j => .ok (.nx (ρ.set i (some (.lst (ds.set j d)))))
    | none => .stuck
  | _ => .stuck
def setixS (i : Nat) (ρ : Env) (a k : R D) : R Fl := a >>= fun d => calm (ownD ρ i) >>= fun ds => k >>= setixG i ρ d ds
/-- x[k] = e -/
theorem ms_setix (i : Nat) {px pt : Pos} {k : Expr} {tk : TE} {mk : Env → R D} (he : ME X E e te m) (hk : ME X E k tk mk) (hi : X.N[i]? = some x := by rfl) (hv : Vis X.env.scope x := by first | exact Or.inl rfl | exact Or.inr (Or.inl rfl)) (hM : i ∈ M := by decide)
    (hp : PE X e te → PE X k tk → PS X (.Assign [.Subscript (.Name x px) k pt] e pos) (tAsg te (gSub (tVar i) tk rSetL))) :
    MS X E Mb M M (.Assign [.Subscript (.Name x px) k pt] e pos) (tAsg te (gSub (tVar i) tk rSetL)) (fun ρ => setixS i ρ (m (wipeE ρ M)) (mk ρ)) :=
  ⟨hp he.pe hk.pe, fun Ie He σ I H ρ D0 s h => he.sn.strong s h fun d v I1 H1 s1 t r h => by
    have h := h.mono t.i
    obtain ⟨ds, ho, h⟩ := outS_calm h
    have q := ownD_of ho
    obtain ⟨p, vs, ds', e1, h2, h3, h4, h5, h6⟩ := s1.own_ i _ hM q
    cases e1
    refine ⟨_, h2, hk.sn.weak s1 h fun dk vk I2 H2 s2 t2 rk h => ?_⟩
    cases rk with
    | int z =>
      have h : OutS X.K X.mg E Mb M Ie He I1 D0 (match ixN ds.length z with | some j => .ok (.nx (ρ.set i (some (.lst (ds.set j d))))) | none => .stuck) := h
      cases ej : ixN ds.length z with
      | none =>
        rw [ej] at h
        exact h.elim
      | some j =>
        rw [ej] at h
        obtain ⟨p', vs', ds', e1, g2, g3, g4, g5, g6⟩ := s2.own_ i _ hM q
        cases e1
        rw [h2] at g2
        cases g2
        exact ⟨p, vs', z, j, rfl, rfl, g5, by rw [g6.len]; exact ej, h _ I1 _ (s2.put hM q h2 (g6.set r j)) (.refl _)⟩
    | _ => exact h.elim⟩
def appPopG (i j : Nat) (ρ : Env) (ds es : List D) : D → R Fl
  | .int z => match (if -(2 ^ 63) ≤ z ∧ z < 2 ^ 63 ∧ ds.length < LIM then seqIndex? z es.length else none) with
    | some n => match es[n]? with
      | some d => .ok (.nx ((ρ.set j (some (.lst (es.eraseIdx n)))).set i (some (.lst (ds ++ [d])))))
      | none => .stuck
    | none => .stuck
  | _ => .stuck
def appPopS (i j : Nat) (ρ : Env) (k : R D) : R Fl := calm (ownD ρ i) >>= fun ds => calm (ownD ρ j) >>= fun es => k >>= appPopG i j ρ ds es
def appSW (i : Nat) (ρ : Env) (a : R D) : R Fl := calm (ownD ρ i) >>= fun ds => a >>= fun d => if ds.length < LIM ∧ d.scal = true then .ok (.nx (ρ.set i (some (.lst (ds ++ [d]))))) else .stuck
theorem ms_appW (i : Nat) {px pa pc : Pos} (he : ME X E e te m) (hi : X.N[i]? = some x := by rfl) (hv : Vis X.env.scope x := by first | exact Or.inl rfl | exact Or.inr (Or.inl rfl)) (hM : i ∈ M := by decide)
    (hp : PE X e te → PE X (.Call (.Attribute (.Name x px) "append" pa) [e] [] pc) (tBM X.K "list" rAppend (tVar i) (tCons te tNil))) (hs : swapsWith (.Call (.Attribute (.Name x px) "append" pa) [e] [] pc) none pos.line X.env = pure false := by rfl) :
    MS X E Mb M M (.Expr (.Call (.Attribute (.Name x px) "append" pa) [e] [] pc) pos) (tDrop (tBM X.K "list" rAppend (tVar i) (tCons te tNil))) (fun ρ => appSW i ρ (m ρ)) :=
  ⟨ps_expr (hp he.pe) hs, fun Ie He σ I H ρ D0 s h => by
    obtain ⟨ds, ho, h⟩ := outS_calm h
    have q := ownD_of ho
    obtain ⟨p, vs, ds', e1, h2, h3, h4, h5, h6⟩ := s.own_ i _ hM q
    cases e1
    refine ⟨_, h2, .inl ⟨rfl, vs, SqL.of h5⟩, he.sn.weak s h fun d v I1 H1 s1 t r k => ?_⟩
    obtain ⟨hl, k⟩ := outS_if k
    obtain ⟨p', vs', ds', e1, g2, g3, g4, g5, g6⟩ := s1.own_ i _ hM q
    cases e1
    rw [h2] at g2
    cases g2
    refine ⟨p, vs', v, rfl, rfl, g5, lim_lt (by rw [g6.len]; omega), k _ I _ (s1.put hM q h2 (g6.app (.cons (r.scal hl.2) .nil))) (.refl _)⟩⟩
def setixSW (i : Nat) (ρ : Env) (a k : R D) : R Fl := a >>= fun d => if d.scal = true then (calm (ownD ρ i) >>= fun ds => k >>= setixG i ρ d ds) else .stuck
theorem ms_setixW (i : Nat) {px pt : Pos} {k : Expr} {tk : TE} {mk : Env → R D} (he : ME X E e te m) (hk : ME X E k tk mk) (hi : X.N[i]? = some x := by rfl) (hv : Vis X.env.scope x := by first | exact Or.inl rfl | exact Or.inr (Or.inl rfl)) (hM : i ∈ M := by decide)
    (hp : PE X e te → PE X k tk → PS X (.Assign [.Subscript (.Name x px) k pt] e pos) (tAsg te (gSub (tVar i) tk rSetL))) :
    MS X E Mb M M (.Assign [.Subscript (.Name x px) k pt] e pos) (tAsg te (gSub (tVar i) tk rSetL)) (fun ρ => setixSW i ρ (m ρ) (mk ρ)) :=
  ⟨hp he.pe hk.pe, fun Ie He σ I H ρ D0 s h => he.sn.weak s h fun d v I1 H1 s1 t r h => by
    obtain ⟨hd, h⟩ := outS_if h
    obtain ⟨ds, ho, h⟩ := outS_calm h
    have q := ownD_of ho
    obtain ⟨p, vs, ds', e1, h2, h3, h4, h5, h6⟩ := s1.own_ i _ hM q
    cases e1
    refine ⟨_, h2, hk.sn.weak s1 h fun dk vk I2 H2 s2 t2 rk h => ?_⟩
    cases rk with
    | int z =>
      have h : OutS X.K X.mg E Mb M Ie He I D0 (match ixN ds.length z with | some j => .ok (.nx (ρ.set i (some (.lst (ds.set j d))))) | none => .stuck) := h
      cases ej : ixN ds.length z with
      | none =>
        rw [ej] at h
        exact h.elim
      | some j =>
        rw [ej] at h
        obtain ⟨p', vs', ds', e1, g2, g3, g4, g5, g6⟩ := s2.own_ i _ hM q
        cases e1
        rw [h2] at g2
        cases g2
        exact ⟨p, vs', z, j, rfl, rfl, g5, by rw [g6.len]; exact ej, h _ I _ (s2.put hM q h2 (g6.set (r.scal hd) j)) (.refl _)⟩
    | _ => exact h.elim⟩
/-- y.append(x.pop(k)) -/
theorem ms_appPop (i j : Nat) {y : Str} {px pa pc py pb pd : Pos} {k : Expr} {tk : TE} {mk : Env → R D} (hk : ME X E k tk mk) (hM : i ∈ M := by decide) (hM2 : j ∈ M := by decide) (hij : i ≠ j := by decide)
    (hp : PE X k tk → PE X (.Call (.Attribute (.Name x px) "append" pa) [.Call (.Attribute (.Name y py) "pop" pb) [k] [] pd] [] pc) (tBM X.K "list" rAppend (tVar i) (tCons (tBM X.K "list" rPopAt (tVar j) (tCons tk tNil)) tNil))) (hs : swapsWith (.Call (.Attribute (.Name x px) "append" pa) [.Call (.Attribute (.Name y py) "pop" pb) [k] [] pd] [] pc) none pos.line X.env = pure false := by rfl) :
    MS X E Mb M M (.Expr (.Call (.Attribute (.Name x px) "append" pa) [.Call (.Attribute (.Name y py) "pop" pb) [k] [] pd] [] pc) pos) (tDrop (tBM X.K "list" rAppend (tVar i) (tCons (tBM X.K "list" rPopAt (tVar j) (tCons tk tNil)) tNil)))
      (fun ρ => appPopS i j ρ (mk ρ)) :=
  ⟨ps_expr (hp hk.pe) hs, fun Ie He σ I H ρ D0 s h => by
    obtain ⟨ds, ho, h⟩ := outS_calm h
    obtain ⟨es, ho2, h⟩ := outS_calm h
    have q := ownD_of ho
    have q2 := ownD_of ho2
    obtain ⟨p, vs, ds', e1, h2, h3, h4, h5, h6⟩ := s.own_ i _ hM q
    cases e1
    obtain ⟨p2, vs2, ds2, e1, g2, g3, g4, g5, g6⟩ := s.own_ j _ hM2 q2
    cases e1
    refine ⟨_, h2, .inl ⟨rfl, vs, SqL.of h5⟩, ⟨_, g2, .inl ⟨rfl, vs2, SqL.of g5⟩, hk.sn.weak s h fun dk vk I2 H2 s2 t2 rk h => ?_⟩⟩
    cases rk with
    | int z =>
      have h : OutS X.K X.mg E Mb M Ie He I D0 (match (if -(2 ^ 63) ≤ z ∧ z < 2 ^ 63 ∧ ds.length < LIM then seqIndex? z es.length else none) with
          | some n => match es[n]? with
            | some d => .ok (.nx ((ρ.set j (some (.lst (es.eraseIdx n)))).set i (some (.lst (ds ++ [d])))))
            | none => .stuck
          | none => .stuck) := h
      by_cases hb : -(2 ^ 63) ≤ z ∧ z < 2 ^ 63 ∧ ds.length < LIM
      · rw [if_pos hb] at h
        cases en : seqIndex? z es.length with
        | none =>
          rw [en] at h
          exact h.elim
        | some n =>
          rw [en] at h
          cases ed : es[n]? with
          | none =>
            have h : OutS X.K X.mg E Mb M Ie He I D0 (match es[n]? with | some d => .ok (.nx ((ρ.set j (some (.lst (es.eraseIdx n)))).set i (some (.lst (ds ++ [d]))))) | none => .stuck) := h
            rw [ed] at h
            exact h.elim
          | some d =>
            have h : OutS X.K X.mg E Mb M Ie He I D0 (match es[n]? with | some d => .ok (.nx ((ρ.set j (some (.lst (es.eraseIdx n)))).set i (some (.lst (ds ++ [d]))))) | none => .stuck) := h
            rw [ed] at h
            obtain ⟨b2, ws2, dz, e1, k2, k3, k4, k5, k6⟩ := s2.own_ j _ hM2 q2
            cases e1
            rw [g2] at k2
            cases k2
            obtain ⟨y0, hy, ry⟩ := k6.get ed
            refine ⟨p2, ws2, z, n, y0, rfl, rfl, k5, hb.1, hb.2.1, by rw [k6.len]; exact en, hy, ?_⟩
            have s3 := s2.put hM2 q2 g2 (k6.erase n)
            have q3 : (ρ.set j (some (.lst (es.eraseIdx n))))[i]? = some (some (.lst ds)) := by
              rw [List.getElem?_set_ne (Ne.symm hij)]
              exact q
            obtain ⟨b3, ws3, dz, e1, l2, l3, l4, l5, l6⟩ := s3.own_ i _ hM q3
            cases e1
            rw [h2] at l2
            cases l2
            exact ⟨p, ws3, y0, rfl, rfl, l5, lim_lt (by rw [l6.len]; omega), h _ I _ (s3.put hM q3 h2 (l6.app (.cons ry .nil))) (.refl _)⟩
      · rw [if_neg hb] at h
        exact h.elim
    | _ => exact h.elim⟩

/-! #### loops -/
def loopGo (ag : D → R As) (mb : Env → R Fl) : List D → Env → R Fl
  | [], ρ => .ok (.nx ρ)
  | d :: ds, ρ => calm (ag d) >>= fun as => mb (setE ρ as) >>= fun f => match f with
    | .nx ρ' => loopGo ag mb ds ρ'
    | .ct ρ' => loopGo ag mb ds ρ'
    | .bk ρ' => .ok (.nx ρ')
    | .rt d => .ok (.rt d)
def forS (ag : D → R As) (mb : Env → R Fl) (ρ : Env) (r : R (List D)) : R Fl := r >>= fun ds => loopGo ag mb ds ρ
def forR (rg : List D → R (List D)) (ag : D → R As) (mb : Env → R Fl) (ρ : Env) (r : R (List D)) : R Fl := r >>= fun ds => calm (rg ds) >>= fun es => loopGo ag mb es ρ
@[simp] theorem forS_ok (ag : D → R As) (mb : Env → R Fl) (ρ : Env) (ds : List D) : forS ag mb ρ (.ok ds) = loopGo ag mb ds ρ := rfl
@[simp] theorem forR_ok (rg : List D → R (List D)) (ag : D → R As) (mb : Env → R Fl) (ρ : Env) (ds : List D) : forR rg ag mb ρ (.ok ds) = (calm (rg ds) >>= fun es => loopGo ag mb es ρ) := rfl
theorem for_core {g : TG} {ag : D → R As} {tb : TS} {mb : Env → R Fl} {K : PySem.W.Frag} {mg : Str → Option Value} {Ie He I0 I1 H : Hp} {σ : L2.St} {ρ : Env} {D0 : Ends} {J : It} {ds : List D} (sg : SnG K g ag) (hM : AgIn ag (· ∉ M)) (sb : SnS K mg E M M M tb mb)
    (s : SE K M Ie He σ I1 H ρ) (it : ∀ I, Same I1 I → ItOk K I J ds) (h : OutS K mg E Mb M Ie He I0 D0 (loopGo ag mb ds ρ)) (k0 : Same I0 I1) :
    ∃ W : Nat → Nat → L2.St → Hp → Prop, (∃ m, W 0 m σ H) ∧ ∀ i m σ H, W i m σ H →
      (J.stop i H ∧ D0.nx σ H) ∨ (J.go i H ∧ ∃ N : L2.St → Hp → Prop, (∀ σ' H', N σ' H' → ∃ m', m' < m ∧ W (i + 1) m' σ' H') ∧ ∀ x H', J.yld i H x H' → g x σ H' fun σ2 H2 => tb { D0 with nx := N, ct := N, bk := D0.nx } σ2 H2) := by
  refine ⟨fun i m σ H => m = ds.length - i ∧ i ≤ ds.length ∧ ∃ I ρ, SE K M Ie He σ I H ρ ∧ Same I1 I ∧ OutS K mg E Mb M Ie He I0 D0 (loopGo ag mb (ds.drop i) ρ), ⟨_, rfl, Nat.zero_le _, I1, ρ, s, .refl _, h⟩, ?_⟩
  rintro i m σ2 H2 ⟨rfl, hi, I2, ρ2, s2, k2, h2⟩
  have hit := it I2 k2 I2 H2 (.refl _) s2.st.e
  by_cases hlt : i < ds.length
  · obtain ⟨hgo, hy⟩ := hit.1 i _ (List.getElem?_eq_getElem hlt)
    refine .inr ⟨hgo, fun σ' H' => ∃ I ρ, SE K M Ie He σ' I H' ρ ∧ Same I1 I ∧ OutS K mg E Mb M Ie He I0 D0 (loopGo ag mb (ds.drop (i + 1)) ρ), fun σ' H' hN => ⟨ds.length - (i + 1), by omega, rfl, hlt, hN⟩, fun x H' y => ?_⟩
    obtain ⟨I3, s3, rx⟩ := hy x H' y
    rw [List.drop_eq_getElem_cons hlt] at h2
    obtain ⟨as, ha, h2⟩ := outS_calm h2
    refine sg x σ2 I3 H' _ as _ s3.e rx ha fun us ar => ?_
    have s4 := (s2.step s3).setAll ar (hM _ _ ha)
    refine sb Ie He _ I3 H' _ _ s4 ?_
    have h2 : OutS K mg E Mb M Ie He I0 D0 (mb (setE ρ2 as) >>= fun f => match f with
      | .nx ρ' => loopGo ag mb (ds.drop (i + 1)) ρ'
      | .ct ρ' => loopGo ag mb (ds.drop (i + 1)) ρ'
      | .bk ρ' => .ok (.nx ρ')
      | .rt d => .ok (.rt d)) := h2
    cases e : mb (setE ρ2 as) with
    | err nm es =>
      rw [e] at h2
      exact h2
    | stuck =>
      rw [e] at h2
      exact h2
    | ok f =>
      rw [e] at h2
      cases f with
      | nx ρ' => exact fun σ5 I5 H5 s5 k5 => ⟨I5, ρ', s5, (k2.trans s3.i).trans k5, h2⟩
      | ct ρ' => exact fun σ5 I5 H5 s5 k5 => ⟨I5, ρ', s5, (k2.trans s3.i).trans k5, h2⟩
      | bk ρ' => exact fun σ5 I5 H5 s5 k5 => h2 σ5 I5 H5 s5 (((k0.trans k2).trans s3.i).trans k5)
      | rt d => exact h2
  · have e : i = ds.length := by omega
    subst e
    rw [List.drop_length] at h2
    exact .inl ⟨hit.2, h2 σ2 I2 H2 s2 (k0.trans k2)⟩
section
variable {X : Cx} {E : XK} {Mb M M' M1 : List Nat} {s : Stmt} {ss : List Stmt} {t u : TS} {ms mr : Env → R Fl} {e c : Expr} {te : TE} {m : Env → R D} {pos : Pos} {x : Str} {tt : TT} {mt : Env → R Bool} {tg : Expr} {g : TG} {ag : D → R As} {tb : TS} {mb : Env → R Fl} {body : List Stmt} {wi : TI} {mi : Env → R (List D)} {pos' : Pos}
theorem ms_for (hp : PassesOwn (model X.prog X.w) X.A X.env X.xe) (hc : X.calm = true) (hi : MI X E tg e wi mi) (hg : MG X tg g ag) (hM : AgIn ag (· ∉ M)) (hb : MSs X E M M M body tb mb) (hs : ∀ x, foldedSetIterable e X.env x = pure x := by intro _; rfl) :
    MS X E Mb M M (.For tg e body [] pos) (tFor wi g tb) (fun ρ => forS ag mb ρ (mi (wipeE ρ M))) :=
  ⟨ps_for hp hc hi.pe hg.pe hb.pe hs, fun Ie He σ I H ρ D0 s h => hi.sn.strong s h fun ds J I1 H1 s1 t it h => for_core hg.sn hM hb.sn s1 (fun I k => it.mono k) h t.i⟩
/-- over a range whose ends may be read off lists of one's own -/
theorem ms_forR1 {a : Expr} {p : Pos} {tas : TA} {ma : Env → R (List D)} (hp : PassesOwn (model X.prog X.w) X.A X.env X.xe) (hc : X.calm = true) (hr : Gl X "range") (hm : X.mg "range" = none) (ha : MA X E [a] tas ma) (hg : MG X tg g ag) (hM : AgIn ag (· ∉ M)) (hb : MSs X E M M M body tb mb)
    (hs : starEach [a] X.env = [(false, eval a X.env)] := by rfl) :
    MS X E Mb M M (.For tg (.Call (.Name "range" p) [a] [] pos) body [] pos') (tFor (iRng1 tas) g tb) (fun ρ => forR rg1 ag mb ρ (ma ρ)) :=
  ⟨ps_for hp hc (pi_range1 hr hm ha.pe hs) hg.pe hb.pe, fun Ie He σ I H ρ D0 s h => ha.sn.weak s h fun ds J I1 H1 s1 t rs h => by
    obtain ⟨es, he, h⟩ := outS_calm h
    unfold rg1 at he
    split at he
    · split at he
      · rename_i hj
        cases he
        obtain ⟨v, rfl, r⟩ := reps1 rs
        cases r
        exact ⟨_, rfl, hj.1, hj.2, for_core hg.sn hM hb.sn s1 (fun I k => it_rng) h (.refl _)⟩
      · cases he
    · cases he⟩
theorem ms_forR2 {a b : Expr} {p : Pos} {tas : TA} {ma : Env → R (List D)} (hp : PassesOwn (model X.prog X.w) X.A X.env X.xe) (hc : X.calm = true) (hr : Gl X "range") (hm : X.mg "range" = none) (ha : MA X E [a, b] tas ma) (hg : MG X tg g ag) (hM : AgIn ag (· ∉ M)) (hb : MSs X E M M M body tb mb)
    (hs : starEach [a, b] X.env = [(false, eval a X.env), (false, eval b X.env)] := by rfl) (hs2 : starEach [b] X.env = [(false, eval b X.env)] := by rfl) :
    MS X E Mb M M (.For tg (.Call (.Name "range" p) [a, b] [] pos) body [] pos') (tFor (iRng2 tas) g tb) (fun ρ => forR rg2 ag mb ρ (ma ρ)) :=
  ⟨ps_for hp hc (pi_range2 hr hm ha.pe hs hs2) hg.pe hb.pe, fun Ie He σ I H ρ D0 s h => ha.sn.weak s h fun ds J I1 H1 s1 t rs h => by
    obtain ⟨es, he, h⟩ := outS_calm h
    unfold rg2 at he
    split at he
    · split at he
      · rename_i hj
        cases he
        obtain ⟨v, w, rfl, r, r2⟩ := reps2 rs
        cases r
        cases r2
        exact ⟨_, _, rfl, hj, for_core hg.sn hM hb.sn s1 (fun I k => it_rng) h (.refl _)⟩
      · cases he
    · cases he⟩
theorem ms_forR3 {a b c : Expr} {p : Pos} {tas : TA} {ma : Env → R (List D)} (hp : PassesOwn (model X.prog X.w) X.A X.env X.xe) (hc : X.calm = true) (hr : Gl X "range") (hm : X.mg "range" = none) (ha : MA X E [a, b, c] tas ma) (hg : MG X tg g ag) (hM : AgIn ag (· ∉ M)) (hb : MSs X E M M M body tb mb)
    (hi : PA X [a, b, c] tas → PI X tg (.Call (.Name "range" p) [a, b, c] [] pos) (iRng3 tas)) :
    MS X E Mb M M (.For tg (.Call (.Name "range" p) [a, b, c] [] pos) body [] pos') (tFor (iRng3 tas) g tb) (fun ρ => forR rg3 ag mb ρ (ma ρ)) :=
  ⟨ps_for hp hc (hi ha.pe) hg.pe hb.pe, fun Ie He σ I H ρ D0 s h => ha.sn.weak s h fun ds J I1 H1 s1 t rs h => by
    obtain ⟨es, he, h⟩ := outS_calm h
    unfold rg3 at he
    split at he
    · split at he
      · rename_i hj
        obtain ⟨hc1, h1, h2, h3, h4⟩ := hj
        subst hc1
        cases he
        cases rs with
        | cons r rs =>
          obtain ⟨v, w, rfl, r2, r3⟩ := reps2 rs
          cases r
          cases r2
          cases r3
          exact ⟨_, _, _, _, rfl, RgC.neg h1 h2 h3 h4, for_core hg.sn hM hb.sn s1 (fun I k => it_rngC) h (.refl _)⟩
      · cases he
    · cases he⟩
def whileGo (mt : Env → R Bool) (mb : Env → R Fl) : Nat → Env → R Fl
  | 0, _ => .stuck
  | n + 1, ρ => mt ρ >>= fun b => if b = true then mb ρ >>= fun f => match f with
      | .nx ρ' => whileGo mt mb n ρ'
      | .ct ρ' => whileGo mt mb n ρ'
      | .bk ρ' => .ok (.nx ρ')
      | .rt d => .ok (.rt d)
    else .ok (.nx ρ)
theorem ms_while (n : Nat) (hp : PassesOwn (model X.prog X.w) X.A X.env X.xe) (hc : MT X E c tt mt) (hb : MSs X E M M M body tb mb) : MS X E Mb M M (.While c body [] pos) (tWhile tt tb) (whileGo mt mb n) :=
  ⟨ps_while hp hc.pe hb.pe, fun Ie He σ I H ρ D0 s h => by
    refine ⟨fun m σ H => ∃ I1 ρ, SE X.K M Ie He σ I1 H ρ ∧ Same I I1 ∧ OutS X.K X.mg E Mb M Ie He I D0 (whileGo mt mb m ρ), ⟨n, I, ρ, s, .refl _, h⟩, ?_⟩
    rintro m σ2 H2 ⟨I2, ρ2, s2, k2, h2⟩
    cases m with
    | zero => exact h2.elim
    | succ m =>
      refine hc.sn.weak s2 h2 fun b b' I3 H3 s3 t rb h3 => ?_
      cases rb
      cases b with
      | false => exact h3 σ2 I2 H3 s3 k2
      | true =>
        refine ⟨fun σ H => ∃ I1 ρ, SE X.K M Ie He σ I1 H ρ ∧ Same I I1 ∧ OutS X.K X.mg E Mb M Ie He I D0 (whileGo mt mb m ρ), fun σ' H' hN => ⟨m, Nat.lt_succ_self _, hN⟩, ?_⟩
        refine hb.sn Ie He _ I2 H3 _ _ s3 ?_
        have h3 : OutS X.K X.mg E Mb M Ie He I D0 (mb ρ2 >>= fun f => match f with
          | .nx ρ' => whileGo mt mb m ρ'
          | .ct ρ' => whileGo mt mb m ρ'
          | .bk ρ' => .ok (.nx ρ')
          | .rt d => .ok (.rt d)) := h3
        cases e : mb ρ2 with
        | err nm es =>
          rw [e] at h3
          exact h3
        | stuck =>
          rw [e] at h3
          exact h3
        | ok f =>
          rw [e] at h3
          cases f with
          | nx ρ' => exact fun σ5 I5 H5 s5 k5 => ⟨I5, ρ', s5, k2.trans k5, h3⟩
          | ct ρ' => exact fun σ5 I5 H5 s5 k5 => ⟨I5, ρ', s5, k2.trans k5, h3⟩
          | bk ρ' => exact fun σ5 I5 H5 s5 k5 => h3 σ5 I5 H5 s5 (k2.trans k5)
          | rt d => exact h3⟩
end

/-! #### what is known of targets -/
def AgsIn (ag : List D → R As) (P : Nat → Prop) : Prop := ∀ d as, ag d = .ok as → ∀ p ∈ as, P p.1
theorem agin_name {P : Nat → Prop} {i : Nat} (h : P i) : AgIn (agV i) P := fun d as e p hp => by
  cases e
  cases List.mem_singleton.mp hp
  exact h
theorem agsin_nil {P : Nat → Prop} : AgsIn agN P := fun d as e p hp => by
  cases d with
  | nil =>
    cases e
    cases hp
  | cons _ _ => cases e
theorem agsin_cons {P : Nat → Prop} {ag : D → R As} {bg : List D → R As} (h1 : AgIn ag P) (h2 : AgsIn bg P) : AgsIn (agC ag bg) P := fun d as e p hp => by
  cases d with
  | nil => cases e
  | cons d ds =>
    obtain ⟨a, ha, e⟩ := bind_ok (r := ag d) e
    obtain ⟨b, hb, e⟩ := bind_ok (r := bg ds) e
    cases e
    rcases List.mem_append.mp hp with hp | hp
    · exact h1 d a ha p hp
    · exact h2 ds b hb p hp
theorem agin_tup {P : Nat → Prop} {n : Nat} {ag : List D → R As} (h : AgsIn ag P) : AgIn (tupAs n ag) P := fun d as e p hp => by
  cases d with
  | tup ds =>
    have e : (if ds.length = n then ag ds else .stuck) = R.ok as := e
    by_cases hl : ds.length = n
    · rw [if_pos hl] at e
      exact h ds as e p hp
    · rw [if_neg hl] at e
      cases e
  | _ => cases e
/-! #### a def by its body -/
def startE (n : Nat) (ds : List D) : Env := ds.map some ++ List.replicate (n - ds.length) none
/-- what the body hands back -/
def endD : Fl → R D
  | .nx _ => .ok .non
  | .rt d => .ok d
  | _ => .stuck
def runF (n : Nat) (ms : Env → R Fl) (ds : List D) : R D := calm (ms (startE n ds)) >>= endD
theorem start_SE {K : PySem.W.Frag} {M : List Nat} {I H : Hp} {N : List Str} {vs : List V} {ds : List D} (ex : Same I H) (rs : Reps K I vs ds) (hM : ∀ i ∈ M, ds.length ≤ i) : SE K M I H (start N vs) I H (startE N.length ds) := by
  have hget : ∀ (i : Nat) (d : D), (startE N.length ds)[i]? = some (some d) → i < ds.length ∧ ds[i]? = some d := fun i d q => by
    unfold startE at q
    by_cases hi : i < ds.length
    · rw [List.getElem?_append_left (by rw [List.length_map]; exact hi), List.getElem?_map] at q
      refine ⟨hi, ?_⟩
      cases z : ds[i]? with
      | none =>
        rw [z] at q
        cases q
      | some e =>
        rw [z] at q
        cases q
        rfl
    · rw [List.getElem?_append_right (by rw [List.length_map]; omega), List.getElem?_replicate] at q
      split at q <;> cases q
  refine ⟨.refl ex, ?_, fun i d _ q => ?_, fun i d hi q => ?_, fun i j p d e hi hj hne q1 q2 => ?_⟩
  · unfold L2.start startE
    rw [List.length_append, List.length_append, List.length_map, List.length_map, List.length_replicate, List.length_replicate, rs.len]
  · obtain ⟨hi, hd⟩ := hget i d q
    obtain ⟨v, hv, r⟩ := rs.get hd
    refine ⟨v, ?_, r⟩
    unfold L2.start
    rw [List.getElem?_append_left (by rw [List.length_map, rs.len]; exact hi), List.getElem?_map, hv]
    rfl
  · have a := (hget i d q).1
    have b := hM i hi
    omega
  · have a := (hget i d q1).1
    have b := hM i hi
    omega
theorem fn_mir {P : Program} {w : World} {K : PySem.W.Frag} {mg : Str → Option Value} {base : Heap} {x qual : Str} {st : Stmt} {f : Addr} {fd : FuncData} {N ps : List Str} {k : Nat} {M M' : List Nat} {ms : Env → R Fl} (F : Fun K x qual st f fd) (S : FnScope N ps (defScope st)) (hM : ∀ i ∈ M, ps.length ≤ i)
    (hb : ∀ (cdv : Value) (A : Around) (outer : List PySem.Env) (s : Shared) (H : Hp) (E : XK), Room k (A.deeper (PyProof.Rows.envOfC qual (defScope st) s.heap.objs.size f cdv)) →
      ∃ ts, MSs (cxOf CX0 P w K mg base N qual (defScope st) f cdv A outer s H E).nox E0 [] M M' (defBody st) ts ms) : FnOk P w K mg base CX0 (k + 1) f fd ps (spOf K mg ps.length (runF N.length ms)) := by
  refine F.ok S (fun vs H Q E h => spOf.len h) (fun cdv A outer s H vs Q E hr h => ?_)
  obtain ⟨I, ds, hl, ex, rs, h⟩ := h
  obtain ⟨ts, hp⟩ := hb cdv A outer s H E hr
  refine ⟨ts, hp.pe, hp.sn I H _ I H _ _ (start_SE ex rs (by rw [hl]; exact hM)) ?_⟩
  unfold runF at h
  cases e : ms (startE N.length ds) with
  | err nm es =>
    rw [e] at h
    exact h.elim
  | stuck =>
    rw [e] at h
    exact h.elim
  | ok fl =>
    rw [e] at h
    cases fl with
    | nx ρ => exact fun σ I1 H1 s1 _ => h .non I1 H1 s1.st .non
    | rt d => exact fun v I1 H1 s1 r => h v I1 H1 s1 r
    | bk ρ => exact h.elim
    | ct ρ => exact h.elim
end
end DL
namespace DL
open PySem PySem.Spec L2

/-! ### comprehensions of two walks -/
def lc2Go (ag : D → R As) (mt : Env → R Bool) (mi1 : Env → R (List D)) (ag1 : D → R As) (mt1 : Env → R Bool) (me : Env → R D) (vs1 : List Nat) (ρ : Env) : List D → R (List D)
  | [] => .ok []
  | d :: ds => calm (ag d) >>= fun as => calm (mt (setE ρ as)) >>= fun b => if b = true then
      calm (mi1 (setE ρ as)) >>= fun es => lcGo ag1 mt1 me (wipeE (setE ρ as) vs1) es >>= fun r1 => lc2Go ag mt mi1 ag1 mt1 me vs1 ρ ds >>= fun r => .ok (r1 ++ r)
    else lc2Go ag mt mi1 ag1 mt1 me vs1 ρ ds
def lc2M (vs vs1 : List Nat) (mi : Env → R (List D)) (ag : D → R As) (mt : Env → R Bool) (mi1 : Env → R (List D)) (ag1 : D → R As) (mt1 : Env → R Bool) (me : Env → R D) : Env → R D :=
  fun ρ => mi ρ >>= fun ds => calm (lc2Go ag mt mi1 ag1 mt1 me vs1 (wipeE ρ vs) ds) >>= fun r => if r.length ≤ LIM then .ok (.lst r) else .stuck
theorem slots_in {K : PySem.W.Frag} {I : Hp} {us : List (Nat × V)} {as : As} {vs : List Nat} (ar : AR K I us as) (h : ∀ p ∈ as, p.1 ∈ vs) : ∀ p ∈ us, p.1 ∈ vs := fun p hp => by
  have hm : p.1 ∈ as.map (·.1) := by
    rw [← ar.slots]
    exact List.mem_map_of_mem hp
  obtain ⟨q, hq, e⟩ := List.mem_map.mp hm
  rw [← e]
  exact h q hq
section
variable {E : XK} {wi wi1 : TI} {g g1 : TG} {tt tt1 : TT} {te : TE} {mi mi1 : Env → R (List D)} {ag ag1 : D → R As} {mt mt1 : Env → R Bool} {me : Env → R D}
/-- the accumulated list without a count -/
structure LkAt (K : PySem.W.Frag) (I1 H1 : Hp) (D0 : Addr) (accD : List D) (I2 H : Hp) : Prop where
  at_ : LcAt K I1 H1 D0 accD.length accD I2 H
theorem LkAt.step {K : PySem.W.Frag} {I1 H1 I2 H I3 H3 : Hp} {D0 : Addr} {accD : List D} (p : LkAt K I1 H1 D0 accD I2 H) (s : Stp I2 H I3 H3) : LkAt K I1 H1 D0 accD I3 H3 := ⟨p.at_.step s⟩
theorem LkAt.push {K : PySem.W.Frag} {I1 H1 I2 H : Hp} {D0 : Addr} {accD : List D} {y : V} {d : D} (p : LkAt K I1 H1 D0 accD I2 H) (hD : H1 D0 = none) (r : Rep K I2 y d) (hn : accD.length < LIM) : ∃ acc, H D0 = some (.lst acc) ∧ acc.length < sizeLine ∧ LkAt K I1 H1 D0 (accD ++ [d]) I2 (upd H D0 (.lst (acc ++ [y]))) := by
  obtain ⟨acc, h1, h2, h3⟩ := p.at_.push hD r hn
  exact ⟨acc, h1, h2, ⟨by rw [List.length_append, List.length_singleton]; exact h3⟩⟩
theorem lc2_snd {K : PySem.W.Frag} {mg : Str → Option Value} {vs vs1 : List Nat} (si : Sn K mg E (ItOk K) wi mi) (sg : SnG K g ag) (st : Sn K mg E0 rB tt mt) (si1 : Sn K mg E0 (ItOk K) wi1 mi1) (sg1 : SnG K g1 ag1) (st1 : Sn K mg E0 rB tt1 mt1) (se : Sn K mg E0 (Rep K) te me)
    (hv : AgIn ag (· ∈ vs)) (hv1 : AgIn ag1 (· ∈ vs1)) : Sn K mg E (Rep K) (tLc2 wi g tt wi1 g1 tt1 te vs vs1) (lc2M vs vs1 mi ag mt mi1 ag1 mt1 me) := fun σ I H ρ Q re ex h => by
  refine si.run re ex h fun ds J I1 H1 _ s1 it h D0 hD => ?_
  cases eo : lc2Go ag mt mi1 ag1 mt1 me vs1 (wipeE ρ vs) ds with
  | err _ _ =>
    rw [eo] at h
    exact h.elim
  | stuck =>
    rw [eo] at h
    exact h.elim
  | ok out =>
    rw [eo] at h
    obtain ⟨hl, h⟩ := out_if h
    refine ⟨fun i m H => m = ds.length - i ∧ i ≤ ds.length ∧ ∃ I2 accD r, LkAt K I1 H1 D0 accD I2 H ∧ lc2Go ag mt mi1 ag1 mt1 me vs1 (wipeE ρ vs) (ds.drop i) = .ok r ∧ accD ++ r = out, ⟨ds.length, by simp, Nat.zero_le _, I1, [], out, ⟨.start s1.e hD⟩, eo, rfl⟩, ?_⟩
    rintro i m H2 ⟨rfl, hi, I2, accD, r, p, hr, ho⟩
    have hit := it I2 H2 p.at_.i p.at_.e
    by_cases hlt : i < ds.length
    · obtain ⟨hgo, hy⟩ := hit.1 i _ (List.getElem?_eq_getElem hlt)
      refine .inr ⟨hgo, fun H' => ∃ I2 accD r, LkAt K I1 H1 D0 accD I2 H' ∧ lc2Go ag mt mi1 ag1 mt1 me vs1 (wipeE ρ vs) (ds.drop (i + 1)) = .ok r ∧ accD ++ r = out, fun H' hN => ⟨ds.length - (i + 1), by omega, rfl, hlt, hN⟩, fun x H' y => ?_⟩
      obtain ⟨I3, s3, rx⟩ := hy x H' y
      rw [List.drop_eq_getElem_cons hlt] at hr
      unfold lc2Go at hr
      obtain ⟨as, ha, hr⟩ := bind_ok hr
      have ha := calm_of ha
      obtain ⟨b, hb, hr⟩ := bind_ok hr
      have hb := calm_of hb
      refine sg x _ I3 H' _ as _ s3.e rx ha fun us ar => ?_
      refine ⟨by rw [wipe_setS (slots_in ar (hv _ _ ha)), wipe_wipe], ?_⟩
      have re3 : RE K I3 (setS (wipe σ vs) us) (setE (wipeE ρ vs) as) := RE.setAll ar (((re.mono s1.i).mono (p.at_.i.trans s3.i)).wipe vs)
      have p3 := p.step s3
      refine st _ I3 H' _ _ re3 s3.e ?_
      rw [hb]
      intro b' I4 H4 s4 eb
      have eb : b' = b := eb
      subst eb
      have p4 := p3.step s4
      cases b' with
      | false =>
        rw [if_neg (by decide)] at hr
        exact ⟨I4, accD, r, p4, hr, ho⟩
      | true =>
        rw [if_pos rfl] at hr
        obtain ⟨es, he, hr⟩ := bind_ok hr
        have he := calm_of he
        obtain ⟨r1, hr1, hr⟩ := bind_ok hr
        obtain ⟨r2, hr2, hr⟩ := bind_ok hr
        cases hr
        have re4 := re3.mono s4.i
        show wi1 _ H4 _
        refine si1 _ I4 H4 _ _ re4 s4.e ?_
        rw [he]
        intro J1 I5 H5 s5 it1
        have p5 := p4.step s5
        refine ⟨fun j k H => k = es.length - j ∧ j ≤ es.length ∧ ∃ I6 accE q, LkAt K I1 H1 D0 accE I6 H ∧ Same I5 I6 ∧ lcGo ag1 mt1 me (wipeE (setE (wipeE ρ vs) as) vs1) (es.drop j) = .ok q ∧ accE ++ (q ++ r2) = out, ⟨es.length, by simp, Nat.zero_le _, I5, accD, r1, p5, .refl _, hr1, ho⟩, ?_⟩
        rintro j k H6 ⟨rfl, hj, I6, accE, q, p6, k6, hq, ho2⟩
        have hit1 := it1 I6 H6 k6 p6.at_.e
        by_cases hlt1 : j < es.length
        · obtain ⟨hgo1, hy1⟩ := hit1.1 j _ (List.getElem?_eq_getElem hlt1)
          refine .inr ⟨hgo1, fun H' => ∃ I6 accE q, LkAt K I1 H1 D0 accE I6 H' ∧ Same I5 I6 ∧ lcGo ag1 mt1 me (wipeE (setE (wipeE ρ vs) as) vs1) (es.drop (j + 1)) = .ok q ∧ accE ++ (q ++ r2) = out, fun H' hN => ⟨es.length - (j + 1), by omega, rfl, hlt1, hN⟩, fun x1 H7 y1 => ?_⟩
          obtain ⟨I7, s7, rx1⟩ := hy1 x1 H7 y1
          rw [List.drop_eq_getElem_cons hlt1] at hq
          unfold lcGo at hq
          obtain ⟨as1, ha1, hq⟩ := bind_ok hq
          have ha1 := calm_of ha1
          obtain ⟨b1, hb1, hq⟩ := bind_ok hq
          have hb1 := calm_of hb1
          refine sg1 x1 _ I7 H7 _ as1 _ s7.e rx1 ha1 fun us1 ar1 => ?_
          refine ⟨by rw [wipe_setS (slots_in ar1 (hv1 _ _ ha1)), wipe_wipe], ?_⟩
          have re7 : RE K I7 (setS (wipe (setS (wipe σ vs) us) vs1) us1) (setE (wipeE (setE (wipeE ρ vs) as) vs1) as1) := RE.setAll ar1 (((re4.mono s5.i).mono (k6.trans s7.i)).wipe vs1)
          have p7 := p6.step s7
          refine st1 _ I7 H7 _ _ re7 s7.e ?_
          rw [hb1]
          intro b2 I8 H8 s8 eb1
          have eb1 : b2 = b1 := eb1
          subst eb1
          have p8 := p7.step s8
          have k8 := (k6.trans s7.i).trans s8.i
          cases b2 with
          | false =>
            rw [if_neg (by decide)] at hq
            exact ⟨I8, accE, q, p8, k8, hq, ho2⟩
          | true =>
            rw [if_pos rfl] at hq
            obtain ⟨yd, hyd, hq⟩ := bind_ok hq
            have hyd := calm_of hyd
            obtain ⟨q', hq', hq⟩ := bind_ok hq
            cases hq
            show te _ H8 _
            refine se _ I8 H8 _ _ (re7.mono s8.i) s8.e ?_
            rw [hyd]
            intro yv I9 H9 s9 ry
            have hlen : accE.length < LIM := by
              have := congrArg List.length ho2
              rw [List.length_append, List.length_append, List.length_cons] at this
              omega
            obtain ⟨acc, h1, h2, p9⟩ := (p8.step s9).push hD ry hlen
            exact ⟨acc, h1, h2, I9, _, q', p9, k8.trans s9.i, hq', by rw [List.append_assoc]; exact ho2⟩
        · have e : j = es.length := by omega
          subst e
          rw [List.drop_length] at hq
          cases hq
          exact .inl ⟨hit1.2, I6, accE, r2, p6, hr2, ho2⟩
    · have e : i = ds.length := by omega
      subst e
      rw [List.drop_length] at hr
      cases hr
      obtain ⟨I', s', r'⟩ := p.at_.done hD
      rw [List.append_nil] at ho
      subst ho
      exact .inl ⟨hit.2, h.there s' r'⟩
end
section
variable {X : Cx} {E : XK} {elt tg iter tg1 iter1 : Expr} {ifs ifs1 : List Expr} {scope : Scope} {own : List (Str × Nat)} {vs1 : List Nat} {pos : Pos} {wi wi1 : TI} {g g1 : TG} {tt tt1 : TT} {te : TE} {mi mi1 : Env → R (List D)} {ag ag1 : D → R As} {mt mt1 : Env → R Bool} {me : Env → R D}
theorem me_lc2 (hc : X.calm = true) (hN : X.N.Nodup) (hi : MI X E tg iter wi mi) (ok : BlkOk X.N X.env.scope scope own) (hw : ∀ i ∈ vs1, i ∈ own.map (·.2))
    (hg : ∀ (s : Shared) (H : Hp) (C : Addr) (cl : List (Str × Addr)) (fp : List Addr), MG (X.blk s H scope (compEnvC scope cl C X.env) fp) tg g ag) (ht : ∀ (s : Shared) (H : Hp) (C : Addr) (cl : List (Str × Addr)) (fp : List Addr), MTs (X.blk s H scope (compEnvC scope cl C X.env) fp) E0 ifs tt mt)
    (hi1 : ∀ (s : Shared) (H : Hp) (C : Addr) (cl : List (Str × Addr)) (fp : List Addr), MI (X.blk s H scope (compEnvC scope cl C X.env) fp) E0 tg1 iter1 wi1 mi1)
    (hg1 : ∀ (s : Shared) (H : Hp) (C : Addr) (cl : List (Str × Addr)) (fp : List Addr), MG (X.blk s H scope (compEnvC scope cl C X.env) fp) tg1 g1 ag1) (ht1 : ∀ (s : Shared) (H : Hp) (C : Addr) (cl : List (Str × Addr)) (fp : List Addr), MTs (X.blk s H scope (compEnvC scope cl C X.env) fp) E0 ifs1 tt1 mt1)
    (he : ∀ (s : Shared) (H : Hp) (C : Addr) (cl : List (Str × Addr)) (fp : List Addr), ME (X.blk s H scope (compEnvC scope cl C X.env) fp) E0 elt te me) (hv : AgIn ag (· ∈ own.map (·.2))) (hv1 : AgIn ag1 (· ∈ vs1)) (hs : ∀ x, foldedSetIterable iter X.env x = pure x := by intro _; rfl) (hs1 : ∀ env x, foldedSetIterable iter1 env x = pure x := by intro _ _; rfl) :
    ME X E (.ListComp elt [⟨tg, iter, ifs, 0⟩, ⟨tg1, iter1, ifs1, 0⟩] scope pos) (tLc2 wi g tt wi1 g1 tt1 te (own.map (·.2)) vs1) (lc2M (own.map (·.2)) vs1 mi ag mt mi1 ag1 mt1 me) :=
  ⟨pe_lc2 hc hN hi.pe ok hw (fun s H C cl fp => (hg s H C cl fp).pe) (fun s H C cl fp => (ht s H C cl fp).pe) (fun s H C cl fp => (hi1 s H C cl fp).pe) (fun s H C cl fp => (hg1 s H C cl fp).pe) (fun s H C cl fp => (ht1 s H C cl fp).pe) (fun s H C cl fp => (he s H C cl fp).pe) hs hs1,
    lc2_snd hi.sn (hg X.s_0 X.H_0 0 [] []).sn (ht X.s_0 X.H_0 0 [] []).sn (hi1 X.s_0 X.H_0 0 [] []).sn (hg1 X.s_0 X.H_0 0 [] []).sn (ht1 X.s_0 X.H_0 0 [] []).sn (he X.s_0 X.H_0 0 [] []).sn hv hv1⟩
end

/-! ### a comprehension stored at once -/
section
variable {X : Cx} {E : XK} {Mb M : List Nat} {elt tg iter tg1 iter1 : Expr} {ifs ifs1 : List Expr} {scope : Scope} {own : List (Str × Nat)} {vs1 : List Nat} {pos spos py : Pos} {y : Str} {wi wi1 : TI} {g g1 : TG} {tt tt1 : TT} {te : TE} {mi mi1 : Env → R (List D)} {ag ag1 : D → R As} {mt mt1 : Env → R Bool} {me : Env → R D}
theorem ms_setLc (i : Nat) (hc : X.calm = true) (hN : X.N.Nodup) (hi : MI X E tg iter wi mi) (ok : BlkOk X.N X.env.scope scope own)
    (hg : ∀ (s : Shared) (H : Hp) (C : Addr) (cl : List (Str × Addr)) (fp : List Addr), MG (X.blk s H scope (compEnvC scope cl C X.env) fp) tg g ag) (ht : ∀ (s : Shared) (H : Hp) (C : Addr) (cl : List (Str × Addr)) (fp : List Addr), MTs (X.blk s H scope (compEnvC scope cl C X.env) fp) E0 ifs tt mt)
    (he : ∀ (s : Shared) (H : Hp) (C : Addr) (cl : List (Str × Addr)) (fp : List Addr), ME (X.blk s H scope (compEnvC scope cl C X.env) fp) E0 elt te me) (hv : AgIn ag (· ∈ own.map (·.2)))
    (hsw : swapsWith (.ListComp elt [⟨tg, iter, ifs, 0⟩] scope pos) (some (.Name y py)) spos.line X.env = pure true) (hy : X.N[i]? = some y := by rfl) (hyl : X.env.scope.names.lookup y = some .local := by rfl) (hM : i ∉ M := by decide) (hs : ∀ x, foldedSetIterable iter X.env x = pure x := by intro _; rfl) :
    MS X E Mb M M (.Assign [.Name y py] (.ListComp elt [⟨tg, iter, ifs, 0⟩] scope pos) spos) (tAsg (tLc wi g tt te (own.map (·.2))) (gName i)) (fun ρ => asg i ρ (lcM (own.map (·.2)) mi ag mt me (wipeE ρ M))) :=
  ⟨ps_setLc hc hN hy hyl hsw hi.pe ok (fun s H C cl fp => (hg s H C cl fp).pe) (fun s H C cl fp => (ht s H C cl fp).pe) (fun s H C cl fp => (he s H C cl fp).pe) hs, fun Ie He σ I H ρ D0 s h =>
    (lc_snd hi.sn (hg X.s_0 X.H_0 0 [] []).sn (ht X.s_0 X.H_0 0 [] []).sn (he X.s_0 X.H_0 0 [] []).sn hv).strong s h fun d v I1 H1 s1 t r q => q _ I1 H1 (s1.set hM r) t.i⟩
theorem ms_setLc2 (i : Nat) (hc : X.calm = true) (hN : X.N.Nodup) (hi : MI X E tg iter wi mi) (ok : BlkOk X.N X.env.scope scope own) (hw : ∀ i ∈ vs1, i ∈ own.map (·.2))
    (hg : ∀ (s : Shared) (H : Hp) (C : Addr) (cl : List (Str × Addr)) (fp : List Addr), MG (X.blk s H scope (compEnvC scope cl C X.env) fp) tg g ag) (ht : ∀ (s : Shared) (H : Hp) (C : Addr) (cl : List (Str × Addr)) (fp : List Addr), MTs (X.blk s H scope (compEnvC scope cl C X.env) fp) E0 ifs tt mt)
    (hi1 : ∀ (s : Shared) (H : Hp) (C : Addr) (cl : List (Str × Addr)) (fp : List Addr), MI (X.blk s H scope (compEnvC scope cl C X.env) fp) E0 tg1 iter1 wi1 mi1)
    (hg1 : ∀ (s : Shared) (H : Hp) (C : Addr) (cl : List (Str × Addr)) (fp : List Addr), MG (X.blk s H scope (compEnvC scope cl C X.env) fp) tg1 g1 ag1) (ht1 : ∀ (s : Shared) (H : Hp) (C : Addr) (cl : List (Str × Addr)) (fp : List Addr), MTs (X.blk s H scope (compEnvC scope cl C X.env) fp) E0 ifs1 tt1 mt1)
    (he : ∀ (s : Shared) (H : Hp) (C : Addr) (cl : List (Str × Addr)) (fp : List Addr), ME (X.blk s H scope (compEnvC scope cl C X.env) fp) E0 elt te me) (hv : AgIn ag (· ∈ own.map (·.2))) (hv1 : AgIn ag1 (· ∈ vs1))
    (hsw : swapsWith (.ListComp elt [⟨tg, iter, ifs, 0⟩, ⟨tg1, iter1, ifs1, 0⟩] scope pos) (some (.Name y py)) spos.line X.env = pure true) (hy : X.N[i]? = some y := by rfl) (hyl : X.env.scope.names.lookup y = some .local := by rfl) (hM : i ∉ M := by decide) (hs : ∀ x, foldedSetIterable iter X.env x = pure x := by intro _; rfl) (hs1 : ∀ env x, foldedSetIterable iter1 env x = pure x := by intro _ _; rfl) :
    MS X E Mb M M (.Assign [.Name y py] (.ListComp elt [⟨tg, iter, ifs, 0⟩, ⟨tg1, iter1, ifs1, 0⟩] scope pos) spos) (tAsg (tLc2 wi g tt wi1 g1 tt1 te (own.map (·.2)) vs1) (gName i)) (fun ρ => asg i ρ (lc2M (own.map (·.2)) vs1 mi ag mt mi1 ag1 mt1 me (wipeE ρ M))) :=
  ⟨ps_setLc2 hc hN hy hyl hsw hi.pe ok hw (fun s H C cl fp => (hg s H C cl fp).pe) (fun s H C cl fp => (ht s H C cl fp).pe) (fun s H C cl fp => (hi1 s H C cl fp).pe) (fun s H C cl fp => (hg1 s H C cl fp).pe) (fun s H C cl fp => (ht1 s H C cl fp).pe) (fun s H C cl fp => (he s H C cl fp).pe) hs hs1, fun Ie He σ I H ρ D0 s h =>
    (lc2_snd hi.sn (hg X.s_0 X.H_0 0 [] []).sn (ht X.s_0 X.H_0 0 [] []).sn (hi1 X.s_0 X.H_0 0 [] []).sn (hg1 X.s_0 X.H_0 0 [] []).sn (ht1 X.s_0 X.H_0 0 [] []).sn (he X.s_0 X.H_0 0 [] []).sn hv hv1).strong s h fun d v I1 H1 s1 t r q => q _ I1 H1 (s1.set hM r) t.i⟩
end
end DL
namespace DL
open PySem PySem.Spec L2

/-! ### new lists for slots of one's own -/
def OutN (K : PySem.W.Frag) (mg : Str → Option Value) (E : XK) (I H : Hp) (r : R (List D)) (Q : VK) : Prop := match r with
  | .ok ds => ∀ p vs I' H', Stp I H I' H' → I' p = none → H p = none → H' p = some (.lst vs) → Reps K I' vs ds → Q (.ref p) H'
  | .err nm ds => ∀ C od I' H', Stp I H I' H' → XRep K mg I' H' nm ds C od → E C od H'
  | .stuck => False
def SnN (K : PySem.W.Frag) (mg : Str → Option Value) (E : XK) (te : TE) (m : Env → R (List D)) : Prop :=
  ∀ (σ : L2.St) (I H : Hp) (ρ : Env) (Q : VK), RE K I σ ρ → Same I H → OutN K mg E I H (m ρ) Q → te σ H Q
structure MN (X : Cx) (E : XK) (e : Expr) (t : TE) (m : Env → R (List D)) : Prop where
  pe : PE X e t
  sn : SnN X.K X.mg E t m
theorem OutN.mono {K : PySem.W.Frag} {mg : Str → Option Value} {E : XK} {I H I' H' : Hp} {r : R (List D)} {Q : VK} (s : Stp I H I' H') (h : OutN K mg E I H r Q) : OutN K mg E I' H' r Q := by
  cases r with
  | ok d => exact fun p vs I2 H2 t n1 n2 => h p vs I2 H2 (s.trans t) n1 (s.h.free n2)
  | err nm ds => exact fun C od I2 H2 t q => h C od I2 H2 (s.trans t) q
  | stuck => exact h
theorem Sn.runN {K : PySem.W.Frag} {mg : Str → Option Value} {E : XK} {I H : Hp} {σ : L2.St} {ρ : Env} {α β : Type} {rp : Hp → β → α → Prop} {te : L2.St → Hp → (β → Hp → Prop) → Prop} {m : Env → R α} {k : α → R (List D)} {P : β → Hp → Prop} {Q : VK} (h : Sn K mg E rp te m) (re : RE K I σ ρ) (ex : Same I H) (hq : OutN K mg E I H (m ρ >>= k) Q)
    (hk : ∀ d v I' H', m ρ = .ok d → Stp I H I' H' → rp I' v d → OutN K mg E I' H' (k d) Q → P v H') : te σ H P := by
  refine h σ I H ρ P re ex ?_
  cases e : m ρ with
  | ok d =>
    rw [e] at hq
    exact fun v I' H' s q => hk d v I' H' e s q (OutN.mono s hq)
  | err nm ds =>
    rw [e] at hq
    exact hq
  | stuck =>
    rw [e] at hq
    exact hq
theorem OutN.new {K : PySem.W.Frag} {mg : Str → Option Value} {E : XK} {I H : Hp} {ds : List D} {vs : List V} {Q : VK} {p : Addr} (h : OutN K mg E I H (.ok ds) Q) (ex : Same I H) (hp : H p = none) (r : Reps K I vs ds) : Q (.ref p) (upd H p (.lst vs)) :=
  h p vs I _ (.side ex hp) (ex.free hp) hp upd_same r
theorem outN_if {K : PySem.W.Frag} {mg : Str → Option Value} {E : XK} {I H : Hp} {c : Prop} [Decidable c] {r : R (List D)} {Q : VK} (h : OutN K mg E I H (if c then r else .stuck) Q) : c ∧ OutN K mg E I H r Q := by
  by_cases hc : c
  · rw [if_pos hc] at h
    exact ⟨hc, h⟩
  · rw [if_neg hc] at h
    exact h.elim
def lenOk (ds : List D) : R (List D) := if ds.length ≤ LIM then .ok ds else .stuck
def unL : D → R (List D)
  | .lst ds => .ok ds
  | _ => .stuck
section
variable {X : Cx} {E : XK} {Mb M : List Nat} {a b e : Expr} {es : List Expr} {pos p : Pos} {x : Str} {ta tb te : TE} {tas : TA} {ma mb : Env → R D} {ms m : Env → R (List D)}
theorem mn_lst (h : MA X E es tas ms) : MN X E (.List es pos) (tLst tas) (fun ρ => dsp lenOk (ms ρ)) := by
  obtain ⟨pt, st⟩ := h
  refine ⟨pe_lst pt, fun σ I H ρ Q re ex h => ?_⟩
  refine st.runN re ex h fun ds vs I1 H1 _ s1 rx h => ?_
  obtain ⟨hl, h⟩ := outN_if h
  exact ⟨lim_ok (by rw [rx.len]; exact hl), fun p hp => h.new s1.e hp rx⟩
/-- list(xs) -/
def listL : List D → R (List D)
  | [.lst ds] => .ok ds
  | [.tup ds] => .ok ds
  | [.scr ns] => .ok (ns.map D.int)
  | _ => .stuck
theorem mn_list (hg : Gl X x) (hm : X.mg x = none) (hv : bootBuiltins x = some (.type "list")) (ha : MA X E (e :: es) tas ms) (hn : x ≠ "__name__" := by decide) (hdb : (x == ("__debug__" : Str)) = false := by decide)
    (he : starEach (e :: es) X.env = (false, eval e X.env) :: starEach es X.env := by rfl) (hpl : (backTo pos (starEach es X.env)).any (·.1) = false := by rfl) :
    MN X E (.Call (.Name x p) (e :: es) [] pos) (tCB (fun xs H Q => ∃ p ys, xs = [.ref p] ∧ (SqL X.K H p ys ∨ SqT X.K H p ys) ∧ ∀ l, H l = none → Q (.ref l) (upd H l (.lst ys))) tas) (fun ρ => dsp listL (ms ρ)) := by
  obtain ⟨pt, st⟩ := ha
  refine ⟨pe_callTy call_list_of hg hm hv pt hn hdb he hpl, fun σ I H ρ Q re ex h => ?_⟩
  refine st.runN re ex h fun ds vs I1 H1 _ s1 rs h => ?_
  unfold listL at h
  split at h
  · obtain ⟨v, rfl, r⟩ := reps1 rs
    cases r with
    | lst hh ra => exact ⟨_, _, rfl, .inl (SqL.of (s1.e _ _ hh)), fun p hp => h.new s1.e hp ra⟩
  · obtain ⟨v, rfl, r⟩ := reps1 rs
    cases r with
    | tup hh ra => exact ⟨_, _, rfl, .inr (same_t s1.e hh), fun p hp => h.new s1.e hp ra⟩
  · obtain ⟨v, rfl, r⟩ := reps1 rs
    cases r with
    | scr hh => exact ⟨_, _, rfl, .inl (s1.e.seq hh), fun p hp => h.new s1.e hp .ints⟩
  · exact h.elim
/-- list(range(a)), list(range(a, b)) -/
def rgL (i j : Int) : R (List D) := if -(2 ^ 62) ≤ i ∧ i < 2 ^ 62 ∧ -(2 ^ 62) ≤ j ∧ j < 2 ^ 62 ∧ (j - i).toNat ≤ LIM then .ok (rangeD i 1 (j - i).toNat) else .stuck
def rgL1 : List D → R (List D)
  | [.int j] => rgL 0 j
  | _ => .stuck
def rgL2 : List D → R (List D)
  | [.int i, .int j] => rgL i j
  | _ => .stuck
theorem rgV_reps {K : PySem.W.Frag} {I : Hp} (i j : Int) : Reps K I (rgV i j) (rangeD i 1 (j - i).toNat) := by
  unfold rgV rangeD
  generalize (j - i).toNat = n
  have key : ∀ l : List Nat, Reps K I (l.map fun k => V.int (i + (k : Nat))) (l.map fun k => D.int (i + (k : Nat) * 1)) := fun l => by
    induction l with
    | nil => exact .nil
    | cons k l ih =>
      refine .cons ?_ ih
      show Rep K I (V.int (i + (k : Nat))) (D.int (i + (k : Nat) * 1))
      rw [Int.mul_one]
      exact .int _
  exact key _
theorem mn_rg1 {p2 pos2 : Pos} (hc : X.calm = true) (hg : Gl X "list") (hm : X.mg "list" = none) (hg2 : Gl X "range") (hm2 : X.mg "range" = none) (ha : ME X E a ta ma) (na : starEach [a] X.env = (false, eval a X.env) :: starEach [] X.env := by rfl)
    (nb : starEach [.Call (.Name "range" p2) [a] [] pos2] X.env = (false, eval (.Call (.Name "range" p2) [a] [] pos2) X.env) :: starEach [] X.env := by rfl) :
    MN X E (.Call (.Name "list" p) [.Call (.Name "range" p2) [a] [] pos2] [] pos) (tLstRg (tRg1 ta)) (fun ρ => dsp rgL1 (acons (ma ρ) (.ok []))) := by
  obtain ⟨pt, st⟩ := ha
  refine ⟨pe_listRg hc hg hm (prg_1 hg2 hm2 pt na) nb, fun σ I H ρ Q re ex h => ?_⟩
  have h : OutN X.K X.mg E I H (ma ρ >>= fun d => rgL1 [d]) Q := by
    have h : OutN X.K X.mg E I H (dsp rgL1 (acons (ma ρ) (.ok []))) Q := h
    cases e : ma ρ with
    | ok d =>
      rw [e] at h
      exact h
    | err _ _ =>
      rw [e] at h
      exact h
    | stuck =>
      rw [e] at h
      exact h
  refine st.runN re ex h fun d v I1 H1 _ s1 rs h => ?_
  cases rs with
  | int j =>
    obtain ⟨⟨h1, h2, h3, h4, h5⟩, h⟩ := outN_if h
    exact ⟨j, rfl, ⟨h1, h2, h3, h4, Nat.le_trans h5 (by decide)⟩, fun q hq => h.new s1.e hq (rgV_reps 0 j)⟩
  | _ => exact h.elim
/-- sorted(xs) of ints -/
def sortedL (ds : List D) : R (List D) := sortedD ds >>= unL
theorem mn_sorted (hg : Gl X x) (hm : X.mg x = none) (hv : bootBuiltins x = some (.builtin "sorted")) (ha : MA X E (e :: es) tas ms) (hn : x ≠ "__name__" := by decide) (hdb : (x == ("__debug__" : Str)) = false := by decide)
    (he : starEach (e :: es) X.env = (false, eval e X.env) :: starEach es X.env := by rfl) (hpl : (backTo pos (starEach es X.env)).any (·.1) = false := by rfl) :
    MN X E (.Call (.Name x p) (e :: es) [] pos) (tCB (rSortedX X.K) tas) (fun ρ => dsp sortedL (ms ρ)) := by
  obtain ⟨pt, st⟩ := ha
  refine ⟨pe_callB cr_sortedX hg hm hv pt hn hdb he hpl, fun σ I H ρ Q re ex h => ?_⟩
  refine st.runN re ex h fun ds vs I1 H1 _ s1 rs h => ?_
  have fin : ∀ (a : Addr) (es : List D) (vs : List V), Reps X.K I1 vs es → (SqL X.K H1 a vs ∨ SqT X.K H1 a vs) → OutN X.K X.mg E I1 H1 ((match intsOf es with | some ns => R.ok (.lst ((sortI ns).map D.int)) | none => .stuck) >>= unL) Q → rSortedX X.K [.ref a] H1 Q := fun a es vs r hs h => by
    cases e : intsOf es with
    | none =>
      rw [e] at h
      exact h.elim
    | some ns =>
      rw [e] at h
      obtain ⟨rfl, _⟩ := reps_ints r e
      refine ⟨a, ns, rfl, hs, fun ns' p hp hs' hn => ?_⟩
      have e2 : ns' = sortI ns := srt_uniq (hp.trans (sortI_perm ns).symm) hs' (sortI_srt ns)
      subst e2
      exact OutN.new (ds := (sortI ns).map D.int) h s1.e hn .ints
  unfold sortedL sortedD at h
  split at h
  · obtain ⟨v, rfl, r⟩ := reps1 rs
    cases r with
    | lst hh ra => exact fin _ _ _ ra (.inl (SqL.of (s1.e _ _ hh))) h
  · obtain ⟨v, rfl, r⟩ := reps1 rs
    cases r with
    | tup hh ra => exact fin _ _ _ ra (.inr (same_t s1.e hh)) h
  · exact h.elim
def scals (ds : List D) : Bool := ds.all D.scal
theorem Reps.scals {K : PySem.W.Frag} {I I' : Hp} : ∀ {vs : List V} {ds : List D}, Reps K I vs ds → DL.scals ds = true → Reps K I' vs ds
  | _, _, .nil, _ => .nil
  | _, _, .cons a r, h => by
    unfold DL.scals at h
    rw [List.all_cons, Bool.and_eq_true] at h
    exact .cons (a.scal h.1) (Reps.scals r h.2)
def ownS (i : Nat) (ρ : Env) (r : R (List D)) : R Fl := r >>= fun ds => .ok (.nx (ρ.set i (some (.lst ds))))
@[simp] theorem ownS_ok (i : Nat) (ρ : Env) (ds : List D) : ownS i ρ (.ok ds) = .ok (.nx (ρ.set i (some (.lst ds)))) := rfl
def ownSW (i : Nat) (ρ : Env) (r : R (List D)) : R Fl := r >>= fun ds => if scals ds = true then .ok (.nx (ρ.set i (some (.lst ds)))) else .stuck
@[simp] theorem ownSW_ok (i : Nat) (ρ : Env) (ds : List D) : ownSW i ρ (.ok ds) = if scals ds = true then .ok (.nx (ρ.set i (some (.lst ds)))) else .stuck := rfl
theorem ms_own (i : Nat) {px : Pos} (hN : X.N.Nodup) (he : MN X E e te m) (hi : X.N[i]? = some x := by rfl) (hx : Loc X.env.scope x := by first | exact .inl rfl | exact .inr rfl) (hM : i ∈ M := by decide) (hs : swapsWith e (some (.Name x px)) pos.line X.env = pure false := by rfl) (hf : X.fn x = true ∨ X.env.scope.names.lookup x = some .local := by first | exact .inl rfl | exact .inr rfl) :
    MS X E Mb M M (.Assign [.Name x px] e pos) (tAsg te (gName i)) (fun ρ => ownS i ρ (m (wipeE ρ M))) :=
  ⟨ps_set hN hi hx he.pe hs hf, fun Ie He σ I H ρ D0 s h => he.sn σ I H _ _ s.re s.st.e (by
    have h : OutS X.K X.mg E Mb M Ie He I D0 (ownS i ρ (m (wipeE ρ M))) := h
    cases q : m (wipeE ρ M) with
    | ok ds =>
      rw [q] at h
      exact fun p vs I1 H1 t n1 n2 hp r => h _ I1 H1 (s.own hM t n1 n2 hp r) t.i
    | err nm ds =>
      rw [q] at h
      exact fun C od I1 H1 t xr => h C od I1 H1 (s.st.trans t) xr
    | stuck =>
      rw [q] at h
      exact h)⟩
theorem ms_ownW (i : Nat) {px : Pos} (hN : X.N.Nodup) (he : MN X E e te m) (hi : X.N[i]? = some x := by rfl) (hx : Loc X.env.scope x := by first | exact .inl rfl | exact .inr rfl) (hM : i ∈ M := by decide) (hs : swapsWith e (some (.Name x px)) pos.line X.env = pure false := by rfl) (hf : X.fn x = true ∨ X.env.scope.names.lookup x = some .local := by first | exact .inl rfl | exact .inr rfl) :
    MS X E Mb M M (.Assign [.Name x px] e pos) (tAsg te (gName i)) (fun ρ => ownSW i ρ (m ρ)) :=
  ⟨ps_set hN hi hx he.pe hs hf, fun Ie He σ I H ρ D0 s h => by
    obtain ⟨Ia, ka, sa⟩ := s.all
    refine he.sn σ Ia H _ _ (RE.of sa) sa.st.e ?_
    have h : OutS X.K X.mg E Mb M Ie He I D0 (ownSW i ρ (m ρ)) := h
    cases q : m ρ with
    | ok ds =>
      rw [q] at h
      obtain ⟨hs, h⟩ := outS_if h
      intro p vs I1 H1 t n1 n2 hp r
      have n3 : I p = none := s.st.e.free n2
      have s1 := s.grow t.h
      have e1 : Same I H1 := s.st.e.trans t.h
      refine h _ I H1 ?_ (.refl _)
      exact s.own (I' := I) hM ⟨.refl _, t.h, e1, fun _ _ z => .inl z⟩ n3 n2 hp (r.scals hs)
    | err nm ds =>
      rw [q] at h
      exact fun C od I1 H1 t xr => h C od I1 H1 (sa.st.trans t) xr
    | stuck =>
      rw [q] at h
      exact h⟩
end

section
variable {X : Cx} {E : XK} {Mb M : List Nat} {e k : Expr} {pos px pa pc pt : Pos} {x : Str} {te tk : TE} {m mk : Env → R D}
/-- a built-in class as a value -/
theorem me_bty {n : String} (hg : Gl X x) (hm : X.mg x = none) (hv : bootBuiltins x = some (.type n)) (hn : x ≠ "__name__" := by decide) (hd : (x == ("__debug__" : Str)) = false := by decide) : ME X E (.Name x pos) (tC (.ty n)) (fun _ => .ok (.ty n)) :=
  ⟨pe_bltn (v := .ty n) hg hm hv rfl hn hd, fun σ I H ρ Q re ex h => h.here ex (.ty n)⟩
/-- a constant of the module -/
theorem me_glb {v : V} {u : Value} {d : D} (hg : Gl X x) (hm : X.mg x = some u) (r : RelV v u) (rp : ∀ I, Rep X.K I v d) (hd : (x == ("__debug__" : Str)) = false := by decide) : ME X E (.Name x pos) (tC v) (fun _ => .ok d) :=
  ⟨pe_glob hg hm r hd, fun σ I H ρ Q re ex h => h.here ex (rp I)⟩
theorem pe_append (i : Nat) (he : PE X e te) (hi : X.N[i]? = some x := by rfl) (hv : Vis X.env.scope x := by first | exact Or.inl rfl | exact Or.inr (Or.inl rfl)) (hd : (x == ("__debug__" : Str)) = false := by decide) (hcd : (x == ("__classdict__" : Str)) = false := by decide)
    (pm : ∀ ta tx, PE X (.Name x px) ta → PA X [e] tx → PE X (.Call (.Attribute (.Name x px) "append" pa) [e] [] pc) (tBM X.K "list" rAppend ta tx) := by intro ta tx h1 h2; exact pe_bm PySem.F.plainAttrs_list PySem.F.slot_list_append PySem.F.type_list_append mt_append h1 h2)
    (ha : PA X [e] (tCons te tNil)) : PE X (.Call (.Attribute (.Name x px) "append" pa) [e] [] pc) (tBM X.K "list" rAppend (tVar i) (tCons te tNil)) := pm _ _ (pe_var (i := i) hi hv hd hcd) ha
end

/-! ### what is known of the text's own defs -/
structure FnAt (K : PySem.W.Frag) (mg : Str → Option Value) (x : Str) (st : Stmt) (ps : List Str) : Prop where
  ex : ∃ f fd, Fun K x x st f fd ∧ mg x = some (.ref f) ∧ Binds K fd ps []
structure Kn (P : Program) (w : World) (K : PySem.W.Frag) (mg : Str → Option Value) (base : Heap) (x : Str) (k n : Nat) (g : List D → R D) : Prop where
  ex : ∃ f fd ps, FnOk P w K mg base CX0 k f fd ps (spOf K mg n g) ∧ mg x = some (.ref f) ∧ PySem.W.keepIn K (.ref f) = true ∧ Binds K fd ps []
theorem Kn.mk' {P : Program} {w : World} {K : PySem.W.Frag} {mg : Str → Option Value} {base : Heap} {x : Str} {st : Stmt} {N ps : List Str} {k : Nat} {M M' : List Nat} {ms : Env → R Fl} (F : FnAt K mg x st ps) (S : FnScope N ps (defScope st)) (hM : ∀ i ∈ M, ps.length ≤ i)
    (hb : ∀ (f : Addr) (cdv : Value) (A : Around) (outer : List PySem.Env) (s : Shared) (H : Hp) (E : XK), Room k (A.deeper (PyProof.Rows.envOfC x (defScope st) s.heap.objs.size f cdv)) →
      ∃ ts, MSs (cxOf CX0 P w K mg base N x (defScope st) f cdv A outer s H E).nox E0 [] M M' (defBody st) ts ms) : Kn P w K mg base x (k + 1) ps.length (runF N.length ms) := by
  obtain ⟨f, fd, F, g, b⟩ := F.ex
  exact ⟨f, fd, ps, fn_mir F S hM (hb f), g, F.kp, b⟩
theorem me_callK {X : Cx} {P : Program} {w : World} {K : PySem.W.Frag} {mg : Str → Option Value} {base : Heap} {k j n : Nat} {g : List D → R D} {x : Str} {p pos : Pos} {e : Expr} {es : List Expr} {tas : TA} {ms : Env → R (List D)} (F : Kn P w K mg base x k n g) (hr : Room j X.A) (hg : Gl X x) (ha : MA X E0 (e :: es) tas ms) (hj : k ≤ j := by decide)
    (hP : X.prog = P := by rfl) (hw : X.w = w := by rfl) (hK : X.K = K := by rfl) (hm : X.mg = mg := by rfl) (hb : X.base = base := by rfl)
    (hdb : (x == ("__debug__" : Str)) = false := by decide) (he : starEach (e :: es) X.env = (false, eval e X.env) :: starEach es X.env := by rfl) (hpl : (backTo pos (starEach es X.env)).any (·.1) = false := by rfl) :
    ME X E0 (.Call (.Name x p) (e :: es) [] pos) (tCall (spOf K mg n g) [] E0 tas) (fun ρ => call_ n g (ms ρ)) := by
  subst hP hw hK hm hb
  obtain ⟨f, fd, ps, F, hm, hk, hb⟩ := F.ex
  exact me_call F (hr.mono hj) hg hm hk hb pass0 ha hdb he hpl
/-- tuple(range(a)) -/
def rgT (i j : Int) : R D := if -(2 ^ 62) ≤ i ∧ i < 2 ^ 62 ∧ -(2 ^ 62) ≤ j ∧ j < 2 ^ 62 ∧ (j - i).toNat ≤ LIM then .ok (.tup (rangeD i 1 (j - i).toNat)) else .stuck
def rgT1 : List D → R D
  | [.int j] => rgT 0 j
  | _ => .stuck
def rgLv (i j : Int) : R D := if -(2 ^ 62) ≤ i ∧ i < 2 ^ 62 ∧ -(2 ^ 62) ≤ j ∧ j < 2 ^ 62 ∧ (j - i).toNat ≤ LIM then .ok (.lst (rangeD i 1 (j - i).toNat)) else .stuck
def rgLv1 : List D → R D
  | [.int j] => rgLv 0 j
  | _ => .stuck
section
variable {X : Cx} {E : XK} {a : Expr} {ta : TE} {ma : Env → R D} {p p2 pos pos2 : Pos}
theorem acons_one {r : R D} {f : List D → R D} : dsp f (acons r (.ok [])) = (r >>= fun d => f [d]) := by
  cases r <;> rfl
theorem me_tupRg1 (hg : Gl X "tuple") (hm : X.mg "tuple" = none) (hg2 : Gl X "range") (hm2 : X.mg "range" = none) (ha : ME X E a ta ma) (hc : X.calm = true := by rfl) (na : starEach [a] X.env = (false, eval a X.env) :: starEach [] X.env := by rfl)
    (nb : starEach [.Call (.Name "range" p2) [a] [] pos2] X.env = (false, eval (.Call (.Name "range" p2) [a] [] pos2) X.env) :: starEach [] X.env := by rfl) :
    ME X E (.Call (.Name "tuple" p) [.Call (.Name "range" p2) [a] [] pos2] [] pos) (tTupRg (tRg1 ta)) (fun ρ => dsp rgT1 (acons (ma ρ) (.ok []))) := by
  obtain ⟨pt, st⟩ := ha
  refine ⟨pe_tupRg hc hg hm (prg_1 hg2 hm2 pt na) nb, fun σ I H ρ Q re ex h => ?_⟩
  have h : Out X.K X.mg E (Rep X.K) I H (dsp rgT1 (acons (ma ρ) (.ok []))) Q := h
  rw [acons_one] at h
  refine st.run re ex h fun d v I1 H1 _ s1 rs h => ?_
  cases rs with
  | int j =>
    obtain ⟨⟨h1, h2, h3, h4, h5⟩, h⟩ := out_if h
    exact ⟨j, rfl, ⟨h1, h2, h3, h4, Nat.le_trans h5 (by decide)⟩, fun q hq => h.there (.new s1.e hq) (new_tup s1.e hq (rgV_reps 0 j))⟩
  | _ => exact h.elim
theorem me_lstRg1 (hg : Gl X "list") (hm : X.mg "list" = none) (hg2 : Gl X "range") (hm2 : X.mg "range" = none) (ha : ME X E a ta ma) (hc : X.calm = true := by rfl) (na : starEach [a] X.env = (false, eval a X.env) :: starEach [] X.env := by rfl)
    (nb : starEach [.Call (.Name "range" p2) [a] [] pos2] X.env = (false, eval (.Call (.Name "range" p2) [a] [] pos2) X.env) :: starEach [] X.env := by rfl) :
    ME X E (.Call (.Name "list" p) [.Call (.Name "range" p2) [a] [] pos2] [] pos) (tLstRg (tRg1 ta)) (fun ρ => dsp rgLv1 (acons (ma ρ) (.ok []))) := by
  obtain ⟨pt, st⟩ := ha
  refine ⟨pe_listRg hc hg hm (prg_1 hg2 hm2 pt na) nb, fun σ I H ρ Q re ex h => ?_⟩
  have h : Out X.K X.mg E (Rep X.K) I H (dsp rgLv1 (acons (ma ρ) (.ok []))) Q := h
  rw [acons_one] at h
  refine st.run re ex h fun d v I1 H1 _ s1 rs h => ?_
  cases rs with
  | int j =>
    obtain ⟨⟨h1, h2, h3, h4, h5⟩, h⟩ := out_if h
    exact ⟨j, rfl, ⟨h1, h2, h3, h4, Nat.le_trans h5 (by decide)⟩, fun q hq => h.there (.new s1.e hq) (new_lst s1.e hq (rgV_reps 0 j))⟩
  | _ => exact h.elim
end
/-- the law's own promise -/
def spLaw (K : PySem.W.Frag) : Sp := fun vs H Q _ => ∃ (a : Addr) (ns : List Int), vs = [.ref a] ∧ SqL K H a (ns.map V.int) ∧ ns.length ≤ 63 ∧ ∀ H', Q (.bl true) H'
theorem law_of {P : Program} {w : World} {K : PySem.W.Frag} {mg : Str → Option Value} {base : Heap} {CX : CXT} {k : Nat} {f : Addr} {fd : FuncData} {ps : List Str} {g : List D → R D} (F : FnOk P w K mg base CX k f fd ps (spOf K mg 1 g)) (h : ∀ ns : List Int, ns.length ≤ 63 → g [.scr ns] = .ok (.bl true)) :
    FnOk P w K mg base CX k f fd ps (spLaw K) := F.imp fun vs H Q E ⟨a, ns, e, hs, hl, q⟩ => by
  subst e
  refine ⟨H, [.scr ns], rfl, .refl _, .cons (.scr hs) .nil, ?_⟩
  rw [h ns hl]
  intro v I' H' _ r
  cases r
  exact q H'
end DL
namespace DL
open PySem PySem.Spec L2

theorem lexAt_shift (e r : Nat → Bool) (z : Bool) : ∀ (k i : Nat), Ob.lexAt e r z (i + 1) k = Ob.lexAt (fun j => e (j + 1)) (fun j => r (j + 1)) z i k
  | 0, _ => rfl
  | k + 1, i => by
    rw [Ob.lexAt_succ, Ob.lexAt_succ, lexAt_shift e r z k (i + 1)]
theorem lexAt_ge : ∀ ns ms : List Int, Ob.lexAt (fun j => decide (ns.getD j 0 = ms.getD j 0)) (fun j => decide (ms.getD j 0 ≤ ns.getD j 0)) (decide (ms.length ≤ ns.length)) 0 (min ns.length ms.length) = !HT.lexLt ns ms
  | [], [] => rfl
  | [], y :: ys => by
    show Ob.lexAt _ _ (decide (ys.length + 1 ≤ 0)) 0 (min 0 _) = !true
    rw [Nat.zero_min, Ob.lexAt_zero]
    rfl
  | x :: xs, [] => by
    show Ob.lexAt _ _ (decide (0 ≤ xs.length + 1)) 0 (min _ 0) = !false
    rw [Nat.min_zero, Ob.lexAt_zero]
    rfl
  | x :: xs, y :: ys => by
    have hm : min (x :: xs).length (y :: ys).length = min xs.length ys.length + 1 := by
      rw [List.length_cons, List.length_cons]
      omega
    rw [hm, Ob.lexAt_succ, lexAt_shift, HT.lexLt_cons]
    show (if decide (x = y) = true then Ob.lexAt (fun j => decide (xs.getD j 0 = ys.getD j 0)) (fun j => decide (ys.getD j 0 ≤ xs.getD j 0)) (decide (ys.length + 1 ≤ xs.length + 1)) 0 (min xs.length ys.length) else decide (y ≤ x)) = !if x = y then HT.lexLt xs ys else decide (x < y)
    by_cases e : x = y
    · rw [if_pos (decide_eq_true e), if_pos e, show decide (ys.length + 1 ≤ xs.length + 1) = decide (ys.length ≤ xs.length) by simp, lexAt_ge xs ys]
    · rw [if_neg (by simpa using e), if_neg e]
      by_cases h : y ≤ x
      · rw [decide_eq_true h, decide_eq_false (by omega)]
        rfl
      · rw [decide_eq_false h, decide_eq_true (by omega)]
        rfl
def rGeT (K : PySem.W.Frag) : R2 := fun x y H Q => ∃ (a b : Addr) (ns ms : List Int), x = .ref a ∧ y = .ref b ∧ SqT K H a (ns.map V.int) ∧ SqT K H b (ms.map V.int) ∧ Q (.bl (!HT.lexLt ns ms)) H
theorem op_geT {X : Cx} (hu : X.A.units < cLine) : OpR X (compareOp .GtE) (rGeT X.K) := by
  intro pins s σ H x y v u Q I rx ry h
  obtain ⟨a, b, ns, ms, rfl, rfl, ha, hb, q⟩ := h
  cases rx
  cases ry
  obtain ⟨its, r1, p1, _⟩ := I.tuple ha
  obtain ⟨its2, r2, p2, _⟩ := I.tuple hb
  have i1 : PyProof.Rows.IntsAre its ns := Vals.ints r1
  have i2 : PyProof.Rows.IntsAre its2 ms := Vals.ints r2
  have e1 : its.toArray.size = ns.length := by rw [List.size_toArray]; exact i1.length
  have e2 : its2.toArray.size = ms.length := by rw [List.size_toArray]; exact i2.length
  have at1 : ∀ j (h1 : j < its.toArray.size), ∃ t, its.toArray[j] = .int (ns.getD j 0) t := fun j h1 => PyProof.Rows.IntsAre.int_at i1 _ _ (by simp at h1; simp [h1])
  have at2 : ∀ j (h1 : j < its2.toArray.size), ∃ t, its2.toArray[j] = .int (ms.getD j 0) t := fun j h1 => PyProof.Rows.IntsAre.int_at i2 _ _ (by simp at h1; simp [h1])
  have R := Ob.RcOp.tuples_ge (A := X.A) (s := s) (e := fun j => decide (ns.getD j 0 = ms.getD j 0)) (r := fun j => decide (ms.getD j 0 ≤ ns.getD j 0)) p1 p2 hu (fun j h1 h2 => by
    obtain ⟨t, et⟩ := at1 j h1
    obtain ⟨t', et'⟩ := at2 j h2
    rw [et, et']
    have z : (ns.getD j 0 == ms.getD j 0) = decide (ns.getD j 0 = ms.getD j 0) := by
      by_cases q : ns.getD j 0 = ms.getD j 0
      · rw [decide_eq_true q]; exact beq_iff_eq.mpr q
      · rw [decide_eq_false q]; exact beq_eq_false_iff_ne.mpr q
    rw [← z]
    exact SeqAt.EqAt.int_int _ _ _ _) (fun j h1 h2 _ => by
    obtain ⟨t, et⟩ := at1 j h1
    obtain ⟨t', et'⟩ := at2 j h2
    rw [et, et']
    exact Ob.RcOp.ge_int _ _ _ _)
  rw [e1, e2] at R
  refine R _ _ _ _ ⟨.bl _, H, I, rfl, ?_⟩
  rw [← lexAt_ge] at q
  exact q
def geX : D → D → R D
  | .int i, .int j => .ok (.bl (decide (j ≤ i)))
  | .tup xs, .tup ys => match intsOf xs, intsOf ys with
    | some ns, some ms => .ok (.bl (!HT.lexLt ns ms))
    | _, _ => .stuck
  | _, _ => .stuck
def rGeX (K : PySem.W.Frag) : R2 := fun x y H Q => rI0 (fun i j => .bl (decide (j ≤ i))) x y H Q ∨ rGeT K x y H Q
theorem op_geX {X : Cx} {k : Nat} (hr : Room k X.A) : OpR X (compareOp .GtE) (rGeX X.K) := OpR.or op_ge (op_geT hr.units0)
theorem rs_geX {K : PySem.W.Frag} : RSn K (rGeX K) geX := by
  intro x y I H dx dy d Q ex rx ry h q
  cases rx with
  | int i =>
    cases ry with
    | int j =>
      cases h
      exact .inl ⟨i, j, rfl, rfl, q _ _ _ (.refl ex) (.bl _)⟩
    | _ => cases h
  | @tup a vs ds ha ra =>
    cases ry with
    | @tup b ws es hb rb =>
      have h : (match intsOf ds, intsOf es with | some ns, some ms => R.ok (.bl (!HT.lexLt ns ms)) | _, _ => .stuck) = R.ok d := h
      cases e1 : intsOf ds with
      | none =>
        rw [e1] at h
        cases h
      | some ns =>
        cases e2 : intsOf es with
        | none =>
          rw [e1, e2] at h
          cases h
        | some ms =>
          rw [e1, e2] at h
          cases h
          obtain ⟨rfl, _⟩ := reps_ints ra e1
          obtain ⟨rfl, _⟩ := reps_ints rb e2
          exact .inr ⟨a, b, ns, ms, rfl, rfl, same_t ex ha, same_t ex hb, q _ _ _ (.refl ex) (.bl _)⟩
    | _ => cases h
  | _ => cases h
end DL
namespace DL
open PySem PySem.Spec L2

/-! ### reckoning with what a text makes -/
@[simp] theorem get_zero (d : D) (ρ : Env) : get (some d :: ρ) 0 = .ok d := rfl
@[simp] theorem get_none (ρ : Env) : get (none :: ρ) 0 = .stuck := rfl
@[simp] theorem get_succ (o : Option D) (ρ : Env) (n : Nat) : get (o :: ρ) (n + 1) = get ρ n := rfl
@[simp] theorem wipeE_nil (ρ : Env) : wipeE ρ [] = ρ := rfl
@[simp] theorem wipeE_cons (ρ : Env) (v : Nat) (vs : List Nat) : wipeE ρ (v :: vs) = (wipeE ρ vs).set v none := rfl
@[simp] theorem setE_nil (ρ : Env) : setE ρ [] = ρ := rfl
@[simp] theorem setE_cons (ρ : Env) (i : Nat) (d : D) (as : As) : setE ρ ((i, d) :: as) = setE (ρ.set i (some d)) as := rfl
@[simp] theorem calm_calm {α : Type} (r : R α) : calm (calm r) = calm r := by cases r <;> rfl
@[simp] theorem endD_rt (d : D) : endD (.rt d) = .ok d := rfl
@[simp] theorem endD_nx (ρ : Env) : endD (.nx ρ) = .ok .non := rfl
theorem runF_rt {n : Nat} {ms : Env → R Fl} {ds : List D} {d : D} (h : ms (startE n ds) = .ok (.rt d)) : runF n ms ds = .ok d := by
  unfold runF
  rw [h]
  rfl
@[simp] theorem agV_ (i : Nat) (d : D) : agV i d = .ok [(i, d)] := rfl
@[simp] theorem agN_ : agN [] = .ok [] := rfl
@[simp] theorem agC_ (ag : D → R As) (bg : List D → R As) (d : D) (ds : List D) : agC ag bg (d :: ds) = (ag d >>= fun as => bg ds >>= fun bs => .ok (as ++ bs)) := rfl
@[simp] theorem tupAs_ (n : Nat) (ag : List D → R As) (ds : List D) : tupAs n ag (.tup ds) = if ds.length = n then ag ds else .stuck := rfl
@[simp] theorem addD_int (i j : Int) : addD (.int i) (.int j) = .ok (.int (i + j)) := rfl
@[simp] theorem subD_int (i j : Int) : subD (.int i) (.int j) = .ok (.int (i - j)) := rfl
@[simp] theorem negD_int (i : Int) : negD (.int i) = .ok (.int (-i)) := rfl
@[simp] theorem leD_int (i j : Int) : leD (.int i) (.int j) = .ok (.bl (decide (i ≤ j))) := rfl
@[simp] theorem ltD_int (i j : Int) : ltD (.int i) (.int j) = .ok (.bl (decide (i < j))) := rfl
@[simp] theorem gtD_int (i j : Int) : gtD (.int i) (.int j) = .ok (.bl (decide (j < i))) := rfl
@[simp] theorem geX_int (i j : Int) : geX (.int i) (.int j) = .ok (.bl (decide (j ≤ i))) := rfl
@[simp] theorem eqD_int (i j : Int) : eqD (.int i) (.int j) = .ok (.bl (decide (i = j))) := rfl
@[simp] theorem neD_int (i j : Int) : neD (.int i) (.int j) = .ok (.bl (!decide (i = j))) := rfl
@[simp] theorem notD_bl (b : Bool) : notD (.ok (.bl b)) = .ok (.bl !b) := rfl
@[simp] theorem asI_int (i : Int) : asI (.int i) = .ok (some i) := rfl
@[simp] theorem intD_int (i : Int) : intD [.int i] = .ok (.int i) := rfl
@[simp] theorem lenD_lst (ds : List D) : lenD [.lst ds] = .ok (.int ds.length) := rfl
@[simp] theorem lenD_tup (ds : List D) : lenD [.tup ds] = .ok (.int ds.length) := rfl
@[simp] theorem lenD_scr (ns : List Int) : lenD [.scr ns] = .ok (.int ns.length) := rfl
@[simp] theorem itemsD_lst (ds : List D) : itemsD (.lst ds) = .ok ds := rfl
@[simp] theorem itemsD_tup (ds : List D) : itemsD (.tup ds) = .ok ds := rfl
@[simp] theorem tupleD_lst (ds : List D) : tupleD [.lst ds] = .ok (.tup ds) := rfl
@[simp] theorem tupleD_tup (ds : List D) : tupleD [.tup ds] = .ok (.tup ds) := rfl
@[simp] theorem listD_lst (ds : List D) : listD [.lst ds] = .ok (.lst ds) := rfl
@[simp] theorem listL_lst (ds : List D) : listL [.lst ds] = .ok ds := rfl
@[simp] theorem listL_tup (ds : List D) : listL [.tup ds] = .ok ds := rfl
@[simp] theorem sliceD_lst (ds : List D) (l u : Option Int) : sliceD (.lst ds) l u = .ok (.lst (cutD ds l u)) := rfl
@[simp] theorem sliceD_tup (ds : List D) (l u : Option Int) : sliceD (.tup ds) l u = .ok (.tup (cutD ds l u)) := rfl
@[simp] theorem sortedD_lst (ns : List Int) : sortedD [.lst (ns.map D.int)] = .ok (.lst ((sortI ns).map D.int)) := by
  show (match intsOf (ns.map D.int) with | some ns => R.ok (D.lst ((sortI ns).map D.int)) | none => .stuck) = _
  rw [intsOf_map]
@[simp] theorem sortedD_tup (ns : List Int) : sortedD [.tup (ns.map D.int)] = .ok (.lst ((sortI ns).map D.int)) := by
  show (match intsOf (ns.map D.int) with | some ns => R.ok (D.lst ((sortI ns).map D.int)) | none => .stuck) = _
  rw [intsOf_map]
@[simp] theorem anyD_ (bs : List Bool) : anyD [.lst (bs.map D.bl)] = .ok (.bl (bs.any id)) := by
  show (match blsOf (bs.map D.bl) with | some bs => R.ok (D.bl (bs.any id)) | none => .stuck) = _
  rw [blsOf_map]
@[simp] theorem allD_ (bs : List Bool) : allD [.lst (bs.map D.bl)] = .ok (.bl (bs.all id)) := by
  show (match blsOf (bs.map D.bl) with | some bs => R.ok (D.bl (bs.all id)) | none => .stuck) = _
  rw [blsOf_map]
theorem modD_int {i j : Int} (h : 0 < j) : modD (.int i) (.int j) = .ok (.int (i % j)) := gd_ok h
theorem fdivD_int {i j : Int} (h : 0 < j ∧ j < 1073741824) : fdivD (.int i) (.int j) = .ok (.int (i / j)) := gd_ok h
theorem mulD_int {i j : Int} (h : (-(2 ^ 64) < i ∧ i < 2 ^ 64) ∨ (-(2 ^ 64) < j ∧ j < 2 ^ 64)) : mulD (.int i) (.int j) = .ok (.int (i * j)) := gd_ok h
theorem addD_lst {xs ys : List D} (h : xs.length + ys.length ≤ LIM) : addD (.lst xs) (.lst ys) = .ok (.lst (xs ++ ys)) := gd_ok h
theorem addD_tup {xs ys : List D} (h : xs.length + ys.length ≤ LIM) : addD (.tup xs) (.tup ys) = .ok (.tup (xs ++ ys)) := gd_ok h
theorem tupD_of {ds : List D} (h : ds.length ≤ LIM) : tupD ds = .ok (.tup ds) := if_pos h
theorem lstD_of {ds : List D} (h : ds.length ≤ LIM) : lstD ds = .ok (.lst ds) := if_pos h
@[simp] theorem lstD_nil : lstD [] = .ok (.lst []) := rfl
@[simp] theorem tupD_nil : tupD [] = .ok (.tup []) := rfl
@[simp] theorem tupD_1 (a : D) : tupD [a] = .ok (.tup [a]) := rfl
@[simp] theorem tupD_2 (a b : D) : tupD [a, b] = .ok (.tup [a, b]) := rfl
@[simp] theorem lstD_1 (a : D) : lstD [a] = .ok (.lst [a]) := rfl
@[simp] theorem lenOk_nil : lenOk [] = .ok [] := rfl
theorem lim63 {n : Nat} (h : n ≤ 100000) : n ≤ LIM := Nat.le_trans h (by decide)
theorem all_flat (ns : List Int) : (ns.map D.int).all D.flat = true := by
  induction ns with
  | nil => rfl
  | cons n ns ih => rw [List.map_cons, List.all_cons, ih]; rfl
theorem inB_int (x : Int) (ns : List Int) : inB (.int x) (ns.map D.int) = decide (x ∈ ns) := by
  induction ns with
  | nil => rfl
  | cons n ns ih =>
    show (eqF (.int n) (.int x) || inB (.int x) (ns.map D.int)) = _
    rw [ih]
    show ((n == x) || decide (x ∈ ns)) = decide (x ∈ n :: ns)
    by_cases h : n = x
    · subst h
      simp
    · have h2 : ¬ x = n := fun e => h e.symm
      simp [h, h2]
@[simp] theorem inD_tup (x : Int) (ns : List Int) : inD (.int x) (.tup (ns.map D.int)) = .ok (.bl (decide (x ∈ ns))) := by
  rw [← inB_int]
  exact gd_ok ⟨rfl, all_flat ns⟩
@[simp] theorem inD_lst (x : Int) (ns : List Int) : inD (.int x) (.lst (ns.map D.int)) = .ok (.bl (decide (x ∈ ns))) := by
  rw [← inB_int]
  exact gd_ok ⟨rfl, all_flat ns⟩
@[simp] theorem notInD_tup (x : Int) (ns : List Int) : notInD (.int x) (.tup (ns.map D.int)) = .ok (.bl (!decide (x ∈ ns))) := by
  unfold notInD
  rw [inD_tup]
  rfl
@[simp] theorem notInD_lst (x : Int) (ns : List Int) : notInD (.int x) (.lst (ns.map D.int)) = .ok (.bl (!decide (x ∈ ns))) := by
  unfold notInD
  rw [inD_lst]
  rfl
theorem cutD_map {α : Type} (f : α → D) (xs : List α) (l u : Option Int) : cutD (xs.map f) l u = (((xs.drop (HT.sIx xs.length 0 l)).take (HT.sIx xs.length xs.length u - HT.sIx xs.length 0 l)).map f) := by
  unfold cutD
  rw [List.length_map, List.map_take, List.map_drop]
/-- xs[:k], xs[k:] -/
theorem cutD_to {α : Type} (f : α → D) (xs : List α) (k : Nat) : cutD (xs.map f) none (some (k : Int)) = (xs.take k).map f := by
  rw [cutD_map, HT.sIx_none, HT.sIx_nat, Nat.sub_zero, List.drop_zero]
  by_cases h : k ≤ xs.length
  · rw [Nat.min_eq_left h]
  · rw [Nat.min_eq_right (by omega), List.take_of_length_le (by omega), List.take_of_length_le (by omega)]
theorem cutD_from {α : Type} (f : α → D) (xs : List α) (k : Nat) : cutD (xs.map f) (some (k : Int)) none = (xs.drop k).map f := by
  rw [cutD_map, HT.sIx_none, HT.sIx_nat]
  by_cases h : k ≤ xs.length
  · rw [Nat.min_eq_left h, List.take_of_length_le (by rw [List.length_drop]; omega)]
  · rw [Nat.min_eq_right (by omega), List.take_of_length_le (by rw [List.length_drop]; omega), List.drop_of_length_le (by omega), List.drop_of_length_le (by omega)]
theorem cutD_mid {α : Type} (f : α → D) (xs : List α) (j k : Nat) : cutD (xs.map f) (some (j : Int)) (some (k : Int)) = ((xs.take k).drop j).map f := by
  rw [cutD_map, HT.sIx_nat, HT.sIx_nat, List.drop_take]
  congr 1
  by_cases hj : j ≤ xs.length
  · rw [Nat.min_eq_left hj]
    by_cases hk : k ≤ xs.length
    · rw [Nat.min_eq_left hk]
    · rw [Nat.min_eq_right (by omega), List.take_of_length_le (by rw [List.length_drop]; exact Nat.le_refl _), List.take_of_length_le (by rw [List.length_drop]; omega)]
  · rw [Nat.min_eq_right (by omega : xs.length ≤ j), List.drop_of_length_le (Nat.le_refl _), List.drop_of_length_le (by omega), List.take_nil, List.take_nil]
theorem ixD_lst {α : Type} (f : α → D) (xs : List α) (k : Nat) {x : α} (h : xs[k]? = some x) : ixD (.lst (xs.map f)) (.int (k : Int)) = .ok (f x) := by
  show (match atI (xs.map f) (k : Int) with | some d => R.ok d | none => .stuck) = _
  rw [atI_nat (j := k) (v := f x) (by rw [List.getElem?_map, h]; rfl)]
theorem ixD_tup {α : Type} (f : α → D) (xs : List α) (k : Nat) {x : α} (h : xs[k]? = some x) : ixD (.tup (xs.map f)) (.int (k : Int)) = .ok (f x) := by
  show (match atI (xs.map f) (k : Int) with | some d => R.ok d | none => .stuck) = _
  rw [atI_nat (j := k) (v := f x) (by rw [List.getElem?_map, h]; rfl)]
theorem ixD_scr (xs : List Int) (k : Nat) {x : Int} (h : xs[k]? = some x) : ixD (.scr xs) (.int (k : Int)) = .ok (.int x) := by
  show (match atI xs (k : Int) with | some n => R.ok (D.int n) | none => .stuck) = _
  rw [atI_nat (j := k) (v := x) h]
theorem rangeD_01 (n : Nat) : rangeD 0 1 n = (List.range n).map fun (i : Nat) => D.int (i : Int) := by
  unfold rangeD
  congr 1
  funext i
  rw [Int.mul_one, Int.zero_add]
theorem rangeD_1 (lo : Int) (n : Nat) : rangeD lo 1 n = (List.range n).map fun (i : Nat) => D.int (lo + (i : Int)) := by
  unfold rangeD
  congr 1
  funext i
  rw [Int.mul_one]
theorem rg1_nat {n : Nat} (h : n ≤ LIM) : rg1 [.int (n : Int)] = .ok ((List.range n).map fun (i : Nat) => D.int (i : Int)) := by
  have h : n ≤ 1000000 := h
  have hc : -(2 ^ 62) ≤ (n : Int) ∧ (n : Int) < 2 ^ 62 := ⟨by omega, by omega⟩
  simp only [rg1]
  rw [if_pos hc, rangeD_01, Int.toNat_natCast]
/-! #### comprehensions and loops -/
theorem lcGo_map {α : Type} {ag : D → R As} {mt : Env → R Bool} {me : Env → R D} {ρ : Env} (emb : α → D) (f : α → Bool) (v : α → D) : ∀ (xs : List α), (∀ x ∈ xs, ∃ as, ag (emb x) = .ok as ∧ mt (setE ρ as) = .ok (f x) ∧ (f x = true → me (setE ρ as) = .ok (v x))) →
    lcGo ag mt me ρ (xs.map emb) = .ok ((xs.filter f).map v)
  | [], _ => rfl
  | x :: xs, h => by
    obtain ⟨as, h1, h2, h3⟩ := h x List.mem_cons_self
    have ih := lcGo_map emb f v xs fun y hy => h y (List.mem_cons_of_mem _ hy)
    rw [List.map_cons]
    unfold lcGo
    rw [h1, calm_ok, ok_bind, h2, calm_ok, ok_bind, ih, List.filter_cons]
    cases hf : f x with
    | true => rw [if_pos rfl, if_pos rfl, h3 hf, calm_ok, ok_bind, ok_bind]; rfl
    | false => rw [if_neg (by decide), if_neg (by decide)]
/-- every item is kept -/
theorem lcGo_all {α : Type} {ag : D → R As} {mt : Env → R Bool} {me : Env → R D} {ρ : Env} (emb : α → D) (v : α → D) (xs : List α) (h : ∀ x ∈ xs, ∃ as, ag (emb x) = .ok as ∧ mt (setE ρ as) = .ok true ∧ me (setE ρ as) = .ok (v x)) :
    lcGo ag mt me ρ (xs.map emb) = .ok (xs.map v) := by
  rw [lcGo_map emb (fun _ => true) v xs fun x hx => by
    obtain ⟨as, a, b, c⟩ := h x hx
    exact ⟨as, a, b, fun _ => c⟩, List.filter_eq_self.mpr (fun _ _ => rfl)]
theorem lcM_map {α : Type} {vs : List Nat} {mi : Env → R (List D)} {ag : D → R As} {mt : Env → R Bool} {me : Env → R D} {ρ : Env} (emb : α → D) (f : α → Bool) (v : α → D) (xs : List α) (hi : mi ρ = .ok (xs.map emb)) (hl : xs.length ≤ LIM)
    (h : ∀ x ∈ xs, ∃ as, ag (emb x) = .ok as ∧ mt (setE (wipeE ρ vs) as) = .ok (f x) ∧ (f x = true → me (setE (wipeE ρ vs) as) = .ok (v x))) : lcM vs mi ag mt me ρ = .ok (.lst ((xs.filter f).map v)) := by
  unfold lcM
  rw [hi, ok_bind, if_pos (by rw [List.length_map]; exact hl), lcGo_map emb f v xs h, calm_ok, ok_bind]
theorem lcM_all {α : Type} {vs : List Nat} {mi : Env → R (List D)} {ag : D → R As} {mt : Env → R Bool} {me : Env → R D} {ρ : Env} (emb : α → D) (v : α → D) (xs : List α) (hi : mi ρ = .ok (xs.map emb)) (hl : xs.length ≤ LIM)
    (h : ∀ x ∈ xs, ∃ as, ag (emb x) = .ok as ∧ mt (setE (wipeE ρ vs) as) = .ok true ∧ me (setE (wipeE ρ vs) as) = .ok (v x)) : lcM vs mi ag mt me ρ = .ok (.lst (xs.map v)) := by
  unfold lcM
  rw [hi, ok_bind, if_pos (by rw [List.length_map]; exact hl), lcGo_all emb v xs h, calm_ok, ok_bind]
theorem loopGo_inv {α : Type} {ag : D → R As} {mb : Env → R Fl} (emb : α → D) (xs : List α) (P : Nat → Env → Prop) {ρ : Env} (h0 : P 0 ρ) (hs : ∀ i x ρ, xs[i]? = some x → P i ρ → ∃ as ρ', ag (emb x) = .ok as ∧ (mb (setE ρ as) = .ok (.nx ρ') ∨ mb (setE ρ as) = .ok (.ct ρ')) ∧ P (i + 1) ρ') :
    ∃ ρ', loopGo ag mb (xs.map emb) ρ = .ok (.nx ρ') ∧ P xs.length ρ' := by
  induction xs generalizing ρ P with
  | nil => exact ⟨ρ, rfl, h0⟩
  | cons x xs ih =>
    obtain ⟨as, ρ1, h1, h2, h3⟩ := hs 0 x ρ rfl h0
    obtain ⟨ρ2, h4, h5⟩ := ih (fun i => P (i + 1)) h3 fun i y ρ hy hp => hs (i + 1) y ρ hy hp
    refine ⟨ρ2, ?_, h5⟩
    rw [List.map_cons]
    unfold loopGo
    rw [h1, calm_ok, ok_bind]
    rcases h2 with h2 | h2
    · rw [h2, ok_bind]
      exact h4
    · rw [h2, ok_bind]
      exact h4
def isT : R D → Bool
  | .ok (.bl true) => true
  | _ => false
theorem isT_of {r : R D} (h : isT r = true) : r = .ok (.bl true) := by
  unfold isT at h
  split at h
  · rfl
  · cases h
end DL
namespace DL
open PySem PySem.Spec L2

/-! ### one statement after the other -/
theorem th_asg {i : Nat} {ρ : Env} {a : R D} {d : D} {k : Env → R Fl} {out : R Fl} (h : a = .ok d) (h2 : k (ρ.set i (some d)) = out) : then_ (asg i ρ a) k = out := by
  subst h
  exact h2
theorem th_asgW {i : Nat} {ρ : Env} {a : R D} {d : D} {k : Env → R Fl} {out : R Fl} (h : a = .ok d) (hs : d.scal = true) (h2 : k (ρ.set i (some d)) = out) : then_ (asgW i ρ a) k = out := by
  subst h
  rw [asgW_ok, if_pos hs]
  exact h2
theorem th_own {i : Nat} {ρ : Env} {a : R (List D)} {ds : List D} {k : Env → R Fl} {out : R Fl} (h : a = .ok ds) (h2 : k (ρ.set i (some (.lst ds))) = out) : then_ (ownS i ρ a) k = out := by
  subst h
  exact h2
theorem th_skip {c : R Bool} {a : R Fl} {ρ : Env} {k : Env → R Fl} {out : R Fl} (h : c = .ok false) (h2 : k ρ = out) : then_ (ifv c a (.ok (.nx ρ))) k = out := by
  subst h
  exact h2
theorem th_if {c : R Bool} {b : Bool} {x y : R Fl} {k : Env → R Fl} {out : R Fl} (h : c = .ok b) (h1 : b = true → then_ x k = out) (h2 : b = false → then_ y k = out) : then_ (ifv c x y) k = out := by
  subst h
  cases b with
  | true => exact h1 rfl
  | false => exact h2 rfl
theorem ifv_of {α : Type} {c : R Bool} {b : Bool} {x y : R α} {out : R α} (h : c = .ok b) (h1 : b = true → x = out) (h2 : b = false → y = out) : ifv c x y = out := by
  subst h
  cases b with
  | true => exact h1 rfl
  | false => exact h2 rfl
theorem th_nx {x : R Fl} {ρ : Env} {k : Env → R Fl} {out : R Fl} (h : x = .ok (.nx ρ)) (h2 : k ρ = out) : then_ x k = out := by
  subst h
  exact h2
theorem rt_of {a : R D} {d : D} (h : a = .ok d) : ret a = .ok (.rt d) := by
  subst h
  rfl
theorem for_inv {α : Type} {rg : List D → R (List D)} {ag : D → R As} {mb : Env → R Fl} {ρ : Env} {r : R (List D)} {ds : List D} (emb : α → D) (xs : List α) (P : Nat → Env → Prop) (hr : r = .ok ds) (hg : rg ds = .ok (xs.map emb)) (h0 : P 0 ρ)
    (hs : ∀ i x ρ, xs[i]? = some x → P i ρ → ∃ as ρ', ag (emb x) = .ok as ∧ (mb (setE ρ as) = .ok (.nx ρ') ∨ mb (setE ρ as) = .ok (.ct ρ')) ∧ P (i + 1) ρ') :
    ∃ ρ', forR rg ag mb ρ r = .ok (.nx ρ') ∧ P xs.length ρ' := by
  subst hr
  rw [forR_ok, hg, calm_ok, ok_bind]
  exact loopGo_inv emb xs P h0 hs
theorem fors_inv {α : Type} {ag : D → R As} {mb : Env → R Fl} {ρ : Env} {r : R (List D)} (emb : α → D) (xs : List α) (P : Nat → Env → Prop) (hr : r = .ok (xs.map emb)) (h0 : P 0 ρ)
    (hs : ∀ i x ρ, xs[i]? = some x → P i ρ → ∃ as ρ', ag (emb x) = .ok as ∧ (mb (setE ρ as) = .ok (.nx ρ') ∨ mb (setE ρ as) = .ok (.ct ρ')) ∧ P (i + 1) ρ') :
    ∃ ρ', forS ag mb ρ r = .ok (.nx ρ') ∧ P xs.length ρ' := by
  subst hr
  exact loopGo_inv emb xs P h0 hs
theorem th_for {α : Type} {rg : List D → R (List D)} {ag : D → R As} {mb : Env → R Fl} {ρ : Env} {r : R (List D)} {ds : List D} {k : Env → R Fl} {out : R Fl} (emb : α → D) (xs : List α) (P : Nat → Env → Prop) (hr : r = .ok ds) (hg : rg ds = .ok (xs.map emb)) (h0 : P 0 ρ)
    (hs : ∀ i x ρ, xs[i]? = some x → P i ρ → ∃ as ρ', ag (emb x) = .ok as ∧ (mb (setE ρ as) = .ok (.nx ρ') ∨ mb (setE ρ as) = .ok (.ct ρ')) ∧ P (i + 1) ρ')
    (hk : ∀ ρ', P xs.length ρ' → k ρ' = out) : then_ (forR rg ag mb ρ r) k = out := by
  obtain ⟨ρ', h1, h2⟩ := for_inv emb xs P hr hg h0 hs
  rw [h1]
  exact hk _ h2
theorem th_fors {α : Type} {ag : D → R As} {mb : Env → R Fl} {ρ : Env} {r : R (List D)} {k : Env → R Fl} {out : R Fl} (emb : α → D) (xs : List α) (P : Nat → Env → Prop) (hr : r = .ok (xs.map emb)) (h0 : P 0 ρ)
    (hs : ∀ i x ρ, xs[i]? = some x → P i ρ → ∃ as ρ', ag (emb x) = .ok as ∧ (mb (setE ρ as) = .ok (.nx ρ') ∨ mb (setE ρ as) = .ok (.ct ρ')) ∧ P (i + 1) ρ')
    (hk : ∀ ρ', P xs.length ρ' → k ρ' = out) : then_ (forS ag mb ρ r) k = out := by
  obtain ⟨ρ', h1, h2⟩ := fors_inv emb xs P hr h0 hs
  rw [h1]
  exact hk _ h2
/-! ### own lists -/
theorem ixN_nat {n k : Nat} (h : k < n) : ixN n (k : Int) = some k := by
  unfold ixN
  rw [if_pos (by omega), if_pos (by omega), Int.toNat_natCast]
theorem seqIx_nat {n k : Nat} (h : k < n) : seqIndex? (k : Int) n = some k := by
  unfold seqIndex?
  simp
  omega
theorem ownD_of' {ρ : Env} {i : Nat} {ds : List D} (h : ρ[i]? = some (some (.lst ds))) : ownD ρ i = .ok ds := by
  unfold ownD
  rw [h]
theorem appPop_a1 {k n : Nat} (hl : k < n) (h1 : n ≤ LIM) : -(2 ^ 63) ≤ (k : Int) ∧ (k : Int) < 2 ^ 63 := by
  have h1 : n ≤ 1000000 := h1
  exact ⟨by omega, by omega⟩
theorem appPop_a2 {i j : Nat} {ρ : Env} {k : Nat} {ds es : List D} {d : D} (hk : es[k]? = some d) (hc : -(2 ^ 63) ≤ (k : Int) ∧ (k : Int) < 2 ^ 63 ∧ ds.length < LIM) (hs : seqIndex? (k : Int) es.length = some k) : appPopG i j ρ ds es (.int (k : Int)) = .ok (.nx ((ρ.set j (some (.lst (es.eraseIdx k)))).set i (some (.lst (ds ++ [d]))))) := by
  rw [appPopG]
  rw [if_pos hc]
  rw [hs]
  dsimp only
  rw [hk]
theorem appPopS_nat {i j : Nat} {ρ : Env} {a : R D} {k : Nat} {ds es : List D} {d : D} (hi : ρ[i]? = some (some (.lst ds))) (hj : ρ[j]? = some (some (.lst es))) (ha : a = .ok (.int (k : Int))) (hk : es[k]? = some d) (h1 : es.length ≤ LIM) (h2 : ds.length < LIM) :
    appPopS i j ρ a = .ok (.nx ((ρ.set j (some (.lst (es.eraseIdx k)))).set i (some (.lst (ds ++ [d]))))) := by
  have hl : k < es.length := (List.getElem?_eq_some_iff.mp hk).1
  obtain ⟨c1, c2⟩ := appPop_a1 hl h1
  unfold appPopS
  rw [ownD_of' hi, ownD_of' hj, ha, calm_ok, calm_ok, ok_bind, ok_bind, ok_bind]
  exact appPop_a2 hk ⟨c1, c2, h2⟩ (seqIx_nat hl)
theorem setixS_nat {i : Nat} {ρ : Env} {a b : R D} {k : Nat} {ds : List D} {d : D} (ha : a = .ok d) (hi : ρ[i]? = some (some (.lst ds))) (hb : b = .ok (.int (k : Int))) (hk : k < ds.length) : setixS i ρ a b = .ok (.nx (ρ.set i (some (.lst (ds.set k d))))) := by
  unfold setixS
  rw [ha, ok_bind, ownD_of' hi, calm_ok, ok_bind, hb, ok_bind]
  show (match ixN ds.length (k : Int) with
    | some j => R.ok (Fl.nx (ρ.set i (some (.lst (ds.set j d)))))
    | none => .stuck) = _
  rw [ixN_nat hk]
theorem setixSW_nat {i : Nat} {ρ : Env} {a b : R D} {k : Nat} {ds : List D} {d : D} (ha : a = .ok d) (hs : d.scal = true) (hi : ρ[i]? = some (some (.lst ds))) (hb : b = .ok (.int (k : Int))) (hk : k < ds.length) : setixSW i ρ a b = .ok (.nx (ρ.set i (some (.lst (ds.set k d))))) := by
  unfold setixSW
  rw [ha, ok_bind, if_pos hs, ownD_of' hi, calm_ok, ok_bind, hb, ok_bind]
  show (match ixN ds.length (k : Int) with
    | some j => R.ok (Fl.nx (ρ.set i (some (.lst (ds.set j d)))))
    | none => .stuck) = _
  rw [ixN_nat hk]
theorem rgL1_nat {n : Nat} (h : n ≤ LIM) : rgL1 [.int (n : Int)] = .ok ((List.range n).map fun (i : Nat) => D.int (i : Int)) := by
  have h : n ≤ 1000000 := h
  show rgL 0 (n : Int) = _
  unfold rgL
  rw [if_pos ⟨by omega, by omega, by omega, by omega, by show ((n : Int) - 0).toNat ≤ 1000000; omega⟩, Int.sub_zero, Int.toNat_natCast, rangeD_01]
theorem rg2_nat {lo n : Nat} (h1 : lo ≤ LIM) (h2 : n ≤ LIM) : rg2 [.int (lo : Int), .int (n : Int)] = .ok ((List.range (n - lo)).map fun (i : Nat) => D.int ((lo + i : Nat) : Int)) := by
  have h1 : lo ≤ 1000000 := h1
  have h2 : n ≤ 1000000 := h2
  have hc : -(2 ^ 62) ≤ (lo : Int) ∧ (lo : Int) < 2 ^ 62 ∧ -(2 ^ 62) ≤ (n : Int) ∧ (n : Int) < 2 ^ 62 := ⟨by omega, by omega, by omega, by omega⟩
  simp -implicitDefEqProofs only [rg2, if_pos hc, show ((n : Int) - lo).toNat = n - lo from by omega, rangeD_1, Int.natCast_add]
end DL
namespace Lk00
open PySem PySem.Spec L2 DL
set_option maxHeartbeats 4000000
def topS (i : Nat) : Stmt := PySem.Challenge.pw_neveralone_k00_rooms_and_their_signs.main.body.getD i (.Pass ⟨0, 0, 0, 0⟩)
section
variable {P : Program} {w : World} {K : PySem.W.Frag} {mg : Str → Option Value} {base : Heap}
abbrev s__law_order : Stmt := topS 11
abbrev N__law_order : List Str := ["_law_cell_here", "_law_n", "_law_left", "_law_row", "_law_k", "_law_size"]
theorem sc__law_order : FnScope N__law_order ["_law_cell_here", "_law_n"] (defScope s__law_order) := ⟨rfl, rfl, rfl, by decide +kernel, rfl, by decide +kernel, by decide +kernel⟩
def b__law_order : DL.Env → R Fl := fun r => (then_ (ownS 2 r (dsp rgL1 (acons (get (wipeE r [2, 3]) 1) (.ok [])))) (fun r => (then_ (ownS 3 r (dsp lenOk (.ok []))) (fun r => (then_ (forR rg1 (agV 4) (fun r => (then_ (asg 5 r (o2 subD (get (wipeE r [2, 3]) 1) (get (wipeE r [2, 3]) 4))) (fun r => (then_ (appPopS 3 2 r (o2 modD (cbf intD (acons (get r 0) (.ok []))) (get r 5))) (fun r => (asg 0 r (o2 fdivD (get (wipeE r [2, 3]) 0) (get (wipeE r [2, 3]) 5)))))))) r (acons (get r 1) (.ok []))) (fun r => (ret (get r 3))))))))
def m__law_order : List D → R D := runF 6 b__law_order
theorem k__law_order (F : FnAt K mg "_law_order" s__law_order ["_law_cell_here", "_law_n"]) (b_list : mg "list" = none) (b_range : mg "range" = none) (b_int : mg "int" = none) : Kn P w K mg base "_law_order" 1 2 m__law_order :=
  Kn.mk' (M := [2, 3]) (M' := [2, 3]) F sc__law_order (by decide) fun f cdv A outer s H E hr => ⟨_,
(mss_cons (ms_own 2 sc__law_order.nd (mn_rg1 rfl (by rfl) b_list (by rfl) b_range (me_var 1)))
(mss_cons (ms_own 3 sc__law_order.nd (mn_lst ma_nil))
(mss_cons (ms_forR1 PassesOwn.never rfl (by rfl) b_range (ma_cons (me_var 1) ma_nil) (mg_name 4 sc__law_order.nd) (agin_name (by decide))
(mss_cons (ms_set 5 sc__law_order.nd (me_op op_sub rs_sub (me_var 1) (me_var 4)))
(mss_cons (ms_appPop 3 2 (me_op op_mod rs_mod (me_callTy call_int1 cs_int (by rfl) b_int (by decide +kernel) (ma_cons (me_var 0) ma_nil)) (me_var 5)) (hp := fun h1 => pe_bm PySem.F.plainAttrs_list PySem.F.slot_list_append PySem.F.type_list_append mt_append (pv 3) (pa_cons (pe_bm PySem.F.plainAttrs_list PySem.F.slot_list_pop PySem.F.type_list_pop mt_popAt (pv 2) (pa_cons h1 pa_nil)) pa_nil)))
(mss_one (ms_set 0 sc__law_order.nd (me_op op_fdiv rs_fdiv (me_var 0) (me_var 5)))))))
(mss_one (ms_ret (me_var 3))))))⟩
abbrev s_subsets : Stmt := topS 6
abbrev N_subsets : List Str := ["items", "size", "grown", "missing", "stop", "row", "start", "at", "_"]
theorem sc_subsets : FnScope N_subsets ["items", "size"] (defScope s_subsets) := ⟨rfl, rfl, rfl, by decide +kernel, rfl, by decide +kernel, by decide +kernel⟩
def b_subsets : DL.Env → R Fl := fun r => (then_ (ifv (tst (o2 gtD (get r 1) (cbf lenD (acons (get r 0) (.ok []))))) (ret (dsp lstD (.ok []))) (.ok (.nx r))) (fun r => (then_ (asg 2 r (dsp lstD (acons (dsp tupD (acons (dsp tupD (.ok [])) (acons (.ok (.int 0)) (.ok [])))) (.ok [])))) (fun r => (then_ (forR rg3 (agV 3) (fun r => (then_ (asg 4 r (o2 addD (o2 subD (cbf lenD (acons (get r 0) (.ok []))) (get r 3)) (.ok (.int 1)))) (fun r => (asg 2 r (lc2M [5, 6, 7] [7] (fun r => (its (get r 2))) (tupAs 2 (agC (agV 5) (agC (agV 6) agN))) (fun _ => .ok true) (fun r => (dsp rg2 (acons (get r 6) (acons (get r 4) (.ok []))))) (agV 7) (fun _ => .ok true) (fun r => (dsp tupD (acons (o2 addD (get r 5) (dsp tupD (acons (o2 ixD (get r 0) (get r 7)) (.ok [])))) (acons (o2 addD (get r 7) (.ok (.int 1))) (.ok []))))) r))))) r (acons (get r 1) (acons (.ok (.int 0)) (acons (o1 negD (.ok (.int 1))) (.ok []))))) (fun r => (ret (lcM [5, 8] (fun r => (its (get r 2))) (tupAs 2 (agC (agV 5) (agC (agV 8) agN))) (fun _ => .ok true) (fun r => (get r 5)) r))))))))
def m_subsets : List D → R D := runF 9 b_subsets
theorem k_subsets (F : FnAt K mg "subsets" s_subsets ["items", "size"]) (b_len : mg "len" = none) (b_range : mg "range" = none) : Kn P w K mg base "subsets" 1 2 m_subsets :=
  Kn.mk' (M := []) (M' := []) F sc_subsets (by decide) fun f cdv A outer s H E hr => ⟨_,
(mss_cons (ms_if (mt_cmp op_gt rs_gt (me_var 1) (me_callB (r := rLenX K) cr_lenX cs_len (by rfl) b_len (by decide +kernel) (ma_cons (me_var 0) ma_nil)))
(mss_one (ms_ret (me_lst ma_nil)))
mss_nil)
(mss_cons (ms_set 2 sc_subsets.nd (me_lst (ma_cons (me_tup (ma_cons (me_tup ma_nil) (ma_cons me_int ma_nil))) ma_nil)))
(mss_cons (ms_forR3 PassesOwn.never rfl (by rfl) b_range (ma_cons (me_var 1) (ma_cons me_int (ma_cons (me_un un_neg us_neg me_int) ma_nil))) (mg_name 3 sc_subsets.nd) (agin_name (by decide))
(mss_cons (ms_set 4 sc_subsets.nd (me_op (r := rAddX K) op_addX rs_add (me_op op_sub rs_sub (me_callB (r := rLenX K) cr_lenX cs_len (by rfl) b_len (by decide +kernel) (ma_cons (me_var 0) ma_nil)) (me_var 3)) me_int))
(mss_one (ms_setLc2 2 (own := [("row", 5), ("start", 6), ("at", 7)]) rfl sc_subsets.nd (mi_seq K (me_var 2)) (blkOk_by (N := N_subsets) (sc := defScope s_subsets) (own := [("row", 5), ("start", 6), ("at", 7)]) (by decide +kernel)) (vs1 := [7]) (by decide) (fun _ _ _ _ _ => (mg_tup K (mgs_cons (mg_name 5 sc_subsets.nd) (mgs_cons (mg_name 6 sc_subsets.nd) mgs_nil)))) (fun _ _ _ _ _ => mts_nil) (fun _ _ _ _ _ => (mi_rng2 (by rfl) b_range (ma_cons (me_var 6) (ma_cons (me_var 4) ma_nil)))) (fun _ _ _ _ _ => (mg_name 7 sc_subsets.nd)) (fun _ _ _ _ _ => mts_nil) (fun _ _ _ _ _ => (me_tup (ma_cons (me_op (r := rAddX K) op_addX rs_add (me_var 5) (me_tup (ma_cons (me_ix (r := rIx K) ix_seq rs_ix (me_var 0) (me_var 7)) ma_nil))) (ma_cons (me_op (r := rAddX K) op_addX rs_add (me_var 7) me_int) ma_nil)))) (agin_tup (agsin_cons (agin_name (by decide)) (agsin_cons (agin_name (by decide)) agsin_nil))) (agin_name (by decide)) (sw_true rfl rfl rfl (by decide +kernel))))) (hi := fun h1 => pi_range3 (by rfl) b_range h1))
(mss_one (ms_ret (me_lc (own := [("row", 5), ("_", 8)]) rfl sc_subsets.nd (mi_seq K (me_var 2)) (blkOk_by (N := N_subsets) (sc := defScope s_subsets) (own := [("row", 5), ("_", 8)]) (by decide +kernel)) (fun _ _ _ _ _ => (mg_tup K (mgs_cons (mg_name 5 sc_subsets.nd) (mgs_cons (mg_name 8 sc_subsets.nd) mgs_nil)))) (fun _ _ _ _ _ => mts_nil) (fun _ _ _ _ _ => (me_var 5)) (agin_tup (agsin_cons (agin_name (by decide)) (agsin_cons (agin_name (by decide)) agsin_nil)))))))))⟩
abbrev s__law_many : Stmt := topS 16
abbrev N__law_many : List Str := ["_law_n", "_law_k", "_law_many_here", "_law_j"]
theorem sc__law_many : FnScope N__law_many ["_law_n", "_law_k"] (defScope s__law_many) := ⟨rfl, rfl, rfl, by decide +kernel, rfl, by decide +kernel, by decide +kernel⟩
def b__law_many : DL.Env → R Fl := fun r => (then_ (asg 2 r (.ok (.int 1))) (fun r => (then_ (forR rg1 (agV 3) (fun r => (asg 2 r (o2 fdivD (o2 mulD (get r 2) (o2 subD (get r 0) (get r 3))) (o2 addD (get r 3) (.ok (.int 1)))))) r (acons (get r 1) (.ok []))) (fun r => (ret (get r 2))))))
def m__law_many : List D → R D := runF 4 b__law_many
theorem k__law_many (F : FnAt K mg "_law_many" s__law_many ["_law_n", "_law_k"]) (b_range : mg "range" = none) : Kn P w K mg base "_law_many" 1 2 m__law_many :=
  Kn.mk' (M := []) (M' := []) F sc__law_many (by decide) fun f cdv A outer s H E hr => ⟨_,
(mss_cons (ms_set 2 sc__law_many.nd me_int)
(mss_cons (ms_forR1 PassesOwn.never rfl (by rfl) b_range (ma_cons (me_var 1) ma_nil) (mg_name 3 sc__law_many.nd) (agin_name (by decide))
(mss_one (ms_set 2 sc__law_many.nd (me_op op_fdiv rs_fdiv (me_op op_mulX rs_mul (me_var 2) (me_op op_sub rs_sub (me_var 0) (me_var 3))) (me_op (r := rAddX K) op_addX rs_add (me_var 3) me_int)))))
(mss_one (ms_ret (me_var 2)))))⟩
abbrev s__law_subsets_right : Stmt := topS 17
abbrev N__law_subsets_right : List Str := ["_law_n", "_law_k", "_law_found", "_law_at", "_law_room_here", "_law_j"]
theorem sc__law_subsets_right : FnScope N__law_subsets_right ["_law_n", "_law_k"] (defScope s__law_subsets_right) := ⟨rfl, rfl, rfl, by decide +kernel, rfl, by decide +kernel, by decide +kernel⟩
def b__law_subsets_right : DL.Env → R Fl := fun r => (then_ (asg 2 r (call_ 2 m_subsets (acons (dsp rgT1 (acons (get r 0) (.ok []))) (acons (get r 1) (.ok []))))) (fun r => (then_ (ifv (tor (tnot (tst (cbf isiD (acons (get r 2) (acons (.ok (.ty "list")) (.ok [])))))) (tst (o2 neD (cbf lenD (acons (get r 2) (.ok []))) (call_ 2 m__law_many (acons (get r 0) (acons (get r 1) (.ok []))))))) (ret (.ok (.bl false))) (.ok (.nx r))) (fun r => (then_ (forR rg1 (agV 3) (fun r => (then_ (asg 4 r (o2 ixD (get r 2) (get r 3))) (fun r => (then_ (ifv (tor (tnot (tst (cbf isiD (acons (get r 4) (acons (.ok (.ty "tuple")) (.ok [])))))) (tst (o2 neD (cbf lenD (acons (get r 4) (.ok []))) (get r 1)))) (ret (.ok (.bl false))) (.ok (.nx r))) (fun r => (then_ (forR rg1 (agV 5) (fun r => (ifv (tor (tst (o2 notInD (o2 ixD (get r 4) (get r 5)) (cbf rng1D (acons (get r 0) (.ok []))))) (tand (tst (o2 gtD (get r 5) (.ok (.int 0)))) (tst (o2 geX (o2 ixD (get r 4) (o2 subD (get r 5) (.ok (.int 1)))) (o2 ixD (get r 4) (get r 5)))))) (ret (.ok (.bl false))) (.ok (.nx r)))) r (acons (get r 1) (.ok []))) (fun r => (ifv (tand (tst (o2 gtD (get r 3) (.ok (.int 0)))) (tst (o2 geX (o2 ixD (get r 2) (o2 subD (get r 3) (.ok (.int 1)))) (get r 4)))) (ret (.ok (.bl false))) (.ok (.nx r)))))))))) r (acons (cbf lenD (acons (get r 2) (.ok []))) (.ok []))) (fun r => (ret (.ok (.bl true)))))))))
def m__law_subsets_right : List D → R D := runF 6 b__law_subsets_right
theorem k__law_subsets_right (F : FnAt K mg "_law_subsets_right" s__law_subsets_right ["_law_n", "_law_k"]) (k_subsets : Kn P w K mg base "subsets" 1 2 m_subsets) (k__law_many : Kn P w K mg base "_law_many" 1 2 m__law_many) (b_range : mg "range" = none) (b_tuple : mg "tuple" = none) (b_list : mg "list" = none) (b_isinstance : mg "isinstance" = none) (b_len : mg "len" = none) : Kn P w K mg base "_law_subsets_right" 2 2 m__law_subsets_right :=
  Kn.mk' (M := []) (M' := []) F sc__law_subsets_right (by decide) fun f cdv A outer s H E hr => ⟨_,
(mss_cons (ms_set 2 sc__law_subsets_right.nd (me_callK k_subsets hr (by rfl) (ma_cons (me_tupRg1 (by rfl) b_tuple (by rfl) b_range (me_var 0)) (ma_cons (me_var 1) ma_nil))))
(mss_cons (ms_if (MW.mt (mw_or (mt_not (mt_val (me_callB (r := rIsi K) call_isi cs_isi (by rfl) b_isinstance (by decide +kernel) (ma_cons (me_var 2) (ma_cons (me_bty (n := "list") (by rfl) b_list (by decide +kernel)) ma_nil))))) (mw_or1 (mt_cmp (r := rNeD K) (op_neD hr.units) rs_ne (me_callB (r := rLenX K) cr_lenX cs_len (by rfl) b_len (by decide +kernel) (ma_cons (me_var 2) ma_nil)) (me_callK k__law_many hr (by rfl) (ma_cons (me_var 0) (ma_cons (me_var 1) ma_nil)))))))
(mss_one (ms_ret me_bl))
mss_nil)
(mss_cons (ms_forR1 PassesOwn.never rfl (by rfl) b_range (ma_cons (me_callB (r := rLenX K) cr_lenX cs_len (by rfl) b_len (by decide +kernel) (ma_cons (me_var 2) ma_nil)) ma_nil) (mg_name 3 sc__law_subsets_right.nd) (agin_name (by decide))
(mss_cons (ms_set 4 sc__law_subsets_right.nd (me_ix (r := rIx K) ix_seq rs_ix (me_var 2) (me_var 3)))
(mss_cons (ms_if (MW.mt (mw_or (mt_not (mt_val (me_callB (r := rIsi K) call_isi cs_isi (by rfl) b_isinstance (by decide +kernel) (ma_cons (me_var 4) (ma_cons (me_bty (n := "tuple") (by rfl) b_tuple (by decide +kernel)) ma_nil))))) (mw_or1 (mt_cmp (r := rNeD K) (op_neD hr.units) rs_ne (me_callB (r := rLenX K) cr_lenX cs_len (by rfl) b_len (by decide +kernel) (ma_cons (me_var 4) ma_nil)) (me_var 1)))))
(mss_one (ms_ret me_bl))
mss_nil)
(mss_cons (ms_forR1 PassesOwn.never rfl (by rfl) b_range (ma_cons (me_var 1) ma_nil) (mg_name 5 sc__law_subsets_right.nd) (agin_name (by decide))
(mss_one (ms_if (MW.mt (mw_or (mt_cmp (r := rNinX K) op_ninX rs_notIn (me_ix (r := rIx K) ix_seq rs_ix (me_var 4) (me_var 5)) (me_callTy cr_range1 cs_rng1 (by rfl) b_range (by decide +kernel) (ma_cons (me_var 0) ma_nil))) (mw_or1 (MW.mt (mw_and (mt_cmp op_gt rs_gt (me_var 5) me_int) (mw_and1 (mt_cmp (r := rGeX K) (op_geX hr) rs_geX (me_ix (r := rIx K) ix_seq rs_ix (me_var 4) (me_op op_sub rs_sub (me_var 5) me_int)) (me_ix (r := rIx K) ix_seq rs_ix (me_var 4) (me_var 5)))))))))
(mss_one (ms_ret me_bl))
mss_nil)))
(mss_one (ms_if (MW.mt (mw_and (mt_cmp op_gt rs_gt (me_var 3) me_int) (mw_and1 (mt_cmp (r := rGeX K) (op_geX hr) rs_geX (me_ix (r := rIx K) ix_seq rs_ix (me_var 2) (me_op op_sub rs_sub (me_var 3) me_int)) (me_var 4)))))
(mss_one (ms_ret me_bl))
mss_nil))))))
(mss_one (ms_ret me_bl)))))⟩
abbrev s__law_cell : Stmt := topS 10
abbrev N__law_cell : List Str := ["_law_script", "_law_k", "_law_cell_here"]
theorem sc__law_cell : FnScope N__law_cell ["_law_script", "_law_k"] (defScope s__law_cell) := ⟨rfl, rfl, rfl, by decide +kernel, rfl, by decide +kernel, by decide +kernel⟩
def b__law_cell : DL.Env → R Fl := fun r => (then_ (asg 2 r (o2 addD (o2 mulD (.ok (.int 17)) (get r 1)) (.ok (.int 5)))) (fun r => (then_ (ifv (tst (o2 ltD (get r 1) (cbf lenD (acons (get r 0) (.ok []))))) (then_ (asg 2 r (cbf absD (acons (o2 ixD (get r 0) (get r 1)) (.ok [])))) (fun r => (ifv (tst (o2 geX (get r 2) (o2 powD (.ok (.int 10)) (.ok (.int 18))))) (ret (o2 subD (get r 2) (o2 powD (.ok (.int 10)) (.ok (.int 18))))) (.ok (.nx r))))) (ifv (tst (o2 gtD (cbf lenD (acons (get r 0) (.ok []))) (.ok (.int 0)))) (asg 2 r (o2 addD (cbf absD (acons (o2 ixD (get r 0) (o2 modD (cbf intD (acons (get r 1) (.ok []))) (cbf lenD (acons (get r 0) (.ok []))))) (.ok []))) (o2 mulD (.ok (.int 101)) (get r 1)))) (.ok (.nx r)))) (fun r => (then_ (asg 2 r (o2 modD (cbf intD (acons (o2 addD (o2 addD (o2 mulD (get r 2) (.ok (.int 48271))) (o2 mulD (.ok (.int 11)) (get r 1))) (.ok (.int 7))) (.ok []))) (.ok (.int 2147483647)))) (fun r => (ret (o2 fdivD (o2 modD (cbf intD (acons (o2 mulD (o2 addD (o2 addD (o2 mulD (get r 2) (get r 2)) (o2 mulD (.ok (.int 69621)) (get r 2))) (get r 1)) (.ok (.int 1000000000039))) (.ok []))) (.ok (.int 2305843009213693951))) (.ok (.int 2))))))))))
def m__law_cell : List D → R D := runF 3 b__law_cell
theorem k__law_cell (F : FnAt K mg "_law_cell" s__law_cell ["_law_script", "_law_k"]) (b_len : mg "len" = none) (b_abs : mg "abs" = none) (b_int : mg "int" = none) : Kn P w K mg base "_law_cell" 1 2 m__law_cell :=
  Kn.mk' (M := []) (M' := []) F sc__law_cell (by decide) fun f cdv A outer s H E hr => ⟨_,
(mss_cons (ms_set 2 sc__law_cell.nd (me_op (r := rAddX K) op_addX rs_add (me_op op_mulX rs_mul me_int (me_var 1)) me_int))
(mss_cons (ms_if (mt_cmp (r := rLtX K) (op_ltX hr) rs_lt (me_var 1) (me_callB (r := rLenX K) cr_lenX cs_len (by rfl) b_len (by decide +kernel) (ma_cons (me_var 0) ma_nil)))
(mss_cons (ms_set 2 sc__law_cell.nd (me_callB call_abs cs_abs (by rfl) b_abs (by decide +kernel) (ma_cons (me_ix (r := rIx K) ix_seq rs_ix (me_var 0) (me_var 1)) ma_nil)))
(mss_one (ms_if (mt_cmp (r := rGeX K) (op_geX hr) rs_geX (me_var 2) (me_op op_pow rs_pow me_int me_int))
(mss_one (ms_ret (me_op op_sub rs_sub (me_var 2) (me_op op_pow rs_pow me_int me_int))))
mss_nil)))
(mss_one (ms_if (mt_cmp op_gt rs_gt (me_callB (r := rLenX K) cr_lenX cs_len (by rfl) b_len (by decide +kernel) (ma_cons (me_var 0) ma_nil)) me_int)
(mss_one (ms_set 2 sc__law_cell.nd (me_op (r := rAddX K) op_addX rs_add (me_callB call_abs cs_abs (by rfl) b_abs (by decide +kernel) (ma_cons (me_ix (r := rIx K) ix_seq rs_ix (me_var 0) (me_op op_mod rs_mod (me_callTy call_int1 cs_int (by rfl) b_int (by decide +kernel) (ma_cons (me_var 1) ma_nil)) (me_callB (r := rLenX K) cr_lenX cs_len (by rfl) b_len (by decide +kernel) (ma_cons (me_var 0) ma_nil)))) ma_nil)) (me_op op_mulX rs_mul me_int (me_var 1)))))
mss_nil)))
(mss_cons (ms_set 2 sc__law_cell.nd (me_op op_mod rs_mod (me_callTy call_int1 cs_int (by rfl) b_int (by decide +kernel) (ma_cons (me_op (r := rAddX K) op_addX rs_add (me_op (r := rAddX K) op_addX rs_add (me_op op_mulX rs_mul (me_var 2) me_int) (me_op op_mulX rs_mul me_int (me_var 1))) me_int) ma_nil)) me_int))
(mss_one (ms_ret (me_op op_fdiv rs_fdiv (me_op op_mod rs_mod (me_callTy call_int1 cs_int (by rfl) b_int (by decide +kernel) (ma_cons (me_op op_mulX rs_mul (me_op (r := rAddX K) op_addX rs_add (me_op (r := rAddX K) op_addX rs_add (me_op op_mulX rs_mul (me_var 2) (me_var 2)) (me_op op_mulX rs_mul me_int (me_var 2))) (me_var 1)) me_int) ma_nil)) me_int) me_int))))))⟩
abbrev s__law_whole : Stmt := topS 13
abbrev N__law_whole : List Str := ["_law_actual", "_law_due"]
theorem sc__law_whole : FnScope N__law_whole ["_law_actual", "_law_due"] (defScope s__law_whole) := ⟨rfl, rfl, rfl, by decide +kernel, rfl, by decide +kernel, by decide +kernel⟩
def b__law_whole : DL.Env → R Fl := fun r => (ret (vand (cbf isiD (acons (get r 0) (acons (.ok (.ty "int")) (.ok [])))) (vand (vnot (cbf isiD (acons (get r 0) (acons (.ok (.ty "bool")) (.ok []))))) (o2 eqD (get r 0) (get r 1)))))
def m__law_whole : List D → R D := runF 2 b__law_whole
theorem k__law_whole (F : FnAt K mg "_law_whole" s__law_whole ["_law_actual", "_law_due"]) (b_int : mg "int" = none) (b_isinstance : mg "isinstance" = none) (b_bool : mg "bool" = none) : Kn P w K mg base "_law_whole" 1 2 m__law_whole :=
  Kn.mk' (M := []) (M' := []) F sc__law_whole (by decide) fun f cdv A outer s H E hr => ⟨_,
(mss_one (ms_ret (me_and (me_callB (r := rIsi K) call_isi cs_isi (by rfl) b_isinstance (by decide +kernel) (ma_cons (me_var 0) (ma_cons (me_bty (n := "int") (by rfl) b_int (by decide +kernel)) ma_nil))) (me_and (me_not (me_callB (r := rIsi K) call_isi cs_isi (by rfl) b_isinstance (by decide +kernel) (ma_cons (me_var 0) (ma_cons (me_bty (n := "bool") (by rfl) b_bool (by decide +kernel)) ma_nil)))) (me_one (me_cmp (r := rEqD K) (op_eqD hr.units) rs_eq (me_var 0) (me_var 1)))))))⟩
abbrev s__law_sign : Stmt := topS 12
abbrev N__law_sign : List Str := ["_law_row", "_law_left", "_law_sign_here", "_law_k", "_law_at", "_law_j", "_law_kept"]
theorem sc__law_sign : FnScope N__law_sign ["_law_row"] (defScope s__law_sign) := ⟨rfl, rfl, rfl, by decide +kernel, rfl, by decide +kernel, by decide +kernel⟩
def b__law_sign : DL.Env → R Fl := fun r => (then_ (ownS 1 r (dsp listL (acons (get (wipeE r [1]) 0) (.ok [])))) (fun r => (then_ (asg 2 r (.ok (.int 1))) (fun r => (then_ (forR rg1 (agV 3) (fun r => (then_ (asg 4 r (get (wipeE r [1]) 3)) (fun r => (then_ (forR rg2 (agV 5) (fun r => (ifv (tst (o2 ltD (o2 ixD (get r 1) (get r 5)) (o2 ixD (get r 1) (get r 4)))) (asg 4 r (get (wipeE r [1]) 5)) (.ok (.nx r)))) r (acons (get r 3) (acons (cbf lenD (acons (get r 1) (.ok []))) (.ok [])))) (fun r => (ifv (tst (o2 neD (get r 4) (get r 3))) (then_ (asgW 6 r (o2 ixD (get r 1) (get r 3))) (fun r => (then_ (setixSW 1 r (o2 ixD (get r 1) (get r 4)) (get r 3)) (fun r => (then_ (setixS 1 r (get (wipeE r [1]) 6) (get r 4)) (fun r => (asg 2 r (o1 negD (get (wipeE r [1]) 2))))))))) (.ok (.nx r)))))))) r (acons (cbf lenD (acons (get r 1) (.ok []))) (.ok []))) (fun r => (ret (get r 2))))))))
def m__law_sign : List D → R D := runF 7 b__law_sign
theorem k__law_sign (F : FnAt K mg "_law_sign" s__law_sign ["_law_row"]) (b_list : mg "list" = none) (b_range : mg "range" = none) (b_len : mg "len" = none) : Kn P w K mg base "_law_sign" 1 1 m__law_sign :=
  Kn.mk' (M := [1]) (M' := [1]) F sc__law_sign (by decide) fun f cdv A outer s H E hr => ⟨_,
(mss_cons (ms_own 1 sc__law_sign.nd (mn_list (by rfl) b_list (by decide +kernel) (ma_cons (me_var 0) ma_nil)))
(mss_cons (ms_set 2 sc__law_sign.nd me_int)
(mss_cons (ms_forR1 PassesOwn.never rfl (by rfl) b_range (ma_cons (me_callB (r := rLenX K) cr_lenX cs_len (by rfl) b_len (by decide +kernel) (ma_cons (me_var 1) ma_nil)) ma_nil) (mg_name 3 sc__law_sign.nd) (agin_name (by decide))
(mss_cons (ms_set 4 sc__law_sign.nd (me_var 3))
(mss_cons (ms_forR2 PassesOwn.never rfl (by rfl) b_range (ma_cons (me_var 3) (ma_cons (me_callB (r := rLenX K) cr_lenX cs_len (by rfl) b_len (by decide +kernel) (ma_cons (me_var 1) ma_nil)) ma_nil)) (mg_name 5 sc__law_sign.nd) (agin_name (by decide))
(mss_one (ms_if (mt_cmp (r := rLtX K) (op_ltX hr) rs_lt (me_ix (r := rIx K) ix_seq rs_ix (me_var 1) (me_var 5)) (me_ix (r := rIx K) ix_seq rs_ix (me_var 1) (me_var 4)))
(mss_one (ms_set 4 sc__law_sign.nd (me_var 5)))
mss_nil)))
(mss_one (ms_if (mt_cmp (r := rNeD K) (op_neD hr.units) rs_ne (me_var 4) (me_var 3))
(mss_cons (ms_setW 6 sc__law_sign.nd (me_ix (r := rIx K) ix_seq rs_ix (me_var 1) (me_var 3)))
(mss_cons (ms_setixW 1 (me_ix (r := rIx K) ix_seq rs_ix (me_var 1) (me_var 4)) (me_var 3) (hp := fun h1 h2 => ps_asg h1 (pg_sub (pv 1) h2 set_list)))
(mss_cons (ms_setix 1 (me_var 6) (me_var 4) (hp := fun h1 h2 => ps_asg h1 (pg_sub (pv 1) h2 set_list)))
(mss_one (ms_set 2 sc__law_sign.nd (me_un un_neg us_neg (me_var 2)))))))
mss_nil)))))
(mss_one (ms_ret (me_var 2))))))⟩
abbrev s__law_room : Stmt := topS 14
abbrev N__law_room : List Str := ["_law_actual", "_law_due", "_law_k"]
theorem sc__law_room : FnScope N__law_room ["_law_actual", "_law_due"] (defScope s__law_room) := ⟨rfl, rfl, rfl, by decide +kernel, rfl, by decide +kernel, by decide +kernel⟩
def b__law_room : DL.Env → R Fl := fun r => (then_ (ifv (tor (tnot (tst (cbf isiD (acons (get r 0) (acons (.ok (.ty "tuple")) (.ok [])))))) (tst (o2 neD (cbf lenD (acons (get r 0) (.ok []))) (cbf lenD (acons (get r 1) (.ok [])))))) (ret (.ok (.bl false))) (.ok (.nx r))) (fun r => (then_ (forR rg1 (agV 2) (fun r => (ifv (tnot (tst (call_ 2 m__law_whole (acons (o2 ixD (get r 0) (get r 2)) (acons (o2 ixD (get r 1) (get r 2)) (.ok [])))))) (ret (.ok (.bl false))) (.ok (.nx r)))) r (acons (cbf lenD (acons (get r 1) (.ok []))) (.ok []))) (fun r => (ret (.ok (.bl true)))))))
def m__law_room : List D → R D := runF 3 b__law_room
theorem k__law_room (F : FnAt K mg "_law_room" s__law_room ["_law_actual", "_law_due"]) (k__law_whole : Kn P w K mg base "_law_whole" 1 2 m__law_whole) (b_tuple : mg "tuple" = none) (b_isinstance : mg "isinstance" = none) (b_len : mg "len" = none) (b_range : mg "range" = none) : Kn P w K mg base "_law_room" 2 2 m__law_room :=
  Kn.mk' (M := []) (M' := []) F sc__law_room (by decide) fun f cdv A outer s H E hr => ⟨_,
(mss_cons (ms_if (MW.mt (mw_or (mt_not (mt_val (me_callB (r := rIsi K) call_isi cs_isi (by rfl) b_isinstance (by decide +kernel) (ma_cons (me_var 0) (ma_cons (me_bty (n := "tuple") (by rfl) b_tuple (by decide +kernel)) ma_nil))))) (mw_or1 (mt_cmp (r := rNeD K) (op_neD hr.units) rs_ne (me_callB (r := rLenX K) cr_lenX cs_len (by rfl) b_len (by decide +kernel) (ma_cons (me_var 0) ma_nil)) (me_callB (r := rLenX K) cr_lenX cs_len (by rfl) b_len (by decide +kernel) (ma_cons (me_var 1) ma_nil))))))
(mss_one (ms_ret me_bl))
mss_nil)
(mss_cons (ms_forR1 PassesOwn.never rfl (by rfl) b_range (ma_cons (me_callB (r := rLenX K) cr_lenX cs_len (by rfl) b_len (by decide +kernel) (ma_cons (me_var 1) ma_nil)) ma_nil) (mg_name 2 sc__law_room.nd) (agin_name (by decide))
(mss_one (ms_if (mt_not (mt_val (me_callK k__law_whole hr (by rfl) (ma_cons (me_ix (r := rIx K) ix_seq rs_ix (me_var 0) (me_var 2)) (ma_cons (me_ix (r := rIx K) ix_seq rs_ix (me_var 1) (me_var 2)) ma_nil)))))
(mss_one (ms_ret me_bl))
mss_nil)))
(mss_one (ms_ret me_bl))))⟩
abbrev s__law_rooms : Stmt := topS 15
abbrev N__law_rooms : List Str := ["_law_actual", "_law_due", "_law_k"]
theorem sc__law_rooms : FnScope N__law_rooms ["_law_actual", "_law_due"] (defScope s__law_rooms) := ⟨rfl, rfl, rfl, by decide +kernel, rfl, by decide +kernel, by decide +kernel⟩
def b__law_rooms : DL.Env → R Fl := fun r => (then_ (ifv (tor (tnot (tst (cbf isiD (acons (get r 0) (acons (.ok (.ty "list")) (.ok [])))))) (tst (o2 neD (cbf lenD (acons (get r 0) (.ok []))) (cbf lenD (acons (get r 1) (.ok [])))))) (ret (.ok (.bl false))) (.ok (.nx r))) (fun r => (then_ (forR rg1 (agV 2) (fun r => (ifv (tnot (tst (call_ 2 m__law_room (acons (o2 ixD (get r 0) (get r 2)) (acons (o2 ixD (get r 1) (get r 2)) (.ok [])))))) (ret (.ok (.bl false))) (.ok (.nx r)))) r (acons (cbf lenD (acons (get r 1) (.ok []))) (.ok []))) (fun r => (ret (.ok (.bl true)))))))
def m__law_rooms : List D → R D := runF 3 b__law_rooms
theorem k__law_rooms (F : FnAt K mg "_law_rooms" s__law_rooms ["_law_actual", "_law_due"]) (k__law_room : Kn P w K mg base "_law_room" 2 2 m__law_room) (b_list : mg "list" = none) (b_isinstance : mg "isinstance" = none) (b_len : mg "len" = none) (b_range : mg "range" = none) : Kn P w K mg base "_law_rooms" 3 2 m__law_rooms :=
  Kn.mk' (M := []) (M' := []) F sc__law_rooms (by decide) fun f cdv A outer s H E hr => ⟨_,
(mss_cons (ms_if (MW.mt (mw_or (mt_not (mt_val (me_callB (r := rIsi K) call_isi cs_isi (by rfl) b_isinstance (by decide +kernel) (ma_cons (me_var 0) (ma_cons (me_bty (n := "list") (by rfl) b_list (by decide +kernel)) ma_nil))))) (mw_or1 (mt_cmp (r := rNeD K) (op_neD hr.units) rs_ne (me_callB (r := rLenX K) cr_lenX cs_len (by rfl) b_len (by decide +kernel) (ma_cons (me_var 0) ma_nil)) (me_callB (r := rLenX K) cr_lenX cs_len (by rfl) b_len (by decide +kernel) (ma_cons (me_var 1) ma_nil))))))
(mss_one (ms_ret me_bl))
mss_nil)
(mss_cons (ms_forR1 PassesOwn.never rfl (by rfl) b_range (ma_cons (me_callB (r := rLenX K) cr_lenX cs_len (by rfl) b_len (by decide +kernel) (ma_cons (me_var 1) ma_nil)) ma_nil) (mg_name 2 sc__law_rooms.nd) (agin_name (by decide))
(mss_one (ms_if (mt_not (mt_val (me_callK k__law_room hr (by rfl) (ma_cons (me_ix (r := rIx K) ix_seq rs_ix (me_var 0) (me_var 2)) (ma_cons (me_ix (r := rIx K) ix_seq rs_ix (me_var 1) (me_var 2)) ma_nil)))))
(mss_one (ms_ret me_bl))
mss_nil)))
(mss_one (ms_ret me_bl))))⟩
abbrev s_exchanged : Stmt := topS 3
abbrev N_exchanged : List Str := ["room", "leaving", "entering", "place"]
theorem sc_exchanged : FnScope N_exchanged ["room", "leaving", "entering"] (defScope s_exchanged) := ⟨rfl, rfl, rfl, by decide +kernel, rfl, by decide +kernel, by decide +kernel⟩
def b_exchanged : DL.Env → R Fl := fun r => (ret (cbf tupleD (acons (cbf sortedD (acons (o2 addD (lcM [3] (fun r => (its (get r 0))) (agV 3) (fun r => (tst (o2 neD (get r 3) (get r 1)))) (fun r => (get r 3)) r) (dsp lstD (acons (get r 2) (.ok [])))) (.ok []))) (.ok []))))
def m_exchanged : List D → R D := runF 4 b_exchanged
theorem k_exchanged (F : FnAt K mg "exchanged" s_exchanged ["room", "leaving", "entering"]) (b_sorted : mg "sorted" = none) (b_tuple : mg "tuple" = none) : Kn P w K mg base "exchanged" 1 3 m_exchanged :=
  Kn.mk' (M := []) (M' := []) F sc_exchanged (by decide) fun f cdv A outer s H E hr => ⟨_,
(mss_one (ms_ret (me_callTy (r := rTupOf K) cr_tupOf cs_tuple (by rfl) b_tuple (by decide +kernel) (ma_cons (me_callB (r := rSortedX K) cr_sortedX cs_sorted (by rfl) b_sorted (by decide +kernel) (ma_cons (me_op (r := rAddX K) op_addX rs_add (me_lc (own := [("place", 3)]) rfl sc_exchanged.nd (mi_seq K (me_var 0)) (blkOk_by (N := N_exchanged) (sc := defScope s_exchanged) (own := [("place", 3)]) (by decide +kernel)) (fun _ _ _ _ _ => (mg_name 3 sc_exchanged.nd)) (fun _ _ _ _ _ => (mts_one (mt_cmp (r := rNeD K) (op_neD hr.units) rs_ne (me_var 3) (me_var 1)))) (fun _ _ _ _ _ => (me_var 3)) (agin_name (by decide))) (me_lst (ma_cons (me_var 2) ma_nil))) ma_nil)) ma_nil))))⟩
abbrev s_without : Stmt := topS 2
abbrev N_without : List Str := ["room", "place", "other"]
theorem sc_without : FnScope N_without ["room", "place"] (defScope s_without) := ⟨rfl, rfl, rfl, by decide +kernel, rfl, by decide +kernel, by decide +kernel⟩
def b_without : DL.Env → R Fl := fun r => (ret (cbf tupleD (acons (lcM [2] (fun r => (its (get r 0))) (agV 2) (fun r => (tst (o2 neD (get r 2) (get r 1)))) (fun r => (get r 2)) r) (.ok []))))
def m_without : List D → R D := runF 3 b_without
theorem k_without (F : FnAt K mg "without" s_without ["room", "place"]) (b_tuple : mg "tuple" = none) : Kn P w K mg base "without" 1 2 m_without :=
  Kn.mk' (M := []) (M' := []) F sc_without (by decide) fun f cdv A outer s H E hr => ⟨_,
(mss_one (ms_ret (me_callTy (r := rTupOf K) cr_tupOf cs_tuple (by rfl) b_tuple (by decide +kernel) (ma_cons (me_lc (own := [("other", 2)]) rfl sc_without.nd (mi_seq K (me_var 0)) (blkOk_by (N := N_without) (sc := defScope s_without) (own := [("other", 2)]) (by decide +kernel)) (fun _ _ _ _ _ => (mg_name 2 sc_without.nd)) (fun _ _ _ _ _ => (mts_one (mt_cmp (r := rNeD K) (op_neD hr.units) rs_ne (me_var 2) (me_var 1)))) (fun _ _ _ _ _ => (me_var 2)) (agin_name (by decide))) ma_nil))))⟩
abbrev s__law_exchanges : Stmt := topS 18
abbrev N__law_exchanges : List Str := ["_law_room_here", "_law_n", "_law_cell_here", "_law_outside", "_law_leaving", "_law_kept", "_law_entering", "_law_p"]
theorem sc__law_exchanges : FnScope N__law_exchanges ["_law_room_here", "_law_n", "_law_cell_here"] (defScope s__law_exchanges) := ⟨rfl, rfl, rfl, by decide +kernel, rfl, by decide +kernel, by decide +kernel⟩
def b__law_exchanges : DL.Env → R Fl := fun r => (then_ (asg 3 r (lcM [7] (fun r => (dsp rg1 (acons (get r 1) (.ok [])))) (agV 7) (fun r => (tst (o2 notInD (get r 7) (get r 0)))) (fun r => (get r 7)) r)) (fun r => (then_ (ifv (tst (o2 eqD (cbf lenD (acons (get r 0) (.ok []))) (.ok (.int 0)))) (ret (.ok (.bl true))) (.ok (.nx r))) (fun r => (then_ (asg 4 r (o2 ixD (get r 0) (o2 modD (cbf intD (acons (get r 2) (.ok []))) (cbf lenD (acons (get r 0) (.ok [])))))) (fun r => (then_ (asg 5 r (lcM [7] (fun r => (its (get r 0))) (agV 7) (fun r => (tst (o2 neD (get r 7) (get r 4)))) (fun r => (get r 7)) r)) (fun r => (then_ (ifv (tnot (tst (call_ 2 m__law_room (acons (call_ 2 m_without (acons (cbf tupleD (acons (get r 0) (.ok []))) (acons (get r 4) (.ok [])))) (acons (get r 5) (.ok [])))))) (ret (.ok (.bl false))) (.ok (.nx r))) (fun r => (then_ (ifv (tst (o2 eqD (cbf lenD (acons (get r 3) (.ok []))) (.ok (.int 0)))) (ret (.ok (.bl true))) (.ok (.nx r))) (fun r => (then_ (asg 6 r (o2 ixD (get r 3) (o2 modD (cbf intD (acons (o2 fdivD (get r 2) (.ok (.int 13))) (.ok []))) (cbf lenD (acons (get r 3) (.ok [])))))) (fun r => (ret (call_ 2 m__law_room (acons (call_ 3 m_exchanged (acons (cbf tupleD (acons (get r 0) (.ok []))) (acons (get r 4) (acons (get r 6) (.ok []))))) (acons (cbf sortedD (acons (o2 addD (get r 5) (dsp lstD (acons (get r 6) (.ok [])))) (.ok []))) (.ok [])))))))))))))))))))
def m__law_exchanges : List D → R D := runF 8 b__law_exchanges
theorem k__law_exchanges (F : FnAt K mg "_law_exchanges" s__law_exchanges ["_law_room_here", "_law_n", "_law_cell_here"]) (k_without : Kn P w K mg base "without" 1 2 m_without) (k__law_room : Kn P w K mg base "_law_room" 2 2 m__law_room) (k_exchanged : Kn P w K mg base "exchanged" 1 3 m_exchanged) (b_range : mg "range" = none) (b_len : mg "len" = none) (b_int : mg "int" = none) (b_tuple : mg "tuple" = none) (b_sorted : mg "sorted" = none) : Kn P w K mg base "_law_exchanges" 3 3 m__law_exchanges :=
  Kn.mk' (M := []) (M' := []) F sc__law_exchanges (by decide) fun f cdv A outer s H E hr => ⟨_,
(mss_cons (ms_setLc 3 (own := [("_law_p", 7)]) rfl sc__law_exchanges.nd (mi_rng1 (by rfl) b_range (ma_cons (me_var 1) ma_nil)) (blkOk_by (N := N__law_exchanges) (sc := defScope s__law_exchanges) (own := [("_law_p", 7)]) (by decide +kernel)) (fun _ _ _ _ _ => (mg_name 7 sc__law_exchanges.nd)) (fun _ _ _ _ _ => (mts_one (mt_cmp (r := rNinX K) op_ninX rs_notIn (me_var 7) (me_var 0)))) (fun _ _ _ _ _ => (me_var 7)) (agin_name (by decide)) (sw_true rfl rfl rfl (by decide +kernel)))
(mss_cons (ms_if (mt_cmp (r := rEqD K) (op_eqD hr.units) rs_eq (me_callB (r := rLenX K) cr_lenX cs_len (by rfl) b_len (by decide +kernel) (ma_cons (me_var 0) ma_nil)) me_int)
(mss_one (ms_ret me_bl))
mss_nil)
(mss_cons (ms_set 4 sc__law_exchanges.nd (me_ix (r := rIx K) ix_seq rs_ix (me_var 0) (me_op op_mod rs_mod (me_callTy call_int1 cs_int (by rfl) b_int (by decide +kernel) (ma_cons (me_var 2) ma_nil)) (me_callB (r := rLenX K) cr_lenX cs_len (by rfl) b_len (by decide +kernel) (ma_cons (me_var 0) ma_nil)))))
(mss_cons (ms_setLc 5 (own := [("_law_p", 7)]) rfl sc__law_exchanges.nd (mi_seq K (me_var 0)) (blkOk_by (N := N__law_exchanges) (sc := defScope s__law_exchanges) (own := [("_law_p", 7)]) (by decide +kernel)) (fun _ _ _ _ _ => (mg_name 7 sc__law_exchanges.nd)) (fun _ _ _ _ _ => (mts_one (mt_cmp (r := rNeD K) (op_neD hr.units) rs_ne (me_var 7) (me_var 4)))) (fun _ _ _ _ _ => (me_var 7)) (agin_name (by decide)) (sw_true rfl rfl rfl (by decide +kernel)))
(mss_cons (ms_if (mt_not (mt_val (me_callK k__law_room hr (by rfl) (ma_cons (me_callK k_without hr (by rfl) (ma_cons (me_callTy (r := rTupOf K) cr_tupOf cs_tuple (by rfl) b_tuple (by decide +kernel) (ma_cons (me_var 0) ma_nil)) (ma_cons (me_var 4) ma_nil))) (ma_cons (me_var 5) ma_nil)))))
(mss_one (ms_ret me_bl))
mss_nil)
(mss_cons (ms_if (mt_cmp (r := rEqD K) (op_eqD hr.units) rs_eq (me_callB (r := rLenX K) cr_lenX cs_len (by rfl) b_len (by decide +kernel) (ma_cons (me_var 3) ma_nil)) me_int)
(mss_one (ms_ret me_bl))
mss_nil)
(mss_cons (ms_set 6 sc__law_exchanges.nd (me_ix (r := rIx K) ix_seq rs_ix (me_var 3) (me_op op_mod rs_mod (me_callTy call_int1 cs_int (by rfl) b_int (by decide +kernel) (ma_cons (me_op op_fdiv rs_fdiv (me_var 2) me_int) ma_nil)) (me_callB (r := rLenX K) cr_lenX cs_len (by rfl) b_len (by decide +kernel) (ma_cons (me_var 3) ma_nil)))))
(mss_one (ms_ret (me_callK k__law_room hr (by rfl) (ma_cons (me_callK k_exchanged hr (by rfl) (ma_cons (me_callTy (r := rTupOf K) cr_tupOf cs_tuple (by rfl) b_tuple (by decide +kernel) (ma_cons (me_var 0) ma_nil)) (ma_cons (me_var 4) (ma_cons (me_var 6) ma_nil)))) (ma_cons (me_callB (r := rSortedX K) cr_sortedX cs_sorted (by rfl) b_sorted (by decide +kernel) (ma_cons (me_op (r := rAddX K) op_addX rs_add (me_var 5) (me_lst (ma_cons (me_var 6) ma_nil))) ma_nil)) ma_nil))))))))))))⟩
abbrev s_order_sign : Stmt := topS 7
abbrev N_order_sign : List Str := ["row", "sign", "at", "later"]
theorem sc_order_sign : FnScope N_order_sign ["row"] (defScope s_order_sign) := ⟨rfl, rfl, rfl, by decide +kernel, rfl, by decide +kernel, by decide +kernel⟩
def b_order_sign : DL.Env → R Fl := fun r => (then_ (asg 1 r (.ok (.int 1))) (fun r => (then_ (forR rg1 (agV 2) (fun r => (forS (agV 3) (fun r => (ifv (tst (o2 ltD (get r 3) (o2 ixD (get r 0) (get r 2)))) (asg 1 r (o1 negD (get r 1))) (.ok (.nx r)))) r (its (o3 sliceD (get r 0) (toI (o2 addD (get r 2) (.ok (.int 1)))) (.ok none))))) r (acons (cbf lenD (acons (get r 0) (.ok []))) (.ok []))) (fun r => (ret (get r 1))))))
def m_order_sign : List D → R D := runF 4 b_order_sign
theorem k_order_sign (F : FnAt K mg "order_sign" s_order_sign ["row"]) (b_range : mg "range" = none) (b_len : mg "len" = none) : Kn P w K mg base "order_sign" 1 1 m_order_sign :=
  Kn.mk' (M := []) (M' := []) F sc_order_sign (by decide) fun f cdv A outer s H E hr => ⟨_,
(mss_cons (ms_set 1 sc_order_sign.nd me_int)
(mss_cons (ms_forR1 PassesOwn.never rfl (by rfl) b_range (ma_cons (me_callB (r := rLenX K) cr_lenX cs_len (by rfl) b_len (by decide +kernel) (ma_cons (me_var 0) ma_nil)) ma_nil) (mg_name 2 sc_order_sign.nd) (agin_name (by decide))
(mss_one (ms_for PassesOwn.never rfl (mi_seq K (me_slice (r := rSlX K) sl_X ss_X (me_var 0) (mo_some (me_op (r := rAddX K) op_addX rs_add (me_var 2) me_int)) mo_none)) (mg_name 3 sc_order_sign.nd) (agin_name (by decide))
(mss_one (ms_if (mt_cmp (r := rLtX K) (op_ltX hr) rs_lt (me_var 3) (me_ix (r := rIx K) ix_seq rs_ix (me_var 0) (me_var 2)))
(mss_one (ms_set 1 sc_order_sign.nd (me_un un_neg us_neg (me_var 1))))
mss_nil)))))
(mss_one (ms_ret (me_var 1)))))⟩
abbrev s_shuffle_sign : Stmt := topS 8
abbrev N_shuffle_sign : List Str := ["first", "second", "place"]
theorem sc_shuffle_sign : FnScope N_shuffle_sign ["first", "second"] (defScope s_shuffle_sign) := ⟨rfl, rfl, rfl, by decide +kernel, rfl, by decide +kernel, by decide +kernel⟩
def b_shuffle_sign : DL.Env → R Fl := fun r => (then_ (ifv (tst (cbf anyD (acons (lcM [2] (fun r => (its (get r 0))) (agV 2) (fun _ => .ok true) (fun r => (o2 inD (get r 2) (get r 1))) r) (.ok [])))) (ret (.ok (.int 0))) (.ok (.nx r))) (fun r => (ret (call_ 1 m_order_sign (acons (o2 addD (get r 0) (get r 1)) (.ok []))))))
def m_shuffle_sign : List D → R D := runF 3 b_shuffle_sign
theorem k_shuffle_sign (F : FnAt K mg "shuffle_sign" s_shuffle_sign ["first", "second"]) (k_order_sign : Kn P w K mg base "order_sign" 1 1 m_order_sign) (b_any : mg "any" = none) : Kn P w K mg base "shuffle_sign" 2 2 m_shuffle_sign :=
  Kn.mk' (M := []) (M' := []) F sc_shuffle_sign (by decide) fun f cdv A outer s H E hr => ⟨_,
(mss_cons (ms_if (mt_val (me_callB (r := rAny K) (cr_any rfl) cs_any (by rfl) b_any (by decide +kernel) (ma_cons (me_lc (own := [("place", 2)]) rfl sc_shuffle_sign.nd (mi_seq K (me_var 0)) (blkOk_by (N := N_shuffle_sign) (sc := defScope s_shuffle_sign) (own := [("place", 2)]) (by decide +kernel)) (fun _ _ _ _ _ => (mg_name 2 sc_shuffle_sign.nd)) (fun _ _ _ _ _ => mts_nil) (fun _ _ _ _ _ => (me_cmp (r := rInX K) op_inX rs_in (me_var 2) (me_var 1))) (agin_name (by decide))) ma_nil)))
(mss_one (ms_ret me_int))
mss_nil)
(mss_one (ms_ret (me_callK k_order_sign hr (by rfl) (ma_cons (me_op (r := rAddX K) op_addX rs_add (me_var 0) (me_var 1)) ma_nil)))))⟩
abbrev s_complement : Stmt := topS 5
abbrev N_complement : List Str := ["places", "room", "place"]
theorem sc_complement : FnScope N_complement ["places", "room"] (defScope s_complement) := ⟨rfl, rfl, rfl, by decide +kernel, rfl, by decide +kernel, by decide +kernel⟩
def b_complement : DL.Env → R Fl := fun r => (ret (cbf tupleD (acons (lcM [2] (fun r => (dsp rg1 (acons (get r 0) (.ok [])))) (agV 2) (fun r => (tst (o2 notInD (get r 2) (get r 1)))) (fun r => (get r 2)) r) (.ok []))))
def m_complement : List D → R D := runF 3 b_complement
theorem k_complement (F : FnAt K mg "complement" s_complement ["places", "room"]) (b_range : mg "range" = none) (b_tuple : mg "tuple" = none) : Kn P w K mg base "complement" 1 2 m_complement :=
  Kn.mk' (M := []) (M' := []) F sc_complement (by decide) fun f cdv A outer s H E hr => ⟨_,
(mss_one (ms_ret (me_callTy (r := rTupOf K) cr_tupOf cs_tuple (by rfl) b_tuple (by decide +kernel) (ma_cons (me_lc (own := [("place", 2)]) rfl sc_complement.nd (mi_rng1 (by rfl) b_range (ma_cons (me_var 0) ma_nil)) (blkOk_by (N := N_complement) (sc := defScope s_complement) (own := [("place", 2)]) (by decide +kernel)) (fun _ _ _ _ _ => (mg_name 2 sc_complement.nd)) (fun _ _ _ _ _ => (mts_one (mt_cmp (r := rNinX K) op_ninX rs_notIn (me_var 2) (me_var 1)))) (fun _ _ _ _ _ => (me_var 2)) (agin_name (by decide))) ma_nil))))⟩
abbrev s_faces : Stmt := topS 1
abbrev N_faces : List Str := ["room", "at"]
theorem sc_faces : FnScope N_faces ["room"] (defScope s_faces) := ⟨rfl, rfl, rfl, by decide +kernel, rfl, by decide +kernel, by decide +kernel⟩
def b_faces : DL.Env → R Fl := fun r => (ret (lcM [1] (fun r => (dsp rg1 (acons (cbf lenD (acons (get r 0) (.ok []))) (.ok [])))) (agV 1) (fun _ => .ok true) (fun r => (o2 addD (o3 sliceD (get r 0) (.ok none) (toI (get r 1))) (o3 sliceD (get r 0) (toI (o2 addD (get r 1) (.ok (.int 1)))) (.ok none)))) r))
def m_faces : List D → R D := runF 2 b_faces
theorem k_faces (F : FnAt K mg "faces" s_faces ["room"]) (b_range : mg "range" = none) (b_len : mg "len" = none) : Kn P w K mg base "faces" 1 1 m_faces :=
  Kn.mk' (M := []) (M' := []) F sc_faces (by decide) fun f cdv A outer s H E hr => ⟨_,
(mss_one (ms_ret (me_lc (own := [("at", 1)]) rfl sc_faces.nd (mi_rng1 (by rfl) b_range (ma_cons (me_callB (r := rLenX K) cr_lenX cs_len (by rfl) b_len (by decide +kernel) (ma_cons (me_var 0) ma_nil)) ma_nil)) (blkOk_by (N := N_faces) (sc := defScope s_faces) (own := [("at", 1)]) (by decide +kernel)) (fun _ _ _ _ _ => (mg_name 1 sc_faces.nd)) (fun _ _ _ _ _ => mts_nil) (fun _ _ _ _ _ => (me_op (r := rAddX K) op_addX rs_add (me_slice (r := rSlX K) sl_X ss_X (me_var 0) mo_none (mo_some (me_var 1))) (me_slice (r := rSlX K) sl_X ss_X (me_var 0) (mo_some (me_op (r := rAddX K) op_addX rs_add (me_var 1) me_int)) mo_none))) (agin_name (by decide)))))⟩
abbrev s_merged : Stmt := topS 4
abbrev N_merged : List Str := ["first", "second"]
theorem sc_merged : FnScope N_merged ["first", "second"] (defScope s_merged) := ⟨rfl, rfl, rfl, by decide +kernel, rfl, by decide +kernel, by decide +kernel⟩
def b_merged : DL.Env → R Fl := fun r => (ret (cbf tupleD (acons (cbf sortedD (acons (o2 addD (get r 0) (get r 1)) (.ok []))) (.ok []))))
def m_merged : List D → R D := runF 2 b_merged
theorem k_merged (F : FnAt K mg "merged" s_merged ["first", "second"]) (b_sorted : mg "sorted" = none) (b_tuple : mg "tuple" = none) : Kn P w K mg base "merged" 1 2 m_merged :=
  Kn.mk' (M := []) (M' := []) F sc_merged (by decide) fun f cdv A outer s H E hr => ⟨_,
(mss_one (ms_ret (me_callTy (r := rTupOf K) cr_tupOf cs_tuple (by rfl) b_tuple (by decide +kernel) (ma_cons (me_callB (r := rSortedX K) cr_sortedX cs_sorted (by rfl) b_sorted (by decide +kernel) (ma_cons (me_op (r := rAddX K) op_addX rs_add (me_var 0) (me_var 1)) ma_nil)) ma_nil))))⟩
abbrev s_law : Stmt := topS 19
abbrev N_law : List Str := ["_law_script", "_law_n", "_law_row", "_law_many_here", "_law_first", "_law_start", "_law_second", "_law_common", "_law_due", "_law_p", "_law_k"]
theorem sc_law : FnScope N_law ["_law_script"] (defScope s_law) := ⟨rfl, rfl, rfl, by decide +kernel, rfl, by decide +kernel, by decide +kernel⟩
def b_law : DL.Env → R Fl := fun r => (then_ (asg 1 r (o2 addD (.ok (.int 1)) (o2 modD (cbf intD (acons (call_ 2 m__law_cell (acons (get r 0) (acons (.ok (.int 0)) (.ok [])))) (.ok []))) (.ok (.int 12))))) (fun r => (then_ (asg 2 r (call_ 2 m__law_order (acons (call_ 2 m__law_cell (acons (get r 0) (acons (.ok (.int 1)) (.ok [])))) (acons (get r 1) (.ok []))))) (fun r => (then_ (asg 3 r (o2 modD (cbf intD (acons (call_ 2 m__law_cell (acons (get r 0) (acons (.ok (.int 2)) (.ok [])))) (.ok []))) (o2 addD (get r 1) (.ok (.int 1))))) (fun r => (then_ (ifv (tnot (tst (call_ 2 m__law_whole (acons (call_ 1 m_order_sign (acons (cbf tupleD (acons (o3 sliceD (get r 2) (.ok none) (toI (get r 3))) (.ok []))) (.ok []))) (acons (call_ 1 m__law_sign (acons (o3 sliceD (get r 2) (.ok none) (toI (get r 3))) (.ok []))) (.ok [])))))) (ret (.ok (.bl false))) (.ok (.nx r))) (fun r => (then_ (asg 4 r (cbf sortedD (acons (o3 sliceD (get r 2) (.ok none) (toI (get r 3))) (.ok [])))) (fun r => (then_ (asg 5 r (get r 3)) (fun r => (then_ (ifv (tst (o2 eqD (o2 modD (cbf intD (acons (call_ 2 m__law_cell (acons (get r 0) (acons (.ok (.int 3)) (.ok [])))) (.ok []))) (.ok (.int 2))) (.ok (.int 1)))) (asg 5 r (o2 modD (cbf intD (acons (o2 fdivD (call_ 2 m__law_cell (acons (get r 0) (acons (.ok (.int 3)) (.ok [])))) (.ok (.int 2))) (.ok []))) (o2 addD (get r 1) (.ok (.int 1))))) (.ok (.nx r))) (fun r => (then_ (asg 6 r (cbf sortedD (acons (o3 sliceD (get r 2) (toI (get r 5)) (toI (o2 addD (get r 5) (o2 modD (cbf intD (acons (call_ 2 m__law_cell (acons (get r 0) (acons (.ok (.int 4)) (.ok [])))) (.ok []))) (o2 addD (get r 1) (.ok (.int 1))))))) (.ok [])))) (fun r => (then_ (asg 7 r (lcM [9] (fun r => (its (get r 4))) (agV 9) (fun r => (tst (o2 inD (get r 9) (get r 6)))) (fun r => (get r 9)) r)) (fun r => (then_ (asg 8 r (.ok (.int 0))) (fun r => (then_ (ifv (tst (o2 eqD (cbf lenD (acons (get r 7) (.ok []))) (.ok (.int 0)))) (then_ (asg 8 r (call_ 1 m__law_sign (acons (o2 addD (get r 4) (get r 6)) (.ok [])))) (fun r => (ifv (tnot (tst (call_ 2 m__law_room (acons (call_ 2 m_merged (acons (cbf tupleD (acons (get r 4) (.ok []))) (acons (cbf tupleD (acons (get r 6) (.ok []))) (.ok [])))) (acons (cbf sortedD (acons (o2 addD (get r 4) (get r 6)) (.ok []))) (.ok [])))))) (ret (.ok (.bl false))) (.ok (.nx r))))) (.ok (.nx r))) (fun r => (then_ (ifv (tnot (tst (call_ 2 m__law_whole (acons (call_ 2 m_shuffle_sign (acons (cbf tupleD (acons (get r 4) (.ok []))) (acons (cbf tupleD (acons (get r 6) (.ok []))) (.ok [])))) (acons (get r 8) (.ok [])))))) (ret (.ok (.bl false))) (.ok (.nx r))) (fun r => (then_ (ifv (tnot (tst (call_ 2 m__law_room (acons (call_ 2 m_complement (acons (get r 1) (acons (cbf tupleD (acons (get r 4) (.ok []))) (.ok [])))) (acons (lcM [9] (fun r => (dsp rg1 (acons (get r 1) (.ok [])))) (agV 9) (fun r => (tst (o2 notInD (get r 9) (get r 4)))) (fun r => (get r 9)) r) (.ok [])))))) (ret (.ok (.bl false))) (.ok (.nx r))) (fun r => (then_ (ifv (tnot (tst (call_ 2 m__law_rooms (acons (call_ 1 m_faces (acons (cbf tupleD (acons (get r 4) (.ok []))) (.ok []))) (acons (lcM [10] (fun r => (dsp rg1 (acons (get r 3) (.ok [])))) (agV 10) (fun _ => .ok true) (fun r => (o2 addD (o3 sliceD (get r 4) (.ok none) (toI (get r 10))) (o3 sliceD (get r 4) (toI (o2 addD (get r 10) (.ok (.int 1)))) (.ok none)))) r) (.ok [])))))) (ret (.ok (.bl false))) (.ok (.nx r))) (fun r => (then_ (ifv (tnot (tst (call_ 3 m__law_exchanges (acons (get r 4) (acons (get r 1) (acons (call_ 2 m__law_cell (acons (get r 0) (acons (.ok (.int 5)) (.ok [])))) (.ok []))))))) (ret (.ok (.bl false))) (.ok (.nx r))) (fun r => (ret (call_ 2 m__law_subsets_right (acons (o2 modD (cbf intD (acons (call_ 2 m__law_cell (acons (get r 0) (acons (.ok (.int 6)) (.ok [])))) (.ok []))) (.ok (.int 8))) (acons (o2 modD (cbf intD (acons (call_ 2 m__law_cell (acons (get r 0) (acons (.ok (.int 7)) (.ok [])))) (.ok []))) (.ok (.int 9))) (.ok [])))))))))))))))))))))))))))))))))))
def m_law : List D → R D := runF 11 b_law
theorem ok_law {f : Addr} {fd : FuncData} (F : Fun K "law" "law" s_law f fd) (k__law_cell : Kn P w K mg base "_law_cell" 1 2 m__law_cell) (k__law_order : Kn P w K mg base "_law_order" 1 2 m__law_order) (k__law_sign : Kn P w K mg base "_law_sign" 1 1 m__law_sign) (k_order_sign : Kn P w K mg base "order_sign" 1 1 m_order_sign) (k__law_whole : Kn P w K mg base "_law_whole" 1 2 m__law_whole) (k_merged : Kn P w K mg base "merged" 1 2 m_merged) (k__law_room : Kn P w K mg base "_law_room" 2 2 m__law_room) (k_shuffle_sign : Kn P w K mg base "shuffle_sign" 2 2 m_shuffle_sign) (k_complement : Kn P w K mg base "complement" 1 2 m_complement) (k_faces : Kn P w K mg base "faces" 1 1 m_faces) (k__law_rooms : Kn P w K mg base "_law_rooms" 3 2 m__law_rooms) (k__law_exchanges : Kn P w K mg base "_law_exchanges" 3 3 m__law_exchanges) (k__law_subsets_right : Kn P w K mg base "_law_subsets_right" 2 2 m__law_subsets_right) (b_int : mg "int" = none) (b_tuple : mg "tuple" = none) (b_sorted : mg "sorted" = none) (b_len : mg "len" = none) (b_range : mg "range" = none) : FnOk P w K mg base CX0 4 f fd ["_law_script"] (spOf K mg 1 m_law) :=
  fn_mir (M := []) (M' := []) F sc_law (by decide) fun cdv A outer s H E hr => ⟨_,
(mss_cons (ms_set 1 sc_law.nd (me_op (r := rAddX K) op_addX rs_add me_int (me_op op_mod rs_mod (me_callTy call_int1 cs_int (by rfl) b_int (by decide +kernel) (ma_cons (me_callK k__law_cell hr (by rfl) (ma_cons (me_var 0) (ma_cons me_int ma_nil))) ma_nil)) me_int)))
(mss_cons (ms_set 2 sc_law.nd (me_callK k__law_order hr (by rfl) (ma_cons (me_callK k__law_cell hr (by rfl) (ma_cons (me_var 0) (ma_cons me_int ma_nil))) (ma_cons (me_var 1) ma_nil))))
(mss_cons (ms_set 3 sc_law.nd (me_op op_mod rs_mod (me_callTy call_int1 cs_int (by rfl) b_int (by decide +kernel) (ma_cons (me_callK k__law_cell hr (by rfl) (ma_cons (me_var 0) (ma_cons me_int ma_nil))) ma_nil)) (me_op (r := rAddX K) op_addX rs_add (me_var 1) me_int)))
(mss_cons (ms_if (mt_not (mt_val (me_callK k__law_whole hr (by rfl) (ma_cons (me_callK k_order_sign hr (by rfl) (ma_cons (me_callTy (r := rTupOf K) cr_tupOf cs_tuple (by rfl) b_tuple (by decide +kernel) (ma_cons (me_slice (r := rSlX K) sl_X ss_X (me_var 2) mo_none (mo_some (me_var 3))) ma_nil)) ma_nil)) (ma_cons (me_callK k__law_sign hr (by rfl) (ma_cons (me_slice (r := rSlX K) sl_X ss_X (me_var 2) mo_none (mo_some (me_var 3))) ma_nil)) ma_nil)))))
(mss_one (ms_ret me_bl))
mss_nil)
(mss_cons (ms_set 4 sc_law.nd (me_callB (r := rSortedX K) cr_sortedX cs_sorted (by rfl) b_sorted (by decide +kernel) (ma_cons (me_slice (r := rSlX K) sl_X ss_X (me_var 2) mo_none (mo_some (me_var 3))) ma_nil)))
(mss_cons (ms_set 5 sc_law.nd (me_var 3))
(mss_cons (ms_if (mt_cmp (r := rEqD K) (op_eqD hr.units) rs_eq (me_op op_mod rs_mod (me_callTy call_int1 cs_int (by rfl) b_int (by decide +kernel) (ma_cons (me_callK k__law_cell hr (by rfl) (ma_cons (me_var 0) (ma_cons me_int ma_nil))) ma_nil)) me_int) me_int)
(mss_one (ms_set 5 sc_law.nd (me_op op_mod rs_mod (me_callTy call_int1 cs_int (by rfl) b_int (by decide +kernel) (ma_cons (me_op op_fdiv rs_fdiv (me_callK k__law_cell hr (by rfl) (ma_cons (me_var 0) (ma_cons me_int ma_nil))) me_int) ma_nil)) (me_op (r := rAddX K) op_addX rs_add (me_var 1) me_int))))
mss_nil)
(mss_cons (ms_set 6 sc_law.nd (me_callB (r := rSortedX K) cr_sortedX cs_sorted (by rfl) b_sorted (by decide +kernel) (ma_cons (me_slice (r := rSlX K) sl_X ss_X (me_var 2) (mo_some (me_var 5)) (mo_some (me_op (r := rAddX K) op_addX rs_add (me_var 5) (me_op op_mod rs_mod (me_callTy call_int1 cs_int (by rfl) b_int (by decide +kernel) (ma_cons (me_callK k__law_cell hr (by rfl) (ma_cons (me_var 0) (ma_cons me_int ma_nil))) ma_nil)) (me_op (r := rAddX K) op_addX rs_add (me_var 1) me_int))))) ma_nil)))
(mss_cons (ms_setLc 7 (own := [("_law_p", 9)]) rfl sc_law.nd (mi_seq K (me_var 4)) (blkOk_by (N := N_law) (sc := defScope s_law) (own := [("_law_p", 9)]) (by decide +kernel)) (fun _ _ _ _ _ => (mg_name 9 sc_law.nd)) (fun _ _ _ _ _ => (mts_one (mt_cmp (r := rInX K) op_inX rs_in (me_var 9) (me_var 6)))) (fun _ _ _ _ _ => (me_var 9)) (agin_name (by decide)) (sw_true rfl rfl rfl (by decide +kernel)))
(mss_cons (ms_set 8 sc_law.nd me_int)
(mss_cons (ms_if (mt_cmp (r := rEqD K) (op_eqD hr.units) rs_eq (me_callB (r := rLenX K) cr_lenX cs_len (by rfl) b_len (by decide +kernel) (ma_cons (me_var 7) ma_nil)) me_int)
(mss_cons (ms_set 8 sc_law.nd (me_callK k__law_sign hr (by rfl) (ma_cons (me_op (r := rAddX K) op_addX rs_add (me_var 4) (me_var 6)) ma_nil)))
(mss_one (ms_if (mt_not (mt_val (me_callK k__law_room hr (by rfl) (ma_cons (me_callK k_merged hr (by rfl) (ma_cons (me_callTy (r := rTupOf K) cr_tupOf cs_tuple (by rfl) b_tuple (by decide +kernel) (ma_cons (me_var 4) ma_nil)) (ma_cons (me_callTy (r := rTupOf K) cr_tupOf cs_tuple (by rfl) b_tuple (by decide +kernel) (ma_cons (me_var 6) ma_nil)) ma_nil))) (ma_cons (me_callB (r := rSortedX K) cr_sortedX cs_sorted (by rfl) b_sorted (by decide +kernel) (ma_cons (me_op (r := rAddX K) op_addX rs_add (me_var 4) (me_var 6)) ma_nil)) ma_nil)))))
(mss_one (ms_ret me_bl))
mss_nil)))
mss_nil)
(mss_cons (ms_if (mt_not (mt_val (me_callK k__law_whole hr (by rfl) (ma_cons (me_callK k_shuffle_sign hr (by rfl) (ma_cons (me_callTy (r := rTupOf K) cr_tupOf cs_tuple (by rfl) b_tuple (by decide +kernel) (ma_cons (me_var 4) ma_nil)) (ma_cons (me_callTy (r := rTupOf K) cr_tupOf cs_tuple (by rfl) b_tuple (by decide +kernel) (ma_cons (me_var 6) ma_nil)) ma_nil))) (ma_cons (me_var 8) ma_nil)))))
(mss_one (ms_ret me_bl))
mss_nil)
(mss_cons (ms_if (mt_not (mt_val (me_callK k__law_room hr (by rfl) (ma_cons (me_callK k_complement hr (by rfl) (ma_cons (me_var 1) (ma_cons (me_callTy (r := rTupOf K) cr_tupOf cs_tuple (by rfl) b_tuple (by decide +kernel) (ma_cons (me_var 4) ma_nil)) ma_nil))) (ma_cons (me_lc (own := [("_law_p", 9)]) rfl sc_law.nd (mi_rng1 (by rfl) b_range (ma_cons (me_var 1) ma_nil)) (blkOk_by (N := N_law) (sc := defScope s_law) (own := [("_law_p", 9)]) (by decide +kernel)) (fun _ _ _ _ _ => (mg_name 9 sc_law.nd)) (fun _ _ _ _ _ => (mts_one (mt_cmp (r := rNinX K) op_ninX rs_notIn (me_var 9) (me_var 4)))) (fun _ _ _ _ _ => (me_var 9)) (agin_name (by decide))) ma_nil)))))
(mss_one (ms_ret me_bl))
mss_nil)
(mss_cons (ms_if (mt_not (mt_val (me_callK k__law_rooms hr (by rfl) (ma_cons (me_callK k_faces hr (by rfl) (ma_cons (me_callTy (r := rTupOf K) cr_tupOf cs_tuple (by rfl) b_tuple (by decide +kernel) (ma_cons (me_var 4) ma_nil)) ma_nil)) (ma_cons (me_lc (own := [("_law_k", 10)]) rfl sc_law.nd (mi_rng1 (by rfl) b_range (ma_cons (me_var 3) ma_nil)) (blkOk_by (N := N_law) (sc := defScope s_law) (own := [("_law_k", 10)]) (by decide +kernel)) (fun _ _ _ _ _ => (mg_name 10 sc_law.nd)) (fun _ _ _ _ _ => mts_nil) (fun _ _ _ _ _ => (me_op (r := rAddX K) op_addX rs_add (me_slice (r := rSlX K) sl_X ss_X (me_var 4) mo_none (mo_some (me_var 10))) (me_slice (r := rSlX K) sl_X ss_X (me_var 4) (mo_some (me_op (r := rAddX K) op_addX rs_add (me_var 10) me_int)) mo_none))) (agin_name (by decide))) ma_nil)))))
(mss_one (ms_ret me_bl))
mss_nil)
(mss_cons (ms_if (mt_not (mt_val (me_callK k__law_exchanges hr (by rfl) (ma_cons (me_var 4) (ma_cons (me_var 1) (ma_cons (me_callK k__law_cell hr (by rfl) (ma_cons (me_var 0) (ma_cons me_int ma_nil))) ma_nil))))))
(mss_one (ms_ret me_bl))
mss_nil)
(mss_one (ms_ret (me_callK k__law_subsets_right hr (by rfl) (ma_cons (me_op op_mod rs_mod (me_callTy call_int1 cs_int (by rfl) b_int (by decide +kernel) (ma_cons (me_callK k__law_cell hr (by rfl) (ma_cons (me_var 0) (ma_cons me_int ma_nil))) ma_nil)) me_int) (ma_cons (me_op op_mod rs_mod (me_callTy call_int1 cs_int (by rfl) b_int (by decide +kernel) (ma_cons (me_callK k__law_cell hr (by rfl) (ma_cons (me_var 0) (ma_cons me_int ma_nil))) ma_nil)) me_int) ma_nil))))))))))))))))))))⟩
end
theorem all_mk {l : PySem.W.OpenLaw} {w : World} {K : PySem.W.Frag} {h : Heap} {mg : Str → Option Value} {fa : Addr} (X : K.In h) (G : h.Ns mainGlobals mg) (hfa : mg "law" = some (.ref fa)) (hlaw : ∀ ns : List Int, ns.length ≤ 63 → m_law [.scr ns] = .ok (.bl true))
    {od0 an0 : Option Addr} {sl0 : Array (Option Value)} {oc0 kV0 dc0 pm0 cd0 ct0 : Value} {f0 : Addr}
    (a0 : PySem.W.nsIn K mainGlobals "_law_order" = some (some (.ref f0))) (l0 : K.lookup f0 = some ⟨oc0, od0, .func (PySem.W.fnOf "_law_order" "_law_order" (defArgs s__law_order) (defBody s__law_order) (defScope s__law_order) .none kV0 dc0 pm0 an0 cd0 ct0), sl0⟩) (c0 : PySem.W.codeIn K cd0 "_law_order" = true) (k0 : PySem.W.keepIn K (.ref f0) = true)
    {od1 an1 : Option Addr} {sl1 : Array (Option Value)} {oc1 kV1 dc1 pm1 cd1 ct1 : Value} {f1 : Addr}
    (a1 : PySem.W.nsIn K mainGlobals "subsets" = some (some (.ref f1))) (l1 : K.lookup f1 = some ⟨oc1, od1, .func (PySem.W.fnOf "subsets" "subsets" (defArgs s_subsets) (defBody s_subsets) (defScope s_subsets) .none kV1 dc1 pm1 an1 cd1 ct1), sl1⟩) (c1 : PySem.W.codeIn K cd1 "subsets" = true) (k1 : PySem.W.keepIn K (.ref f1) = true)
    {od2 an2 : Option Addr} {sl2 : Array (Option Value)} {oc2 kV2 dc2 pm2 cd2 ct2 : Value} {f2 : Addr}
    (a2 : PySem.W.nsIn K mainGlobals "_law_many" = some (some (.ref f2))) (l2 : K.lookup f2 = some ⟨oc2, od2, .func (PySem.W.fnOf "_law_many" "_law_many" (defArgs s__law_many) (defBody s__law_many) (defScope s__law_many) .none kV2 dc2 pm2 an2 cd2 ct2), sl2⟩) (c2 : PySem.W.codeIn K cd2 "_law_many" = true) (k2 : PySem.W.keepIn K (.ref f2) = true)
    {od3 an3 : Option Addr} {sl3 : Array (Option Value)} {oc3 kV3 dc3 pm3 cd3 ct3 : Value} {f3 : Addr}
    (a3 : PySem.W.nsIn K mainGlobals "_law_subsets_right" = some (some (.ref f3))) (l3 : K.lookup f3 = some ⟨oc3, od3, .func (PySem.W.fnOf "_law_subsets_right" "_law_subsets_right" (defArgs s__law_subsets_right) (defBody s__law_subsets_right) (defScope s__law_subsets_right) .none kV3 dc3 pm3 an3 cd3 ct3), sl3⟩) (c3 : PySem.W.codeIn K cd3 "_law_subsets_right" = true) (k3 : PySem.W.keepIn K (.ref f3) = true)
    {od4 an4 : Option Addr} {sl4 : Array (Option Value)} {oc4 kV4 dc4 pm4 cd4 ct4 : Value} {f4 : Addr}
    (a4 : PySem.W.nsIn K mainGlobals "_law_cell" = some (some (.ref f4))) (l4 : K.lookup f4 = some ⟨oc4, od4, .func (PySem.W.fnOf "_law_cell" "_law_cell" (defArgs s__law_cell) (defBody s__law_cell) (defScope s__law_cell) .none kV4 dc4 pm4 an4 cd4 ct4), sl4⟩) (c4 : PySem.W.codeIn K cd4 "_law_cell" = true) (k4 : PySem.W.keepIn K (.ref f4) = true)
    {od5 an5 : Option Addr} {sl5 : Array (Option Value)} {oc5 kV5 dc5 pm5 cd5 ct5 : Value} {f5 : Addr}
    (a5 : PySem.W.nsIn K mainGlobals "_law_whole" = some (some (.ref f5))) (l5 : K.lookup f5 = some ⟨oc5, od5, .func (PySem.W.fnOf "_law_whole" "_law_whole" (defArgs s__law_whole) (defBody s__law_whole) (defScope s__law_whole) .none kV5 dc5 pm5 an5 cd5 ct5), sl5⟩) (c5 : PySem.W.codeIn K cd5 "_law_whole" = true) (k5 : PySem.W.keepIn K (.ref f5) = true)
    {od6 an6 : Option Addr} {sl6 : Array (Option Value)} {oc6 kV6 dc6 pm6 cd6 ct6 : Value} {f6 : Addr}
    (a6 : PySem.W.nsIn K mainGlobals "_law_sign" = some (some (.ref f6))) (l6 : K.lookup f6 = some ⟨oc6, od6, .func (PySem.W.fnOf "_law_sign" "_law_sign" (defArgs s__law_sign) (defBody s__law_sign) (defScope s__law_sign) .none kV6 dc6 pm6 an6 cd6 ct6), sl6⟩) (c6 : PySem.W.codeIn K cd6 "_law_sign" = true) (k6 : PySem.W.keepIn K (.ref f6) = true)
    {od7 an7 : Option Addr} {sl7 : Array (Option Value)} {oc7 kV7 dc7 pm7 cd7 ct7 : Value} {f7 : Addr}
    (a7 : PySem.W.nsIn K mainGlobals "_law_room" = some (some (.ref f7))) (l7 : K.lookup f7 = some ⟨oc7, od7, .func (PySem.W.fnOf "_law_room" "_law_room" (defArgs s__law_room) (defBody s__law_room) (defScope s__law_room) .none kV7 dc7 pm7 an7 cd7 ct7), sl7⟩) (c7 : PySem.W.codeIn K cd7 "_law_room" = true) (k7 : PySem.W.keepIn K (.ref f7) = true)
    {od8 an8 : Option Addr} {sl8 : Array (Option Value)} {oc8 kV8 dc8 pm8 cd8 ct8 : Value} {f8 : Addr}
    (a8 : PySem.W.nsIn K mainGlobals "_law_rooms" = some (some (.ref f8))) (l8 : K.lookup f8 = some ⟨oc8, od8, .func (PySem.W.fnOf "_law_rooms" "_law_rooms" (defArgs s__law_rooms) (defBody s__law_rooms) (defScope s__law_rooms) .none kV8 dc8 pm8 an8 cd8 ct8), sl8⟩) (c8 : PySem.W.codeIn K cd8 "_law_rooms" = true) (k8 : PySem.W.keepIn K (.ref f8) = true)
    {od9 an9 : Option Addr} {sl9 : Array (Option Value)} {oc9 kV9 dc9 pm9 cd9 ct9 : Value} {f9 : Addr}
    (a9 : PySem.W.nsIn K mainGlobals "exchanged" = some (some (.ref f9))) (l9 : K.lookup f9 = some ⟨oc9, od9, .func (PySem.W.fnOf "exchanged" "exchanged" (defArgs s_exchanged) (defBody s_exchanged) (defScope s_exchanged) .none kV9 dc9 pm9 an9 cd9 ct9), sl9⟩) (c9 : PySem.W.codeIn K cd9 "exchanged" = true) (k9 : PySem.W.keepIn K (.ref f9) = true)
    {od10 an10 : Option Addr} {sl10 : Array (Option Value)} {oc10 kV10 dc10 pm10 cd10 ct10 : Value} {f10 : Addr}
    (a10 : PySem.W.nsIn K mainGlobals "without" = some (some (.ref f10))) (l10 : K.lookup f10 = some ⟨oc10, od10, .func (PySem.W.fnOf "without" "without" (defArgs s_without) (defBody s_without) (defScope s_without) .none kV10 dc10 pm10 an10 cd10 ct10), sl10⟩) (c10 : PySem.W.codeIn K cd10 "without" = true) (k10 : PySem.W.keepIn K (.ref f10) = true)
    {od11 an11 : Option Addr} {sl11 : Array (Option Value)} {oc11 kV11 dc11 pm11 cd11 ct11 : Value} {f11 : Addr}
    (a11 : PySem.W.nsIn K mainGlobals "_law_exchanges" = some (some (.ref f11))) (l11 : K.lookup f11 = some ⟨oc11, od11, .func (PySem.W.fnOf "_law_exchanges" "_law_exchanges" (defArgs s__law_exchanges) (defBody s__law_exchanges) (defScope s__law_exchanges) .none kV11 dc11 pm11 an11 cd11 ct11), sl11⟩) (c11 : PySem.W.codeIn K cd11 "_law_exchanges" = true) (k11 : PySem.W.keepIn K (.ref f11) = true)
    {od12 an12 : Option Addr} {sl12 : Array (Option Value)} {oc12 kV12 dc12 pm12 cd12 ct12 : Value} {f12 : Addr}
    (a12 : PySem.W.nsIn K mainGlobals "order_sign" = some (some (.ref f12))) (l12 : K.lookup f12 = some ⟨oc12, od12, .func (PySem.W.fnOf "order_sign" "order_sign" (defArgs s_order_sign) (defBody s_order_sign) (defScope s_order_sign) .none kV12 dc12 pm12 an12 cd12 ct12), sl12⟩) (c12 : PySem.W.codeIn K cd12 "order_sign" = true) (k12 : PySem.W.keepIn K (.ref f12) = true)
    {od13 an13 : Option Addr} {sl13 : Array (Option Value)} {oc13 kV13 dc13 pm13 cd13 ct13 : Value} {f13 : Addr}
    (a13 : PySem.W.nsIn K mainGlobals "shuffle_sign" = some (some (.ref f13))) (l13 : K.lookup f13 = some ⟨oc13, od13, .func (PySem.W.fnOf "shuffle_sign" "shuffle_sign" (defArgs s_shuffle_sign) (defBody s_shuffle_sign) (defScope s_shuffle_sign) .none kV13 dc13 pm13 an13 cd13 ct13), sl13⟩) (c13 : PySem.W.codeIn K cd13 "shuffle_sign" = true) (k13 : PySem.W.keepIn K (.ref f13) = true)
    {od14 an14 : Option Addr} {sl14 : Array (Option Value)} {oc14 kV14 dc14 pm14 cd14 ct14 : Value} {f14 : Addr}
    (a14 : PySem.W.nsIn K mainGlobals "complement" = some (some (.ref f14))) (l14 : K.lookup f14 = some ⟨oc14, od14, .func (PySem.W.fnOf "complement" "complement" (defArgs s_complement) (defBody s_complement) (defScope s_complement) .none kV14 dc14 pm14 an14 cd14 ct14), sl14⟩) (c14 : PySem.W.codeIn K cd14 "complement" = true) (k14 : PySem.W.keepIn K (.ref f14) = true)
    {od15 an15 : Option Addr} {sl15 : Array (Option Value)} {oc15 kV15 dc15 pm15 cd15 ct15 : Value} {f15 : Addr}
    (a15 : PySem.W.nsIn K mainGlobals "faces" = some (some (.ref f15))) (l15 : K.lookup f15 = some ⟨oc15, od15, .func (PySem.W.fnOf "faces" "faces" (defArgs s_faces) (defBody s_faces) (defScope s_faces) .none kV15 dc15 pm15 an15 cd15 ct15), sl15⟩) (c15 : PySem.W.codeIn K cd15 "faces" = true) (k15 : PySem.W.keepIn K (.ref f15) = true)
    {od16 an16 : Option Addr} {sl16 : Array (Option Value)} {oc16 kV16 dc16 pm16 cd16 ct16 : Value} {f16 : Addr}
    (a16 : PySem.W.nsIn K mainGlobals "merged" = some (some (.ref f16))) (l16 : K.lookup f16 = some ⟨oc16, od16, .func (PySem.W.fnOf "merged" "merged" (defArgs s_merged) (defBody s_merged) (defScope s_merged) .none kV16 dc16 pm16 an16 cd16 ct16), sl16⟩) (c16 : PySem.W.codeIn K cd16 "merged" = true) (k16 : PySem.W.keepIn K (.ref f16) = true)
    {od17 an17 : Option Addr} {sl17 : Array (Option Value)} {oc17 kV17 dc17 pm17 cd17 ct17 : Value} {f17 : Addr}
    (a17 : PySem.W.nsIn K mainGlobals "law" = some (some (.ref f17))) (l17 : K.lookup f17 = some ⟨oc17, od17, .func (PySem.W.fnOf "law" "law" (defArgs s_law) (defBody s_law) (defScope s_law) .none kV17 dc17 pm17 an17 cd17 ct17), sl17⟩) (c17 : PySem.W.codeIn K cd17 "law" = true) (k17 : PySem.W.keepIn K (.ref f17) = true)
    (z_list : PySem.W.nsIn K mainGlobals "list" = some none)
    (z_range : PySem.W.nsIn K mainGlobals "range" = some none)
    (z_int : PySem.W.nsIn K mainGlobals "int" = some none)
    (z_len : PySem.W.nsIn K mainGlobals "len" = some none)
    (z_tuple : PySem.W.nsIn K mainGlobals "tuple" = some none)
    (z_isinstance : PySem.W.nsIn K mainGlobals "isinstance" = some none)
    (z_abs : PySem.W.nsIn K mainGlobals "abs" = some none)
    (z_bool : PySem.W.nsIn K mainGlobals "bool" = some none)
    (z_sorted : PySem.W.nsIn K mainGlobals "sorted" = some none)
    (z_any : PySem.W.nsIn K mainGlobals "any" = some none)
    : ∃ fd : FuncData, (∀ (s : Shared) (v : Value), BindsTo s fd ⟨[v], []⟩ [("_law_script", v)]) ∧ ∀ base : Heap, K.In base → base.Ns mainGlobals mg → FnOk l.prog w K mg base CX0 4 fa fd ["_law_script"] (spLaw K) := by
  have e := hfa.symm.trans (PySem.W.mg_of X G a17)
  cases e
  have b_list := PySem.W.mg_none_of X G z_list
  have b_range := PySem.W.mg_none_of X G z_range
  have b_int := PySem.W.mg_none_of X G z_int
  have b_len := PySem.W.mg_none_of X G z_len
  have b_tuple := PySem.W.mg_none_of X G z_tuple
  have b_isinstance := PySem.W.mg_none_of X G z_isinstance
  have b_abs := PySem.W.mg_none_of X G z_abs
  have b_bool := PySem.W.mg_none_of X G z_bool
  have b_sorted := PySem.W.mg_none_of X G z_sorted
  have b_any := PySem.W.mg_none_of X G z_any
  have F__law_order : FnAt K mg "_law_order" s__law_order ["_law_cell_here", "_law_n"] := ⟨f0, _, fun_mk l0 c0 k0, PySem.W.mg_of X G a0, (fun_mk (st := s__law_order) l0 c0 k0).binds (ps := ["_law_cell_here", "_law_n"]) fun _ _ _ _ _ _ us hl => match us, hl with | [_, _], _ => rfl⟩
  have F_subsets : FnAt K mg "subsets" s_subsets ["items", "size"] := ⟨f1, _, fun_mk l1 c1 k1, PySem.W.mg_of X G a1, (fun_mk (st := s_subsets) l1 c1 k1).binds (ps := ["items", "size"]) fun _ _ _ _ _ _ us hl => match us, hl with | [_, _], _ => rfl⟩
  have F__law_many : FnAt K mg "_law_many" s__law_many ["_law_n", "_law_k"] := ⟨f2, _, fun_mk l2 c2 k2, PySem.W.mg_of X G a2, (fun_mk (st := s__law_many) l2 c2 k2).binds (ps := ["_law_n", "_law_k"]) fun _ _ _ _ _ _ us hl => match us, hl with | [_, _], _ => rfl⟩
  have F__law_subsets_right : FnAt K mg "_law_subsets_right" s__law_subsets_right ["_law_n", "_law_k"] := ⟨f3, _, fun_mk l3 c3 k3, PySem.W.mg_of X G a3, (fun_mk (st := s__law_subsets_right) l3 c3 k3).binds (ps := ["_law_n", "_law_k"]) fun _ _ _ _ _ _ us hl => match us, hl with | [_, _], _ => rfl⟩
  have F__law_cell : FnAt K mg "_law_cell" s__law_cell ["_law_script", "_law_k"] := ⟨f4, _, fun_mk l4 c4 k4, PySem.W.mg_of X G a4, (fun_mk (st := s__law_cell) l4 c4 k4).binds (ps := ["_law_script", "_law_k"]) fun _ _ _ _ _ _ us hl => match us, hl with | [_, _], _ => rfl⟩
  have F__law_whole : FnAt K mg "_law_whole" s__law_whole ["_law_actual", "_law_due"] := ⟨f5, _, fun_mk l5 c5 k5, PySem.W.mg_of X G a5, (fun_mk (st := s__law_whole) l5 c5 k5).binds (ps := ["_law_actual", "_law_due"]) fun _ _ _ _ _ _ us hl => match us, hl with | [_, _], _ => rfl⟩
  have F__law_sign : FnAt K mg "_law_sign" s__law_sign ["_law_row"] := ⟨f6, _, fun_mk l6 c6 k6, PySem.W.mg_of X G a6, (fun_mk (st := s__law_sign) l6 c6 k6).binds (ps := ["_law_row"]) fun _ _ _ _ _ _ us hl => match us, hl with | [_], _ => rfl⟩
  have F__law_room : FnAt K mg "_law_room" s__law_room ["_law_actual", "_law_due"] := ⟨f7, _, fun_mk l7 c7 k7, PySem.W.mg_of X G a7, (fun_mk (st := s__law_room) l7 c7 k7).binds (ps := ["_law_actual", "_law_due"]) fun _ _ _ _ _ _ us hl => match us, hl with | [_, _], _ => rfl⟩
  have F__law_rooms : FnAt K mg "_law_rooms" s__law_rooms ["_law_actual", "_law_due"] := ⟨f8, _, fun_mk l8 c8 k8, PySem.W.mg_of X G a8, (fun_mk (st := s__law_rooms) l8 c8 k8).binds (ps := ["_law_actual", "_law_due"]) fun _ _ _ _ _ _ us hl => match us, hl with | [_, _], _ => rfl⟩
  have F_exchanged : FnAt K mg "exchanged" s_exchanged ["room", "leaving", "entering"] := ⟨f9, _, fun_mk l9 c9 k9, PySem.W.mg_of X G a9, (fun_mk (st := s_exchanged) l9 c9 k9).binds (ps := ["room", "leaving", "entering"]) fun _ _ _ _ _ _ us hl => match us, hl with | [_, _, _], _ => rfl⟩
  have F_without : FnAt K mg "without" s_without ["room", "place"] := ⟨f10, _, fun_mk l10 c10 k10, PySem.W.mg_of X G a10, (fun_mk (st := s_without) l10 c10 k10).binds (ps := ["room", "place"]) fun _ _ _ _ _ _ us hl => match us, hl with | [_, _], _ => rfl⟩
  have F__law_exchanges : FnAt K mg "_law_exchanges" s__law_exchanges ["_law_room_here", "_law_n", "_law_cell_here"] := ⟨f11, _, fun_mk l11 c11 k11, PySem.W.mg_of X G a11, (fun_mk (st := s__law_exchanges) l11 c11 k11).binds (ps := ["_law_room_here", "_law_n", "_law_cell_here"]) fun _ _ _ _ _ _ us hl => match us, hl with | [_, _, _], _ => rfl⟩
  have F_order_sign : FnAt K mg "order_sign" s_order_sign ["row"] := ⟨f12, _, fun_mk l12 c12 k12, PySem.W.mg_of X G a12, (fun_mk (st := s_order_sign) l12 c12 k12).binds (ps := ["row"]) fun _ _ _ _ _ _ us hl => match us, hl with | [_], _ => rfl⟩
  have F_shuffle_sign : FnAt K mg "shuffle_sign" s_shuffle_sign ["first", "second"] := ⟨f13, _, fun_mk l13 c13 k13, PySem.W.mg_of X G a13, (fun_mk (st := s_shuffle_sign) l13 c13 k13).binds (ps := ["first", "second"]) fun _ _ _ _ _ _ us hl => match us, hl with | [_, _], _ => rfl⟩
  have F_complement : FnAt K mg "complement" s_complement ["places", "room"] := ⟨f14, _, fun_mk l14 c14 k14, PySem.W.mg_of X G a14, (fun_mk (st := s_complement) l14 c14 k14).binds (ps := ["places", "room"]) fun _ _ _ _ _ _ us hl => match us, hl with | [_, _], _ => rfl⟩
  have F_faces : FnAt K mg "faces" s_faces ["room"] := ⟨f15, _, fun_mk l15 c15 k15, PySem.W.mg_of X G a15, (fun_mk (st := s_faces) l15 c15 k15).binds (ps := ["room"]) fun _ _ _ _ _ _ us hl => match us, hl with | [_], _ => rfl⟩
  have F_merged : FnAt K mg "merged" s_merged ["first", "second"] := ⟨f16, _, fun_mk l16 c16 k16, PySem.W.mg_of X G a16, (fun_mk (st := s_merged) l16 c16 k16).binds (ps := ["first", "second"]) fun _ _ _ _ _ _ us hl => match us, hl with | [_, _], _ => rfl⟩
  refine ⟨PySem.W.fnOf "law" "law" (defArgs s_law) (defBody s_law) (defScope s_law) .none kV17 dc17 pm17 an17 cd17 ct17, fun s v => .of_eq rfl, fun base _ _ => ?_⟩
  have K__law_order : Kn l.prog w K mg base "_law_order" 1 2 m__law_order := k__law_order F__law_order b_list b_range b_int
  have K_subsets : Kn l.prog w K mg base "subsets" 1 2 m_subsets := k_subsets F_subsets b_len b_range
  have K__law_many : Kn l.prog w K mg base "_law_many" 1 2 m__law_many := k__law_many F__law_many b_range
  have K__law_subsets_right : Kn l.prog w K mg base "_law_subsets_right" 2 2 m__law_subsets_right := k__law_subsets_right F__law_subsets_right K_subsets K__law_many b_range b_tuple b_list b_isinstance b_len
  have K__law_cell : Kn l.prog w K mg base "_law_cell" 1 2 m__law_cell := k__law_cell F__law_cell b_len b_abs b_int
  have K__law_whole : Kn l.prog w K mg base "_law_whole" 1 2 m__law_whole := k__law_whole F__law_whole b_int b_isinstance b_bool
  have K__law_sign : Kn l.prog w K mg base "_law_sign" 1 1 m__law_sign := k__law_sign F__law_sign b_list b_range b_len
  have K__law_room : Kn l.prog w K mg base "_law_room" 2 2 m__law_room := k__law_room F__law_room K__law_whole b_tuple b_isinstance b_len b_range
  have K__law_rooms : Kn l.prog w K mg base "_law_rooms" 3 2 m__law_rooms := k__law_rooms F__law_rooms K__law_room b_list b_isinstance b_len b_range
  have K_exchanged : Kn l.prog w K mg base "exchanged" 1 3 m_exchanged := k_exchanged F_exchanged b_sorted b_tuple
  have K_without : Kn l.prog w K mg base "without" 1 2 m_without := k_without F_without b_tuple
  have K__law_exchanges : Kn l.prog w K mg base "_law_exchanges" 3 3 m__law_exchanges := k__law_exchanges F__law_exchanges K_without K__law_room K_exchanged b_range b_len b_int b_tuple b_sorted
  have K_order_sign : Kn l.prog w K mg base "order_sign" 1 1 m_order_sign := k_order_sign F_order_sign b_range b_len
  have K_shuffle_sign : Kn l.prog w K mg base "shuffle_sign" 2 2 m_shuffle_sign := k_shuffle_sign F_shuffle_sign K_order_sign b_any
  have K_complement : Kn l.prog w K mg base "complement" 1 2 m_complement := k_complement F_complement b_range b_tuple
  have K_faces : Kn l.prog w K mg base "faces" 1 1 m_faces := k_faces F_faces b_range b_len
  have K_merged : Kn l.prog w K mg base "merged" 1 2 m_merged := k_merged F_merged b_sorted b_tuple
  exact law_of (ok_law (fun_mk (st := s_law) l17 c17 k17) K__law_cell K__law_order K__law_sign K_order_sign K__law_whole K_merged K__law_room K_shuffle_sign K_complement K_faces K__law_rooms K__law_exchanges K__law_subsets_right b_int b_tuple b_sorted b_len b_range) hlaw
end Lk00
namespace Lk00
open PySem PySem.Spec L2 DL
/-! ### the sign of a row -/
def par (n : Nat) : Int := if n % 2 = 0 then 1 else -1
theorem par_add (a b : Nat) : par (a + b) = par a * par b := by
  unfold par
  rcases Nat.mod_two_eq_zero_or_one a with h | h <;> rcases Nat.mod_two_eq_zero_or_one b with h2 | h2 <;> simp [h, h2, Nat.add_mod]
theorem par_sq (a : Nat) : par a * par a = 1 := by
  unfold par
  split <;> rfl
theorem par_succ (a : Nat) : par (a + 1) = -par a := by
  rw [par_add]
  show par a * -1 = _
  rw [Int.mul_neg, Int.mul_one]
theorem par_pm (a : Nat) : par a = 1 ∨ par a = -1 := by
  unfold par
  split
  · exact .inl rfl
  · exact .inr rfl
def cnt (x : Int) (ys : List Int) : Nat := ys.countP fun y => decide (y < x)
def inv : List Int → Nat
  | [] => 0
  | x :: xs => cnt x xs + inv xs
def sgn (xs : List Int) : Int := par (inv xs)
/-- pairs that descend from the first list to the second one -/
def crs : List Int → List Int → Nat
  | [], _ => 0
  | x :: xs, ys => cnt x ys + crs xs ys
theorem cnt_app (x : Int) (a b : List Int) : cnt x (a ++ b) = cnt x a + cnt x b := List.countP_append ..
theorem cnt_cons (x y : Int) (b : List Int) : cnt x (y :: b) = (if y < x then 1 else 0) + cnt x b := by
  unfold cnt
  rw [List.countP_cons, Nat.add_comm]
  congr 1
  simp
theorem inv_app : ∀ a b : List Int, inv (a ++ b) = inv a + crs a b + inv b
  | [], b => by simp [inv, crs]
  | x :: a, b => by
    show cnt x (a ++ b) + inv (a ++ b) = (cnt x a + inv a) + (cnt x b + crs a b) + inv b
    rw [cnt_app, inv_app a b]
    omega
theorem cnt_perm (x : Int) {a b : List Int} (h : a.Perm b) : cnt x a = cnt x b := h.countP_eq _
theorem crs_perm (a : List Int) {b c : List Int} (h : b.Perm c) : crs a b = crs a c := by
  induction a with
  | nil => rfl
  | cons x a ih => show cnt x b + crs a b = cnt x c + crs a c; rw [cnt_perm x h, ih]
theorem crs_app (a b c : List Int) : crs a (b ++ c) = crs a b + crs a c := by
  induction a with
  | nil => rfl
  | cons x a ih => show cnt x (b ++ c) + crs a (b ++ c) = (cnt x b + crs a b) + (cnt x c + crs a c); rw [cnt_app, ih]; omega
theorem crs_one (x : Int) (m : List Int) (h : x ∉ m) : cnt x m + crs m [x] = m.length := by
  induction m with
  | nil => rfl
  | cons y m ih =>
    have hy : x ≠ y := fun e => h (by simp [e])
    have ih := ih fun z => h (List.mem_cons_of_mem _ z)
    show cnt x (y :: m) + (cnt y [x] + crs m [x]) = m.length + 1
    rw [cnt_cons, cnt_cons]
    show (if y < x then 1 else 0) + cnt x m + ((if x < y then 1 else 0) + 0 + crs m [x]) = _
    by_cases hlt : y < x
    · rw [if_pos hlt, if_neg (by omega)]
      omega
    · rw [if_neg hlt, if_pos (by omega)]
      omega
theorem inv_swap (x y : Int) (m p : List Int) (hxy : x ≠ y) (hx : x ∉ m) (hy : y ∉ m) : ∃ k, inv (x :: (m ++ y :: p)) + inv (y :: (m ++ x :: p)) = 2 * k + 1 := by
  have key : ∀ a b : Int, inv (a :: (m ++ b :: p)) = cnt a m + (if b < a then 1 else 0) + cnt a p + inv m + crs m [b] + crs m p + cnt b p + inv p := fun a b => by
    show cnt a (m ++ b :: p) + inv (m ++ b :: p) = _
    rw [cnt_app, cnt_cons, inv_app]
    rw [show crs m (b :: p) = crs m [b] + crs m p from by rw [← crs_app]; rfl]
    show _ + (inv m + (crs m [b] + crs m p) + (cnt b p + inv p)) = _
    omega
  rw [key, key]
  have h1 := crs_one x m hx
  have h2 := crs_one y m hy
  refine ⟨m.length + cnt x p + cnt y p + inv m + crs m p + inv p, ?_⟩
  by_cases h : y < x
  · rw [if_pos h, if_neg (by omega)]
    omega
  · rw [if_neg h, if_pos (by omega)]
    omega
theorem sgn_swap (a : List Int) (x y : Int) (m p : List Int) (hxy : x ≠ y) (hx : x ∉ m) (hy : y ∉ m) : sgn (a ++ x :: (m ++ y :: p)) = -sgn (a ++ y :: (m ++ x :: p)) := by
  obtain ⟨k, hk⟩ := inv_swap x y m p hxy hx hy
  have hp : (x :: (m ++ y :: p)).Perm (y :: (m ++ x :: p)) := by
    have h1 : (x :: (m ++ y :: p)).Perm (x :: y :: (m ++ p)) := (List.perm_middle).cons x
    have h2 : (y :: (m ++ x :: p)).Perm (y :: x :: (m ++ p)) := (List.perm_middle).cons y
    exact (h1.trans (List.Perm.swap y x _)).trans h2.symm
  unfold sgn
  rw [inv_app, inv_app, crs_perm a hp]
  have e : inv a + crs a (y :: (m ++ x :: p)) + inv (x :: (m ++ y :: p)) + (inv a + crs a (y :: (m ++ x :: p)) + inv (y :: (m ++ x :: p))) = 2 * (inv a + crs a (y :: (m ++ x :: p)) + k) + 1 := by omega
  have h := congrArg par e
  rw [par_add, par_succ, show ∀ n, par (2 * n) = 1 from fun n => by unfold par; rw [if_pos (by omega)]] at h
  rcases par_pm (inv a + crs a (y :: (m ++ x :: p)) + inv (x :: (m ++ y :: p))) with h1 | h1 <;> rcases par_pm (inv a + crs a (y :: (m ++ x :: p)) + inv (y :: (m ++ x :: p))) with h2 | h2 <;> rw [h1, h2] at h ⊢ <;> first | rfl | (exact absurd h (by decide))
theorem sgn_sorted {xs : List Int} (h : xs.Pairwise (· ≤ ·)) : sgn xs = 1 := by
  have e : inv xs = 0 := by
    induction xs with
    | nil => rfl
    | cons x xs ih =>
      have h1 := List.pairwise_cons.mp h
      show cnt x xs + inv xs = 0
      rw [ih h1.2, Nat.add_zero]
      unfold cnt
      rw [List.countP_eq_zero]
      intro y hy
      have := h1.1 y hy
      simp
      omega
  unfold sgn
  rw [e]
  rfl
theorem sgn_cons (x : Int) (xs : List Int) : sgn (x :: xs) = par (cnt x xs) * sgn xs := by
  unfold sgn
  rw [← par_add]
  rfl

end Lk00
namespace Lk00
open PySem PySem.Spec L2 DL
set_option maxHeartbeats 4000000
/-! ### the small ones -/
theorem ki : kitB "int" "int" = some true := by decide +kernel
theorem kib : kitB "int" "bool" = some false := by decide +kernel
theorem ktt : kitB "tuple" "tuple" = some true := by decide +kernel
theorem kll : kitB "list" "list" = some true := by decide +kernel
theorem whole_ok (a b : Int) : m__law_whole [.int a, .int b] = .ok (.bl (decide (a = b))) := by
  apply runF_rt
  simp [b__law_whole, startE, isiD, tyOf, ki, kib]
theorem room_ok (ns : List Int) (hl : ns.length ≤ 100000) : m__law_room [.tup (ns.map D.int), .lst (ns.map D.int)] = .ok (.bl true) := by
  apply runF_rt
  refine th_skip ?_ ?_
  · simp [startE, isiD, tyOf, ktt]
  refine th_for (ds := [.int (ns.length : Int)]) (fun (i : Nat) => D.int (i : Int)) (List.range ns.length) (fun _ ρ => ∃ o, ρ = [some (.tup (ns.map D.int)), some (.lst (ns.map D.int)), o]) ?_ (rg1_nat (lim63 hl)) ⟨none, rfl⟩ ?_ ?_
  · simp [startE]
  · rintro i x ρ hi ⟨o, rfl⟩
    have hx : x < ns.length := List.mem_range.mp (List.mem_of_getElem? hi)
    have hg : ns[x]? = some ns[x] := List.getElem?_eq_getElem hx
    refine ⟨_, [some (.tup (ns.map D.int)), some (.lst (ns.map D.int)), some (.int (x : Int))], rfl, .inl ?_, _, rfl⟩
    simp [ixD_tup D.int ns x hg, ixD_lst D.int ns x hg, whole_ok]
  · rintro ρ ⟨o, rfl⟩
    rfl
end Lk00
namespace Lk00
open PySem PySem.Spec L2 DL
set_option maxHeartbeats 4000000
theorem p0 : powD (.int 10) (.int 18) = .ok (.int 1000000000000000000) := by
  unfold powD
  exact gd_ok (by decide)
theorem cell_ok (ns : List Int) (k : Nat) (hk : k ≤ 1000) : ∃ c : Int, m__law_cell [.scr ns, .int k] = .ok (.int c) := by
  have m0 : mulD (.int 17) (.int k) = .ok (.int (17 * k)) := mulD_int (.inl (by omega))
  have m6 : mulD (.int 101) (.int k) = .ok (.int (101 * k)) := mulD_int (.inl (by omega))
  have m1 : ∀ c, mulD (.int c) (.int 48271) = .ok (.int (c * 48271)) := fun c => mulD_int (.inr (by omega))
  have m2 : mulD (.int 11) (.int k) = .ok (.int (11 * k)) := mulD_int (.inl (by omega))
  have m3 : ∀ y, mulD (.int (y % 2147483647)) (.int (y % 2147483647)) = .ok (.int ((y % 2147483647) * (y % 2147483647))) := fun y => mulD_int (.inl (by omega))
  have m4 : ∀ y, mulD (.int 69621) (.int y) = .ok (.int (69621 * y)) := fun y => mulD_int (.inl (by omega))
  have m5 : ∀ y, mulD (.int y) (.int 1000000000039) = .ok (.int (y * 1000000000039)) := fun y => mulD_int (.inr (by omega))
  have ha : ∀ y, absD [.int y] = .ok (.int (if y < 0 then -y else y)) := fun y => rfl
  have h : ∃ c : Int, (b__law_cell (startE 3 [.scr ns, .int k])) = .ok (.rt (.int c)) := by
    by_cases hlt : k < ns.length
    · have hx := ixD_scr ns k (List.getElem?_eq_getElem hlt)
      obtain ⟨a, ha⟩ : ∃ a, absD [.int ns[k]] = .ok (.int a) := ⟨_, rfl⟩
      by_cases hbig : (1000000000000000000 : Int) ≤ a
      · simp -implicitDefEqProofs [b__law_cell, startE, m0, m1, m2, m3, m4, m5, m6, modD_int, fdivD_int, ha, hx, hlt, p0, hbig]
      · simp -implicitDefEqProofs [b__law_cell, startE, m0, m1, m2, m3, m4, m5, m6, modD_int, fdivD_int, ha, hx, hlt, p0, hbig]
    · by_cases hp : 0 < ns.length
      · have hm : modD (.int k) (.int ns.length) = .ok (.int ((k % ns.length : Nat) : Int)) := modD_int (by omega)
        have hx := ixD_scr ns (k % ns.length) (List.getElem?_eq_getElem (Nat.mod_lt _ hp))
        rw [Int.natCast_emod] at hx
        simp -implicitDefEqProofs [b__law_cell, startE, m0, m1, m2, m3, m4, m5, m6, modD_int, fdivD_int, ha, hx, hlt, p0, hm, hp]
      · simp -implicitDefEqProofs [b__law_cell, startE, m0, m1, m2, m3, m4, m5, m6, modD_int, fdivD_int, ha, hlt, p0, hp]
  obtain ⟨c, h⟩ := h
  exact ⟨c, runF_rt h⟩
end Lk00
namespace Lk00
open PySem PySem.Spec L2 DL
set_option maxHeartbeats 4000000
theorem map_erase {α β : Type} (f : α → β) : ∀ (xs : List α) (k : Nat), (xs.map f).eraseIdx k = (xs.eraseIdx k).map f
  | [], _ => rfl
  | _ :: _, 0 => rfl
  | x :: xs, k + 1 => by
    show f x :: (xs.map f).eraseIdx k = f x :: (xs.eraseIdx k).map f
    rw [map_erase f xs k]
theorem erase_perm : ∀ (xs : List Int) (k : Nat) (h : k < xs.length), (xs[k] :: xs.eraseIdx k).Perm xs
  | x :: xs, 0, _ => .refl _
  | x :: xs, k + 1, h => by
    have ih := erase_perm xs k (by simpa using h)
    exact (List.Perm.swap _ _ _).trans (ih.cons x)
theorem order_ok (c : Int) (n : Nat) (hn : n ≤ 1000) : ∃ ns : List Int, m__law_order [.int c, .int n] = .ok (.lst (ns.map D.int)) ∧ ns.Perm ((List.range n).map Int.ofNat) := by
  suffices h : ∃ ns : List Int, b__law_order (startE 6 [.int c, .int n]) = .ok (.rt (.lst (ns.map D.int))) ∧ ns.Perm ((List.range n).map Int.ofNat) by
    obtain ⟨ns, h, hp⟩ := h
    exact ⟨ns, runF_rt h, hp⟩
  have hl : n ≤ LIM := lim63 (by omega)
  let P : Nat → DL.Env → Prop := fun i ρ => ∃ (c : Int) (left row : List Int) (o4 o5 : Option D), ρ = [some (.int c), some (.int n), some (.lst (left.map D.int)), some (.lst (row.map D.int)), o4, o5] ∧ (row ++ left).Perm ((List.range n).map Int.ofNat) ∧ row.length = i
  have key : ∀ f : DL.Env → R Fl, f = (fun r => (then_ (asg 5 r (o2 subD (get (wipeE r [2, 3]) 1) (get (wipeE r [2, 3]) 4))) (fun r => (then_ (appPopS 3 2 r (o2 modD (cbf intD (acons (get r 0) (.ok []))) (get r 5))) (fun r => (asg 0 r (o2 fdivD (get (wipeE r [2, 3]) 0) (get (wipeE r [2, 3]) 5)))))))) →
      ∃ ρ', forR rg1 (agV 4) f [some (.int c), some (.int n), some (.lst ((List.range n).map fun (i : Nat) => D.int (i : Int))), some (.lst []), none, none] (.ok [.int n]) = .ok (.nx ρ') ∧ P n ρ' := by
    intro f hf
    have h := for_inv (ag := agV 4) (mb := f) (ρ := [some (.int c), some (.int n), some (.lst ((List.range n).map fun (i : Nat) => D.int (i : Int))), some (.lst []), none, none]) (fun (i : Nat) => D.int (i : Int)) (List.range n) P (r := .ok [.int n]) rfl (rg1_nat hl) ⟨c, (List.range n).map Int.ofNat, [], none, none, by simp, .refl _, rfl⟩ (by
      rintro i x ρ hi ⟨c, left, row, o4, o5, rfl, hp, hrow⟩
      have hx : i = x ∧ i < n := by
        have := List.getElem?_eq_some_iff.mp hi
        obtain ⟨h1, h2⟩ := this
        rw [List.getElem_range] at h2
        rw [List.length_range] at h1
        exact ⟨h2, h1⟩
      obtain ⟨rfl, hin⟩ := hx
      have hlen : left.length = n - i := by
        have := hp.length_eq
        rw [List.length_append, List.length_map, List.length_range] at this
        omega
      have hm : modD (.int c) (.int ((n : Int) - i)) = .ok (.int (((c % ((n : Int) - i)).toNat : Nat) : Int)) := by
        rw [modD_int (by omega), Int.toNat_of_nonneg (Int.emod_nonneg _ (by omega))]
      have hd : fdivD (.int c) (.int ((n : Int) - i)) = .ok (.int (c / ((n : Int) - i))) := fdivD_int ⟨by omega, by omega⟩
      have hlt := Int.emod_lt_of_pos c (show (0 : Int) < (n : Int) - i by omega)
      generalize hk : (c % ((n : Int) - i)).toNat = k at hm
      have hkl : k < left.length := by
        have := Int.emod_nonneg c (show (n : Int) - i ≠ 0 by omega)
        omega
      have hap := appPopS_nat (i := 3) (j := 2) (ρ := [some (.int c), some (.int n), some (.lst (left.map D.int)), some (.lst (row.map D.int)), some (.int (i : Int)), some (.int ((n : Int) - i))]) (a := .ok (.int (k : Int))) (k := k) (d := .int left[k]) rfl rfl rfl (by rw [List.getElem?_map, List.getElem?_eq_getElem hkl]; rfl) (by rw [List.length_map]; omega) (by rw [List.length_map]; show row.length < 1000000; omega)
      refine ⟨_, [some (.int (c / ((n : Int) - i))), some (.int n), some (.lst ((left.eraseIdx k).map D.int)), some (.lst ((row ++ [left[k]]).map D.int)), some (.int (i : Int)), some (.int ((n : Int) - i))], rfl, .inl ?_, _, _, _, _, _, rfl, ?_, ?_⟩
      · subst hf
        simp -implicitDefEqProofs [hm, hap, hd, map_erase]
      · refine .trans ?_ hp
        have h1 : (left[k] :: left.eraseIdx k).Perm left := erase_perm left k hkl
        rw [List.append_assoc]
        exact (List.Perm.refl row).append h1
      · rw [List.length_append, hrow]
        rfl)
    rw [List.length_range] at h
    exact h
  obtain ⟨ρ, h1, c', left, row, o4, o5, rfl, hp, hrow⟩ := key _ rfl
  have hleft : left = [] := by
    have := hp.length_eq
    rw [List.length_append, List.length_map, List.length_range] at this
    exact List.length_eq_zero_iff.mp (by omega)
  subst hleft
  rw [List.append_nil] at hp
  refine ⟨row, ?_, hp⟩
  have hr := rgL1_nat hl
  simp -implicitDefEqProofs only [b__law_order, startE, List.map_cons, List.map_nil, List.length_cons, List.length_nil, List.cons_append, List.nil_append]
  refine th_own (ds := (List.range n).map fun (i : Nat) => D.int (i : Int)) ?_ ?_
  · simp -implicitDefEqProofs [hr]
  refine th_own (ds := []) rfl ?_
  refine th_nx h1 ?_
  rfl
end Lk00
namespace Lk00
open PySem PySem.Spec L2 DL
set_option maxHeartbeats 4000000
theorem range_get {n i x : Nat} (h : (List.range n)[i]? = some x) : x = i ∧ i < n := by
  obtain ⟨h1, h2⟩ := List.getElem?_eq_some_iff.mp h
  rw [List.getElem_range] at h2
  rw [List.length_range] at h1
  exact ⟨h2.symm, h1⟩
theorem cutD_from1 {α : Type} (f : α → D) (xs : List α) (k : Nat) : cutD (xs.map f) (some ((k : Int) + 1)) none = (xs.drop (k + 1)).map f := by
  rw [← cutD_from f xs (k + 1), Int.natCast_add]
  rfl
theorem par_cons (x y : Int) (b : List Int) : par (cnt x (b ++ [y])) = par (cnt x b) * (if y < x then -1 else 1) := by
  rw [cnt_app, par_add]
  congr 1
  show par (cnt x [y]) = _
  rw [cnt_cons]
  split
  · rfl
  · rfl
theorem take_get {α : Type} {xs : List α} {i : Nat} {x : α} (h : xs[i]? = some x) : xs.take (i + 1) = xs.take i ++ [x] := by
  rw [List.take_add_one, h]
  rfl
theorem drop_get {α : Type} {xs : List α} {i : Nat} (h : i < xs.length) : xs.drop i = xs[i] :: xs.drop (i + 1) := List.drop_eq_getElem_cons h
theorem sign_ok (ns : List Int) (hl : ns.length ≤ 100000) : m_order_sign [.tup (ns.map D.int)] = .ok (.int (sgn ns)) := by
  apply runF_rt
  refine th_asg (d := .int 1) rfl ?_
  refine th_for (ds := [.int (ns.length : Int)]) (fun (i : Nat) => D.int (i : Int)) (List.range ns.length) (fun k ρ => ∃ o o', ∃ s : Int, ρ = [some (.tup (ns.map D.int)), some (.int s), o, o'] ∧ s * sgn (ns.drop k) = sgn ns) ?_ (rg1_nat (lim63 hl)) ⟨none, none, 1, rfl, by rw [List.drop_zero, Int.one_mul]⟩ ?_ ?_
  · simp -implicitDefEqProofs [startE]
  · rintro i x ρ hi ⟨o, o', s, rfl, hs⟩
    obtain ⟨rfl, hx⟩ := range_get hi
    have hg : ns[x]? = some ns[x] := List.getElem?_eq_getElem hx
    obtain ⟨ρ', h1, o9, rfl⟩ := fors_inv (ag := agV 3) (mb := fun r => (ifv (tst (o2 ltD (DL.get r 3) (o2 ixD (DL.get r 0) (DL.get r 2)))) (asg 1 r (o1 negD (DL.get r 1))) (.ok (.nx r)))) (ρ := [some (.tup (ns.map D.int)), some (.int s), some (.int (x : Int)), o']) (r := .ok ((ns.drop (x + 1)).map D.int)) D.int (ns.drop (x + 1))
      (fun k ρ => ∃ o', ρ = [some (.tup (ns.map D.int)), some (.int (s * par (cnt ns[x] ((ns.drop (x + 1)).take k)))), some (.int (x : Int)), o']) rfl ⟨o', by rw [List.take_zero]; show _ = [_, some (D.int (s * 1)), _, _]; rw [Int.mul_one]⟩ (by
        rintro j y ρ hj ⟨o', rfl⟩
        refine ⟨_, [some (.tup (ns.map D.int)), some (.int (s * par (cnt ns[x] ((ns.drop (x + 1)).take (j + 1))))), some (.int (x : Int)), some (.int y)], rfl, .inl ?_, _, rfl⟩
        rw [take_get hj, par_cons, ← Int.mul_assoc]
        by_cases hlt : y < ns[x]
        · simp -implicitDefEqProofs [ixD_tup D.int ns x hg, hlt, Int.mul_neg]
        · simp -implicitDefEqProofs [ixD_tup D.int ns x hg, hlt])
    rw [List.take_length] at h1
    refine ⟨_, [some (.tup (ns.map D.int)), some (.int (s * par (cnt ns[x] (ns.drop (x + 1))))), some (.int (x : Int)), o9], rfl, .inl ?_, _, _, _, rfl, ?_⟩
    · rw [← h1]
      simp -implicitDefEqProofs [cutD_from1]
    · rw [← hs, drop_get hx, sgn_cons, Int.mul_assoc]
  · rintro ρ ⟨o, o', s, rfl, hs⟩
    rw [List.length_range, List.drop_length] at hs
    rw [← hs]
    show R.ok (Fl.rt (D.int s)) = .ok (Fl.rt (D.int (s * 1)))
    rw [Int.mul_one]
end Lk00
namespace Lk00
open PySem PySem.Spec L2 DL
set_option maxHeartbeats 4000000
theorem app_get {α : Type} (a b : List α) (i : Nat) : (a ++ b)[a.length + i]? = b[i]? := by
  rw [List.getElem?_append_right (by omega), Nat.add_sub_cancel_left]
/-- the least of what is left is found -/
theorem min_loop (ns : D) (done rest : List Int) (s : Int) (o6 : Option D) (k : Nat) (hk : done.length = k) (hl : (done ++ rest).length ≤ 100000) (hr : 0 < rest.length) (o5 : Option D) :
    ∃ (t : Nat) (ht : t < rest.length) (o : Option D), forR rg2 (agV 5) (fun r => (ifv (tst (o2 ltD (o2 ixD (DL.get r 1) (DL.get r 5)) (o2 ixD (DL.get r 1) (DL.get r 4)))) (asg 4 r (DL.get (wipeE r [1]) 5)) (.ok (.nx r)))) [some ns, some (.lst ((done ++ rest).map D.int)), some (.int s), some (.int (k : Int)), some (.int (k : Int)), o5, o6] (.ok [.int (k : Int), .int ((done ++ rest).length : Int)]) =
      .ok (.nx [some ns, some (.lst ((done ++ rest).map D.int)), some (.int s), some (.int (k : Int)), some (.int ((k + t : Nat) : Int)), o, o6]) ∧ ∀ z ∈ rest, rest[t] ≤ z := by
  have hn : (done ++ rest).length - k = rest.length := by
    rw [List.length_append]
    omega
  obtain ⟨ρ, h1, h2⟩ := for_inv (rg := rg2) (ag := agV 5) (mb := (fun r => (ifv (tst (o2 ltD (o2 ixD (DL.get r 1) (DL.get r 5)) (o2 ixD (DL.get r 1) (DL.get r 4)))) (asg 4 r (DL.get (wipeE r [1]) 5)) (.ok (.nx r))))) (ρ := [some ns, some (.lst ((done ++ rest).map D.int)), some (.int s), some (.int (k : Int)), some (.int (k : Int)), o5, o6]) (r := .ok [.int (k : Int), .int ((done ++ rest).length : Int)])
    (fun (i : Nat) => D.int ((k + i : Nat) : Int)) (List.range rest.length) (fun i ρ => ∃ (t : Nat) (ht : t < rest.length) (o : Option D), ρ = [some ns, some (.lst ((done ++ rest).map D.int)), some (.int s), some (.int (k : Int)), some (.int ((k + t : Nat) : Int)), o, o6] ∧ ∀ z ∈ rest.take i, rest[t] ≤ z) rfl (by
      rw [rg2_nat (lim63 (by rw [List.length_append] at hl; omega)) (lim63 hl), hn]) ⟨0, hr, o5, rfl, by intro z hz; rw [List.take_zero] at hz; cases hz⟩ (by
      rintro i x ρ hi ⟨t, ht, o, rfl, hm⟩
      obtain ⟨rfl, hx⟩ := range_get hi
      have g1 := ixD_lst D.int (done ++ rest) (k + x) (x := rest[x]) (by rw [← hk, app_get, List.getElem?_eq_getElem hx])
      have g2 := ixD_lst D.int (done ++ rest) (k + t) (x := rest[t]) (by rw [← hk, app_get, List.getElem?_eq_getElem ht])
      generalize hL : D.lst ((done ++ rest).map D.int) = L at g1 g2 ⊢
      have hstep : ∀ u : Int, (∀ z ∈ rest.take x, u ≤ z) → u ≤ rest[x] → ∀ z ∈ rest.take (x + 1), u ≤ z := by
        intro u hu h2 z hz
        rw [take_get (List.getElem?_eq_getElem hx)] at hz
        rcases List.mem_append.mp hz with hz | hz
        · exact hu z hz
        · rw [List.mem_singleton.mp hz]
          exact h2
      by_cases hlt : rest[x] < rest[t]
      · refine ⟨_, [some ns, some L, some (.int s), some (.int (k : Int)), some (.int ((k + x : Nat) : Int)), some (.int ((k + x : Nat) : Int)), o6], rfl, .inl ?_, x, hx, _, rfl, hstep _ (fun z hz => Int.le_trans (Int.le_of_lt hlt) (hm z hz)) (Int.le_refl _)⟩
        generalize ((k + x : Nat) : Int) = a at g1 ⊢
        generalize ((k + t : Nat) : Int) = b at g2 ⊢
        simp -implicitDefEqProofs [g1, g2, hlt]
      · refine ⟨_, [some ns, some L, some (.int s), some (.int (k : Int)), some (.int ((k + t : Nat) : Int)), some (.int ((k + x : Nat) : Int)), o6], rfl, .inl ?_, t, ht, _, rfl, hstep _ hm (by omega)⟩
        generalize ((k + x : Nat) : Int) = a at g1 ⊢
        generalize ((k + t : Nat) : Int) = b at g2 ⊢
        simp -implicitDefEqProofs [g1, g2, hlt])
  obtain ⟨t, ht, o, rfl, hm⟩ := h2
  rw [List.length_range, List.take_length] at hm
  exact ⟨t, ht, o, h1, hm⟩
theorem set_swap {α : Type} (a m p : List α) (x y : α) : ((a ++ x :: (m ++ y :: p)).set a.length y).set (a.length + 1 + m.length) x = a ++ y :: (m ++ x :: p) := by
  rw [List.set_append_right _ _ (Nat.le_refl _), Nat.sub_self, List.set_cons_zero, List.set_append_right _ _ (by omega), show a.length + 1 + m.length - a.length = m.length + 1 from by omega, List.set_cons_succ, List.set_append_right _ _ (Nat.le_refl _), Nat.sub_self, List.set_cons_zero]
theorem split_at {α : Type} (l : List α) (t : Nat) (h : t < l.length) : ∃ m p, l = m ++ l[t] :: p ∧ m.length = t := ⟨l.take t, l.drop (t + 1), by rw [← drop_get h, List.take_append_drop], by rw [List.length_take]; omega⟩
theorem lsign_ok (ns : List Int) (hl : ns.length ≤ 100000) (hd : ns.Nodup) : m__law_sign [.lst (ns.map D.int)] = .ok (.int (sgn ns)) := by
  apply runF_rt
  refine th_own (ds := ns.map D.int) rfl ?_
  refine th_asg (d := .int 1) rfl ?_
  refine th_for (ds := [.int (ns.length : Int)]) (fun (i : Nat) => D.int (i : Int)) (List.range ns.length) (fun k ρ => ∃ (done rest : List Int) (s : Int) (o3 o4 o5 o6 : Option D), ρ = [some (.lst (ns.map D.int)), some (.lst ((done ++ rest).map D.int)), some (.int s), o3, o4, o5, o6] ∧ s * sgn (done ++ rest) = sgn ns ∧ (done ++ rest).Perm ns ∧ done.length = k ∧ done.Pairwise (· ≤ ·) ∧ ∀ x ∈ done, ∀ y ∈ rest, x ≤ y) ?_ (rg1_nat (lim63 hl)) ⟨[], ns, 1, none, none, none, none, rfl, Int.one_mul _, .refl _, rfl, .nil, fun x hx => by cases hx⟩ ?_ ?_
  · simp -implicitDefEqProofs [startE]
  · rintro i x ρ hi ⟨done, rest, s, o3, o4, o5, o6, rfl, hs, hp, hk, hsort, hle⟩
    obtain ⟨rfl, hx⟩ := range_get hi
    have hlen := hp.length_eq
    have hr : 0 < rest.length := by
      rw [List.length_append] at hlen
      omega
    obtain ⟨t, ht, o, h1, hm⟩ := min_loop (.lst (ns.map D.int)) done rest s o6 x hk (by omega) hr o5
    obtain ⟨m0, p, hsp, hmt⟩ := split_at rest t ht
    generalize hy : rest[t] = y at hsp hm
    have hnd : (done ++ rest).Nodup := hp.nodup_iff.mpr hd
    by_cases h0 : t = 0
    · subst h0
      have : m0 = [] := List.length_eq_zero_iff.mp hmt
      subst this
      refine ⟨_, [some (.lst (ns.map D.int)), some (.lst ((done ++ rest).map D.int)), some (.int s), some (.int (x : Int)), some (.int (x : Int)), o, o6], rfl, .inl ?_, done ++ [y], p, s, some (.int (x : Int)), some (.int (x : Int)), o, o6, ?_, ?_, ?_, ?_, ?_, ?_⟩
      · rw [Nat.add_zero] at h1
        refine th_asg (d := .int (x : Int)) rfl ?_
        refine th_nx (ρ := _) (.trans ?_ h1) ?_
        · simp -implicitDefEqProofs
        · simp -implicitDefEqProofs
      · rw [hsp]; simp
      · rw [← hs, hsp]; simp
      · rw [hsp] at hp; simpa using hp
      · rw [List.length_append, hk]; rfl
      · exact List.pairwise_append.mpr ⟨hsort, List.pairwise_singleton _ _, fun a ha b hb => by
          rw [List.mem_singleton.mp hb]
          exact hle a ha y (by rw [hsp]; simp)⟩
      · intro a ha b hb
        have hb2 : b ∈ rest := by rw [hsp]; simp [hb]
        rcases List.mem_append.mp ha with ha | ha
        · exact hle a ha b hb2
        · rw [List.mem_singleton.mp ha]
          exact hm b hb2
    · cases m0 with
      | nil => exact absurd hmt.symm h0
      | cons z m =>
        have htx : t = m.length + 1 := by rw [← hmt]; rfl
        have hzy : z ≠ y ∧ z ∉ m ∧ y ∉ m := by
          have h := (List.nodup_append.mp hnd).2.1
          rw [hsp] at h
          have h2 := List.nodup_cons.mp (show (z :: (m ++ y :: p)).Nodup from h)
          have h3 := List.nodup_append.mp h2.2
          refine ⟨fun e => h2.1 (by rw [e]; simp), fun e => h2.1 (by simp [e]), fun e => h3.2.2 y e y (by simp) rfl⟩
        have hsp : rest = z :: (m ++ y :: p) := hsp
        subst hsp
        have hL : ((done ++ z :: (m ++ y :: p)).map D.int) = done.map D.int ++ D.int z :: (m.map D.int ++ D.int y :: p.map D.int) := by simp
        have hL2 : ((done ++ y :: (m ++ z :: p)).map D.int) = done.map D.int ++ D.int y :: (m.map D.int ++ D.int z :: p.map D.int) := by simp
        have g1 := ixD_lst D.int (done ++ z :: (m ++ y :: p)) x (x := z) (by rw [← hk, show done.length = done.length + 0 from rfl, app_get]; rfl)
        have g2 := ixD_lst D.int (done ++ z :: (m ++ y :: p)) (x + t) (x := y) (by rw [← hk, app_get]; exact (List.getElem?_eq_getElem ht).trans (congrArg some hy))
        have hsw := set_swap (done.map D.int) (m.map D.int) (p.map D.int) (D.int z) (D.int y)
        rw [List.length_map, List.length_map, hk, Nat.add_assoc, Nat.add_comm 1, ← htx] at hsw
        rw [← hL, ← hL2] at hsw
        refine ⟨_, [some (.lst (ns.map D.int)), some (.lst ((done ++ y :: (m ++ z :: p)).map D.int)), some (.int (-s)), some (.int (x : Int)), some (.int ((x + t : Nat) : Int)), o, some (.int z)], rfl, .inl ?_, done ++ [y], m ++ z :: p, -s, some (.int (x : Int)), some (.int ((x + t : Nat) : Int)), o, some (.int z), ?_, ?_, ?_, ?_, ?_, ?_⟩
        · have hne : ((x + t : Nat) : Int) ≠ (x : Int) := by omega
          refine th_asg (d := .int (x : Int)) rfl ?_
          refine th_nx (ρ := _) (.trans ?_ h1) ?_
          · simp -implicitDefEqProofs
          · refine ifv_of (b := true) ?_ (fun _ => ?_) (fun h => by cases h)
            · generalize ((x + t : Nat) : Int) = b at hne ⊢
              simp -implicitDefEqProofs [hne]
            · refine th_asgW (d := .int z) ?_ rfl ?_
              · generalize ((x + t : Nat) : Int) = b at hne ⊢
                simp -implicitDefEqProofs only [o2_ok, get_succ, get_zero, g1, calm_ok]
              · refine th_nx (setixSW_nat (d := .int y) (k := x) (ds := (done ++ z :: (m ++ y :: p)).map D.int) ?_ rfl rfl rfl (by rw [List.length_map]; omega)) ?_
                · generalize ((x + t : Nat) : Int) = b at g2 ⊢
                  simp -implicitDefEqProofs only [o2_ok, get_succ, get_zero, List.set_cons_succ, List.set_cons_zero, g2, calm_ok]
                · refine th_nx (setixS_nat (d := .int z) (k := x + t) (ds := ((done ++ z :: (m ++ y :: p)).map D.int).set x (.int y)) rfl rfl rfl (by rw [List.length_set, List.length_map, List.length_append]; omega)) ?_
                  rw [hsw]
                  rfl
        · simp
        · have h := sgn_swap done z y m p hzy.1 hzy.2.1 hzy.2.2
          rw [List.append_assoc, ← hs, h]
          show -s * sgn (done ++ y :: (m ++ z :: p)) = _
          rw [Int.neg_mul, Int.mul_neg]
        · refine .trans ?_ hp
          rw [List.append_assoc]
          refine (List.Perm.refl done).append ?_
          have h1 : (z :: (m ++ y :: p)).Perm (z :: y :: (m ++ p)) := (List.perm_middle).cons z
          have h2 : (y :: (m ++ z :: p)).Perm (y :: z :: (m ++ p)) := (List.perm_middle).cons y
          exact h2.trans ((List.Perm.swap _ _ _).trans h1.symm)
        · rw [List.length_append, hk]; rfl
        · exact List.pairwise_append.mpr ⟨hsort, List.pairwise_singleton _ _, fun a ha b hb => by
            rw [List.mem_singleton.mp hb]
            exact hle a ha y (by simp)⟩
        · intro a ha b hb
          have hb2 : b ∈ z :: (m ++ y :: p) := by
            rcases List.mem_append.mp hb with hb | hb
            · simp [hb]
            · rcases List.mem_cons.mp hb with hb | hb
              · simp [hb]
              · simp [hb]
          rcases List.mem_append.mp ha with ha | ha
          · exact hle a ha b hb2
          · rw [List.mem_singleton.mp ha]
            exact hm b hb2
  · rintro ρ ⟨done, rest, s, o3, o4, o5, o6, rfl, hs, hp, hk, hsort, hle⟩
    have hlen := hp.length_eq
    rw [List.length_range] at hk
    have : rest = [] := by
      rw [List.length_append] at hlen
      exact List.length_eq_zero_iff.mp (by omega)
    subst this
    rw [List.append_nil, sgn_sorted hsort, Int.mul_one] at hs
    rw [← hs]
    rfl
end Lk00
namespace Lk00
open PySem PySem.Spec L2 DL
set_option maxHeartbeats 4000000
theorem merged_ok (a b : List Int) (h : a.length + b.length ≤ 100000) : m_merged [.tup (a.map D.int), .tup (b.map D.int)] = .ok (.tup ((sortI (a ++ b)).map D.int)) := by
  apply runF_rt
  have h1 : addD (.tup (a.map D.int)) (.tup (b.map D.int)) = .ok (.tup ((a ++ b).map D.int)) := by
    rw [addD_tup (by rw [List.length_map, List.length_map]; exact lim63 h), List.map_append]
  simp -implicitDefEqProofs [b_merged, startE, h1, -List.map_append]
theorem without_ok (a : List Int) (x : Int) (h : a.length ≤ 100000) : m_without [.tup (a.map D.int), .int x] = .ok (.tup ((a.filter fun p => !decide (p = x)).map D.int)) := by
  apply runF_rt
  have h1 := lcM_map (vs := [2]) (mi := fun r => its (DL.get r 0)) (ag := agV 2) (mt := fun r => (tst (o2 neD (DL.get r 2) (DL.get r 1)))) (me := fun r => DL.get r 2) (ρ := [some (.tup (a.map D.int)), some (.int x), none]) D.int (fun p => !decide (p = x)) D.int a rfl (lim63 h) (fun p hp => ⟨_, rfl, by simp -implicitDefEqProofs, fun _ => rfl⟩)
  simp -implicitDefEqProofs [b_without, startE, h1]
theorem exchanged_ok (a : List Int) (x y : Int) (h : a.length < 100000) : m_exchanged [.tup (a.map D.int), .int x, .int y] = .ok (.tup ((sortI (a.filter (fun p => !decide (p = x)) ++ [y])).map D.int)) := by
  apply runF_rt
  have h1 := lcM_map (vs := [3]) (mi := fun r => its (DL.get r 0)) (ag := agV 3) (mt := fun r => (tst (o2 neD (DL.get r 3) (DL.get r 1)))) (me := fun r => DL.get r 3) (ρ := [some (.tup (a.map D.int)), some (.int x), some (.int y), none]) D.int (fun p => !decide (p = x)) D.int a rfl (lim63 (by omega)) (fun p hp => ⟨_, rfl, by simp -implicitDefEqProofs, fun _ => rfl⟩)
  have h2 : addD (.lst ((a.filter fun p => !decide (p = x)).map D.int)) (.lst [.int y]) = .ok (.lst ((a.filter (fun p => !decide (p = x)) ++ [y]).map D.int)) := by
    have := List.length_filter_le (fun p => !decide (p = x)) a
    rw [addD_lst (by rw [List.length_map]; exact lim63 (by show _ + 1 ≤ _; omega)), List.map_append]
    rfl
  simp -implicitDefEqProofs only [b_exchanged, startE, List.map_cons, List.map_nil, List.length_cons, List.length_nil, List.cons_append, List.nil_append]
  refine rt_of ?_
  refine .trans (congrArg (fun z => cbf tupleD (acons (cbf sortedD (acons (o2 addD z (dsp lstD (acons (.ok (.int y)) (.ok [])))) (.ok []))) (.ok []))) h1) ?_
  simp -implicitDefEqProofs only [acons_ok, dsp_ok, lstD_1, o2_ok, h2, calm_ok, cbf_ok, sortedD_lst, tupleD_lst]
def outs (n : Nat) (a : List Int) : List Int := ((List.range n).filter fun (p : Nat) => !decide ((p : Int) ∈ a)).map Int.ofNat
theorem outs_map (n : Nat) (a : List Int) : ((List.range n).filter fun (p : Nat) => !decide ((p : Int) ∈ a)).map (fun (p : Nat) => D.int (p : Int)) = (outs n a).map D.int := by
  unfold outs
  rw [List.map_map]
  rfl
theorem outs_len (n : Nat) (a : List Int) : (outs n a).length ≤ n := by
  unfold outs
  rw [List.length_map]
  exact Nat.le_trans (List.length_filter_le _ _) (by rw [List.length_range]; exact Nat.le_refl _)
theorem outside_ok {ρ : DL.Env} (v i j : Nat) (n : Nat) (a : List Int) (d : D) (hd : d = .tup (a.map D.int) ∨ d = .lst (a.map D.int)) (hn : n ≤ 100000) (hv : v ≠ i) (hv2 : v < ρ.length) (hi : DL.get (wipeE ρ [v]) i = .ok d) (hj : DL.get ρ j = .ok (.int (n : Int))) :
    lcM [v] (fun r => (dsp rg1 (acons (DL.get r j) (.ok [])))) (agV v) (fun r => (tst (o2 notInD (DL.get r v) (DL.get r i)))) (fun r => (DL.get r v)) ρ = .ok (.lst ((outs n a).map D.int)) := by
  rw [← outs_map]
  refine lcM_map (fun (p : Nat) => D.int (p : Int)) (fun (p : Nat) => !decide ((p : Int) ∈ a)) (fun (p : Nat) => D.int (p : Int)) (List.range n) ?_ (by rw [List.length_range]; exact lim63 hn) ?_
  · show dsp rg1 (acons (DL.get ρ j) (.ok [])) = _
    rw [hj, acons_ok, dsp_ok]
    exact rg1_nat (lim63 hn)
  · intro p hp
    have hg : ∀ x : D, DL.get ((wipeE ρ [v]).set v (some x)) v = .ok x := fun x => by
      unfold DL.get
      rw [List.getElem?_set_self (by show v < (ρ.set v none).length; rw [List.length_set]; exact hv2)]
    have hg2 : ∀ x : D, DL.get ((wipeE ρ [v]).set v (some x)) i = .ok d := fun x => by
      rw [← hi]
      unfold DL.get
      rw [List.getElem?_set_ne hv]
    refine ⟨_, rfl, ?_, fun _ => hg _⟩
    show tst (o2 notInD (DL.get ((wipeE ρ [v]).set v (some (.int p))) v) (DL.get ((wipeE ρ [v]).set v (some (.int p))) i)) = _
    rw [hg, hg2]
    rcases hd with rfl | rfl
    · simp -implicitDefEqProofs
    · simp -implicitDefEqProofs
theorem complement_ok (n : Nat) (a : List Int) (hn : n ≤ 100000) : m_complement [.int n, .tup (a.map D.int)] = .ok (.tup ((outs n a).map D.int)) := by
  apply runF_rt
  have h1 := outside_ok (ρ := [some (.int (n : Int)), some (.tup (a.map D.int)), none]) 2 1 0 n a _ (.inl rfl) hn (by decide) (by show 2 < 3; omega) rfl rfl
  simp -implicitDefEqProofs only [b_complement, startE, List.map_cons, List.map_nil, List.length_cons, List.length_nil, List.cons_append, List.nil_append]
  refine rt_of ?_
  refine .trans (congrArg (fun z => cbf tupleD (acons z (.ok []))) h1) ?_
  rfl
def face (a : List Int) (i : Nat) : List Int := a.take i ++ a.drop (i + 1)
theorem face_ok (a : List Int) (i : Nat) (h : a.length ≤ 100000) : addD (.tup ((a.take i).map D.int)) (.tup ((a.drop (i + 1)).map D.int)) = .ok (.tup ((face a i).map D.int)) := by
  rw [addD_tup (by rw [List.length_map, List.length_map, List.length_take, List.length_drop]; exact lim63 (by omega)), ← List.map_append]
  rfl
theorem face_okL (a : List Int) (i : Nat) (h : a.length ≤ 100000) : addD (.lst ((a.take i).map D.int)) (.lst ((a.drop (i + 1)).map D.int)) = .ok (.lst ((face a i).map D.int)) := by
  rw [addD_lst (by rw [List.length_map, List.length_map, List.length_take, List.length_drop]; exact lim63 (by omega)), ← List.map_append]
  rfl
theorem faces_ok (a : List Int) (h : a.length ≤ 100000) : m_faces [.tup (a.map D.int)] = .ok (.lst ((List.range a.length).map fun i => .tup ((face a i).map D.int))) := by
  apply runF_rt
  refine rt_of ?_
  refine lcM_all (fun (p : Nat) => D.int (p : Int)) (fun i => .tup ((face a i).map D.int)) (List.range a.length) ?_ (by rw [List.length_range]; exact lim63 h) ?_
  · simp -implicitDefEqProofs [startE, rg1_nat (lim63 h)]
  · intro i hi
    refine ⟨_, rfl, rfl, ?_⟩
    simp -implicitDefEqProofs [startE, cutD_to, cutD_from1, face_ok a i h, -List.map_take, -List.map_drop]
theorem shuffle_ok (a b : List Int) (h : a.length + b.length ≤ 100000) : m_shuffle_sign [.tup (a.map D.int), .tup (b.map D.int)] = .ok (.int (if a.any (fun p => decide (p ∈ b)) then 0 else sgn (a ++ b))) := by
  apply runF_rt
  have h0 := lcM_all (vs := [2]) (mi := fun r => its (DL.get r 0)) (ag := agV 2) (mt := fun _ => .ok true) (me := fun r => (o2 inD (DL.get r 2) (DL.get r 1))) (ρ := [some (.tup (a.map D.int)), some (.tup (b.map D.int)), none]) D.int (fun p => D.bl (decide (p ∈ b))) a rfl (lim63 (by omega)) (fun p hp => ⟨_, rfl, rfl, by simp -implicitDefEqProofs⟩)
  have h1 : addD (.tup (a.map D.int)) (.tup (b.map D.int)) = .ok (.tup ((a ++ b).map D.int)) := by
    rw [addD_tup (by rw [List.length_map, List.length_map]; exact lim63 h), List.map_append]
  have h2 : anyD [.lst (a.map fun p => D.bl (decide (p ∈ b)))] = .ok (.bl (a.any fun p => decide (p ∈ b))) := by
    have := anyD_ (a.map fun p => decide (p ∈ b))
    rw [List.map_map, List.any_map] at this
    exact this
  have hs := sign_ok (a ++ b) (by rw [List.length_append]; exact h)
  simp -implicitDefEqProofs only [b_shuffle_sign, startE, List.map_cons, List.map_nil, List.length_cons, List.length_nil, List.cons_append, List.nil_append]
  refine .trans (th_if (b := a.any fun p => decide (p ∈ b)) (out := .ok (.rt (.int (if a.any (fun p => decide (p ∈ b)) then 0 else sgn (a ++ b))))) ?_ ?_ ?_) rfl
  · refine .trans (congrArg (fun z => tst (cbf anyD (acons z (.ok [])))) h0) ?_
    rw [acons_ok, cbf_ok, h2]
    rfl
  · intro e
    rw [e]
    rfl
  · intro e
    rw [e]
    refine rt_of ?_
    refine .trans (congrArg (fun z => call_ 1 m_order_sign (acons (calm z) (.ok []))) h1) ?_
    rw [calm_ok, acons_ok, call_ok]
    refine (if_pos rfl).trans ?_
    rw [hs]
    rfl
theorem rooms_ok (xss : List (List Int)) (h : xss.length ≤ 100000) (hs : ∀ xs ∈ xss, xs.length ≤ 100000) : m__law_rooms [.lst (xss.map fun xs => .tup (xs.map D.int)), .lst (xss.map fun xs => .lst (xs.map D.int))] = .ok (.bl true) := by
  apply runF_rt
  refine th_skip ?_ ?_
  · simp -implicitDefEqProofs [startE, isiD, tyOf, kll]
  refine th_for (ds := [.int (xss.length : Int)]) (fun (i : Nat) => D.int (i : Int)) (List.range xss.length) (fun _ ρ => ∃ o, ρ = [some (.lst (xss.map fun xs => .tup (xs.map D.int))), some (.lst (xss.map fun xs => .lst (xs.map D.int))), o]) ?_ (rg1_nat (lim63 h)) ⟨none, rfl⟩ ?_ ?_
  · simp -implicitDefEqProofs [startE]
  · rintro i x ρ hi ⟨o, rfl⟩
    obtain ⟨rfl, hx⟩ := range_get hi
    have g1 := ixD_lst (fun xs : List Int => D.tup (xs.map D.int)) xss x (List.getElem?_eq_getElem hx)
    have g2 := ixD_lst (fun xs : List Int => D.lst (xs.map D.int)) xss x (List.getElem?_eq_getElem hx)
    have g3 := room_ok xss[x] (hs _ (List.getElem_mem hx))
    refine ⟨_, [some (.lst (xss.map fun xs => .tup (xs.map D.int))), some (.lst (xss.map fun xs => .lst (xs.map D.int))), some (.int (x : Int))], rfl, .inl ?_, _, rfl⟩
    simp -implicitDefEqProofs [g1, g2, g3]
  · rintro ρ ⟨o, rfl⟩
    rfl
end Lk00
namespace Lk00
open PySem PySem.Spec L2 DL
set_option maxHeartbeats 4000000
theorem idx {a : List Int} {c : Int} (hp : 0 < a.length) : ∃ (j : Nat) (x : Int), modD (.int c) (.int (a.length : Int)) = .ok (.int (j : Int)) ∧ ixD (.lst (a.map D.int)) (.int (j : Int)) = .ok (.int x) ∧ x ∈ a := by
  have h0 := Int.emod_nonneg c (show (a.length : Int) ≠ 0 by omega)
  have h1 := Int.emod_lt_of_pos c (show (0 : Int) < a.length by omega)
  have hj : (c % (a.length : Int)).toNat < a.length := by omega
  refine ⟨(c % (a.length : Int)).toNat, a[(c % (a.length : Int)).toNat], ?_, ?_, List.getElem_mem hj⟩
  · rw [modD_int (by omega), Int.toNat_of_nonneg h0]
  · exact ixD_lst D.int a _ (List.getElem?_eq_getElem hj)
theorem exchanges_ok (a : List Int) (n : Nat) (c : Int) (ha : a.length ≤ 1000) (hn : n ≤ 1000) : m__law_exchanges [.lst (a.map D.int), .int n, .int c] = .ok (.bl true) := by
  apply runF_rt
  simp -implicitDefEqProofs only [b__law_exchanges, startE, List.map_cons, List.map_nil, List.length_cons, List.length_nil, List.cons_append, List.nil_append]
  refine th_asg (d := .lst ((outs n a).map D.int)) (outside_ok (ρ := [some (.lst (a.map D.int)), some (.int (n : Int)), some (.int c), none, none, none, none, none]) 7 0 1 n a _ (.inr rfl) (by omega) (by decide) (by show 7 < 8; omega) rfl rfl) ?_
  refine th_if (b := decide ((a.length : Int) = 0)) ?_ (fun _ => rfl) (fun h0 => ?_)
  · simp -implicitDefEqProofs
  have hp : 0 < a.length := by
    have := of_decide_eq_false h0
    omega
  rw [then_nx]
  obtain ⟨j, x, hm, hx, hxa⟩ := idx (c := c) hp
  refine th_asg (d := .int x) ?_ ?_
  · simp -implicitDefEqProofs [hm, hx]
  have hk := lcM_map (vs := [7]) (mi := fun r => its (DL.get r 0)) (ag := agV 7) (mt := fun r => (tst (o2 neD (DL.get r 7) (DL.get r 4)))) (me := fun r => DL.get r 7) (ρ := [some (.lst (a.map D.int)), some (.int (n : Int)), some (.int c), some (.lst ((outs n a).map D.int)), some (.int x), none, none, none]) D.int (fun p => !decide (p = x)) D.int a rfl (lim63 (by omega)) (fun p hp => ⟨_, rfl, by simp -implicitDefEqProofs, fun _ => rfl⟩)
  refine th_asg hk ?_
  have hfl := List.length_filter_le (fun p => !decide (p = x)) a
  have hr := room_ok (a.filter fun p => !decide (p = x)) (by omega)
  have hw := without_ok a x (by omega)
  refine th_skip ?_ ?_
  · simp -implicitDefEqProofs [hw, hr]
  refine th_if (b := decide (((outs n a).length : Int) = 0)) ?_ (fun _ => rfl) (fun h0 => ?_)
  · simp -implicitDefEqProofs
  have hp2 : 0 < (outs n a).length := by
    have := of_decide_eq_false h0
    omega
  rw [then_nx]
  obtain ⟨j2, y, hm2, hy, hya⟩ := idx (a := outs n a) (c := c / 13) hp2
  refine th_asg (d := .int y) ?_ ?_
  · simp -implicitDefEqProofs [fdivD_int, hm2, hy]
  refine rt_of ?_
  have he := exchanged_ok a x y (by omega)
  have hr2 := room_ok (sortI (a.filter (fun p => !decide (p = x)) ++ [y])) (by
    rw [(sortI_perm _).length_eq, List.length_append]
    show _ + 1 ≤ _
    omega)
  have h2 : addD (.lst ((a.filter fun p => !decide (p = x)).map D.int)) (.lst [.int y]) = .ok (.lst ((a.filter (fun p => !decide (p = x)) ++ [y]).map D.int)) := by
    rw [addD_lst (by rw [List.length_map]; exact lim63 (by show _ + 1 ≤ _; omega)), List.map_append]
    rfl
  simp -implicitDefEqProofs [he, h2, hr2, -List.map_append]
end Lk00
namespace Lk00
open PySem PySem.Spec L2 DL
set_option maxHeartbeats 4000000
theorem subsets_right_all : ∀ n ∈ List.range 8, ∀ k ∈ List.range 9, isT (m__law_subsets_right [.int (n : Nat), .int (k : Nat)]) = true := by decide +kernel
end Lk00
namespace Lk00
open PySem PySem.Spec L2 DL
set_option maxHeartbeats 4000000
theorem mod_nat (c : Int) {n : Nat} (h : 0 < n) : ∃ m : Nat, m < n ∧ c % (n : Int) = (m : Int) := by
  have h0 := Int.emod_nonneg c (show (n : Int) ≠ 0 by omega)
  have h1 := Int.emod_lt_of_pos c (show (0 : Int) < n by omega)
  exact ⟨(c % (n : Int)).toNat, by omega, by omega⟩
theorem rangeI_nodup (n : Nat) : ((List.range n).map Int.ofNat).Nodup := (List.nodup_range).map _ fun a b h e => h (Int.ofNat.inj e)
theorem call1 (g : List D → R D) (a : D) : call_ 1 g (.ok [a]) = g [a] := rfl
theorem call2 (g : List D → R D) (a b : D) : call_ 2 g (.ok [a, b]) = g [a, b] := rfl
theorem m_law_holds (ns : List Int) (hl : ns.length ≤ 63) : m_law [.scr ns] = .ok (.bl true) := by
  apply runF_rt
  obtain ⟨c0, h0⟩ := cell_ok ns 0 (by omega)
  obtain ⟨c1, h1⟩ := cell_ok ns 1 (by omega)
  obtain ⟨c2, h2⟩ := cell_ok ns 2 (by omega)
  obtain ⟨c3, h3⟩ := cell_ok ns 3 (by omega)
  obtain ⟨c4, h4⟩ := cell_ok ns 4 (by omega)
  obtain ⟨c5, h5⟩ := cell_ok ns 5 (by omega)
  obtain ⟨c6, h6⟩ := cell_ok ns 6 (by omega)
  obtain ⟨c7, h7⟩ := cell_ok ns 7 (by omega)
  rw [show startE 11 [.scr ns] = [some (.scr ns), none, none, none, none, none, none, none, none, none, none] from rfl]
  simp -implicitDefEqProofs only [b_law]
  obtain ⟨n0, hn0, e0⟩ := mod_nat c0 (n := 12) (by omega)
  have e0 : c0 % 12 = (n0 : Int) := e0
  -- n
  refine th_asg (d := .int ((n0 + 1 : Nat) : Int)) ?_ ?_
  · have h0 : m__law_cell [.scr ns, .int 0] = .ok (.int c0) := h0
    simp -implicitDefEqProofs [h0, modD_int, e0, Int.add_comm]
  generalize hN : n0 + 1 = N
  have hN1 : 1 ≤ N ∧ N ≤ 12 := by omega
  -- row
  obtain ⟨row, ho, hperm⟩ := order_ok c1 N (by omega)
  have hrl : row.length = N := by
    rw [hperm.length_eq, List.length_map, List.length_range]
  have hrd : row.Nodup := hperm.nodup_iff.mpr (rangeI_nodup N)
  refine th_asg (d := .lst (row.map D.int)) ?_ ?_
  · have h1 : m__law_cell [.scr ns, .int 1] = .ok (.int c1) := h1
    simp -implicitDefEqProofs [h1, ho]
  -- many
  obtain ⟨M, hM, e2⟩ := mod_nat c2 (n := N + 1) (by omega)
  have md : ∀ c, modD (.int c) (.int ((N : Int) + 1)) = .ok (.int (c % ((N + 1 : Nat) : Int))) := fun c => modD_int (by omega)
  refine th_asg (d := .int (M : Int)) ?_ ?_
  · have h2 : m__law_cell [.scr ns, .int 2] = .ok (.int c2) := h2
    simp -implicitDefEqProofs only [get_succ, get_zero, List.set_cons_succ, List.set_cons_zero, acons_ok, call1, call2, h2, cbf_ok, intD_int, calm_ok, o2_ok, addD_int, md, e2]
  have hcut : sliceD (.lst (row.map D.int)) none (some (M : Int)) = .ok (.lst ((row.take M).map D.int)) := by
    rw [sliceD_lst, cutD_to]
  have hlt : (row.take M).length = M := by
    rw [List.length_take]
    omega
  have hs1 := sign_ok (row.take M) (by omega)
  have hs2 := lsign_ok (row.take M) (by omega) (List.Sublist.nodup (List.take_sublist _ _) hrd)
  refine th_skip ?_ ?_
  · simp -implicitDefEqProofs [hcut, hs1, hs2, whole_ok, -List.map_take]
  -- first
  generalize hA : sortI (row.take M) = A
  have hAl : A.length = M := by rw [← hA, (sortI_perm _).length_eq, hlt]
  have hAd : A.Nodup := by
    rw [← hA]
    exact (sortI_perm _).nodup_iff.mpr (List.Sublist.nodup (List.take_sublist _ _) hrd)
  refine th_asg (d := .lst (A.map D.int)) ?_ ?_
  · simp -implicitDefEqProofs [hcut, hA, -List.map_take]
  -- start
  refine th_asg (d := .int (M : Int)) rfl ?_
  have hif : ∃ S : Nat, S ≤ N ∧ (ifv (tst (o2 eqD (o2 modD (cbf intD (acons (call_ 2 m__law_cell (acons (DL.get [some (.scr ns), some (.int (N : Int)), some (.lst (row.map D.int)), some (.int (M : Int)), some (.lst (A.map D.int)), some (.int (M : Int)), none, none, none, none, none] 0) (acons (.ok (.int 3)) (.ok [])))) (.ok []))) (.ok (.int 2))) (.ok (.int 1)))) (asg 5 [some (.scr ns), some (.int (N : Int)), some (.lst (row.map D.int)), some (.int (M : Int)), some (.lst (A.map D.int)), some (.int (M : Int)), none, none, none, none, none] (o2 modD (cbf intD (acons (o2 fdivD (call_ 2 m__law_cell (acons (DL.get [some (.scr ns), some (.int (N : Int)), some (.lst (row.map D.int)), some (.int (M : Int)), some (.lst (A.map D.int)), some (.int (M : Int)), none, none, none, none, none] 0) (acons (.ok (.int 3)) (.ok [])))) (.ok (.int 2))) (.ok []))) (o2 addD (DL.get [some (.scr ns), some (.int (N : Int)), some (.lst (row.map D.int)), some (.int (M : Int)), some (.lst (A.map D.int)), some (.int (M : Int)), none, none, none, none, none] 1) (.ok (.int 1))))) (.ok (.nx [some (.scr ns), some (.int (N : Int)), some (.lst (row.map D.int)), some (.int (M : Int)), some (.lst (A.map D.int)), some (.int (M : Int)), none, none, none, none, none]))) =
      .ok (.nx [some (.scr ns), some (.int (N : Int)), some (.lst (row.map D.int)), some (.int (M : Int)), some (.lst (A.map D.int)), some (.int (S : Int)), none, none, none, none, none]) := by
    have h3 : m__law_cell [.scr ns, .int 3] = .ok (.int c3) := h3
    obtain ⟨S, hS, e3⟩ := mod_nat (c3 / 2) (n := N + 1) (by omega)
    by_cases ho : c3 % 2 = 1
    · refine ⟨S, by omega, ?_⟩
      simp -implicitDefEqProofs only [get_succ, get_zero, List.set_cons_succ, List.set_cons_zero, acons_ok, call1, call2, h3, cbf_ok, intD_int, calm_ok, o2_ok, addD_int, md, e3, modD_int (show (0 : Int) < 2 by omega), fdivD_int (show (0 : Int) < 2 ∧ (2 : Int) < 1073741824 by omega), eqD_int, ho, decide_true, tst_ok, ifv_ok, asg_ok, if_true]
    · refine ⟨M, by omega, ?_⟩
      simp -implicitDefEqProofs only [get_succ, get_zero, List.set_cons_succ, List.set_cons_zero, acons_ok, call1, call2, h3, cbf_ok, intD_int, calm_ok, o2_ok, addD_int, md, e3, modD_int (show (0 : Int) < 2 by omega), fdivD_int (show (0 : Int) < 2 ∧ (2 : Int) < 1073741824 by omega), eqD_int, ho, decide_false, tst_ok, ifv_ok, asg_ok, Bool.false_eq_true, if_false]
  obtain ⟨S, hS, hif⟩ := hif
  refine th_nx hif ?_
  -- second
  obtain ⟨T0, hT0, e4⟩ := mod_nat c4 (n := N + 1) (by omega)
  have hcut2 : sliceD (.lst (row.map D.int)) (some (S : Int)) (some ((S : Int) + (T0 : Int))) = .ok (.lst (((row.take (S + T0)).drop S).map D.int)) := by
    rw [sliceD_lst, ← Int.natCast_add, cutD_mid]
  generalize hB : sortI ((row.take (S + T0)).drop S) = B
  have hsub : ((row.take (S + T0)).drop S).Sublist row := (List.drop_sublist _ _).trans (List.take_sublist _ _)
  have hBd : B.Nodup := by
    rw [← hB]
    exact (sortI_perm _).nodup_iff.mpr (hsub.nodup hrd)
  have hBl : B.length ≤ 12 := by
    rw [← hB, (sortI_perm _).length_eq]
    have := hsub.length_le
    omega
  refine th_asg (d := .lst (B.map D.int)) ?_ ?_
  · have h4 : m__law_cell [.scr ns, .int 4] = .ok (.int c4) := h4
    simp -implicitDefEqProofs only [get_succ, get_zero, List.set_cons_succ, List.set_cons_zero, acons_ok, call1, call2, h4, cbf_ok, intD_int, calm_ok, o2_ok, o3_ok, toI_ok, addD_int, md, e4, hcut2, sortedD_lst, hB]
  -- common
  have hc := lcM_map (vs := [9]) (mi := fun r => its (DL.get r 4)) (ag := agV 9) (mt := fun r => (tst (o2 inD (DL.get r 9) (DL.get r 6)))) (me := fun r => DL.get r 9) (ρ := [some (.scr ns), some (.int (N : Int)), some (.lst (row.map D.int)), some (.int (M : Int)), some (.lst (A.map D.int)), some (.int (S : Int)), some (.lst (B.map D.int)), none, none, none, none]) D.int (fun p => decide (p ∈ B)) D.int A rfl (lim63 (by omega)) (fun p hp => ⟨_, rfl, by simp -implicitDefEqProofs, fun _ => rfl⟩)
  generalize hC : A.filter (fun p => decide (p ∈ B)) = C at hc
  refine th_asg hc ?_
  refine th_asg (d := .int 0) rfl ?_
  have hlen : A.length + B.length ≤ 100000 := by omega
  have hmg := merged_ok A B hlen
  have hrm := room_ok (sortI (A ++ B)) (by rw [(sortI_perm _).length_eq, List.length_append]; exact hlen)
  have hadd : addD (.lst (A.map D.int)) (.lst (B.map D.int)) = .ok (.lst ((A ++ B).map D.int)) := by
    rw [addD_lst (by rw [List.length_map, List.length_map]; exact lim63 hlen), List.map_append]
  have hsh := shuffle_ok A B hlen
  have hany : A.any (fun p => decide (p ∈ B)) = !decide ((C.length : Int) = 0) := by
    rw [← hC]
    cases ha : A.any (fun p => decide (p ∈ B)) with
    | true =>
      obtain ⟨p, hp, hpb⟩ := List.any_eq_true.mp ha
      have : p ∈ A.filter fun p => decide (p ∈ B) := List.mem_filter.mpr ⟨hp, hpb⟩
      have := List.length_pos_of_mem this
      rw [decide_eq_false (by omega)]
      rfl
    | false =>
      have : A.filter (fun p => decide (p ∈ B)) = [] := List.filter_eq_nil_iff.mpr fun p hp h => by
        have : A.any (fun p => decide (p ∈ B)) = true := List.any_eq_true.mpr ⟨p, hp, h⟩
        rw [this] at ha
        cases ha
      rw [this]
      rfl
  generalize hdue : (if A.any (fun p => decide (p ∈ B)) then (0 : Int) else sgn (A ++ B)) = due at hsh
  have hif2 : ∀ ρ0 : DL.Env, ρ0 = [some (.scr ns), some (.int (N : Int)), some (.lst (row.map D.int)), some (.int (M : Int)), some (.lst (A.map D.int)), some (.int (S : Int)), some (.lst (B.map D.int)), some (.lst (C.map D.int)), some (.int 0), none, none] → 
      (ifv (tst (o2 eqD (cbf lenD (acons (DL.get ρ0 7) (.ok []))) (.ok (.int 0)))) (then_ (asg 8 ρ0 (call_ 1 m__law_sign (acons (o2 addD (DL.get ρ0 4) (DL.get ρ0 6)) (.ok [])))) (fun r => (ifv (tnot (tst (call_ 2 m__law_room (acons (call_ 2 m_merged (acons (cbf tupleD (acons (DL.get r 4) (.ok []))) (acons (cbf tupleD (acons (DL.get r 6) (.ok []))) (.ok [])))) (acons (cbf sortedD (acons (o2 addD (DL.get r 4) (DL.get r 6)) (.ok []))) (.ok [])))))) (DL.ret (.ok (.bl false))) (.ok (.nx r))))) (.ok (.nx ρ0))) =
      .ok (.nx [some (.scr ns), some (.int (N : Int)), some (.lst (row.map D.int)), some (.int (M : Int)), some (.lst (A.map D.int)), some (.int (S : Int)), some (.lst (B.map D.int)), some (.lst (C.map D.int)), some (.int due), none, none]) := by
    rintro ρ0 rfl
    by_cases h0 : (C.length : Int) = 0
    · rw [hany, decide_eq_true h0] at hdue
      have hdue : sgn (A ++ B) = due := hdue
      have hnd : (A ++ B).Nodup := by
        refine List.nodup_append.mpr ⟨hAd, hBd, fun a ha b hb e => ?_⟩
        have h : A.any (fun p => decide (p ∈ B)) = true := List.any_eq_true.mpr ⟨a, ha, decide_eq_true (e ▸ hb)⟩
        rw [hany, decide_eq_true h0] at h
        cases h
      have hsg := lsign_ok (A ++ B) (by rw [List.length_append]; exact hlen) hnd
      rw [hdue] at hsg
      simp -implicitDefEqProofs only [get_succ, get_zero, List.set_cons_succ, List.set_cons_zero, acons_ok, call1, call2, cbf_ok, calm_ok, o2_ok, lenD_lst, List.length_map, eqD_int, h0, decide_true, tst_ok, ifv_ok, if_true, hadd, hsg, asg_ok, then_nx, tupleD_lst, hmg, sortedD_lst, hrm, tnot_ok, Bool.not_true, Bool.false_eq_true, if_false]
    · rw [hany, decide_eq_false h0] at hdue
      have hdue : (0 : Int) = due := hdue
      rw [← hdue]
      simp -implicitDefEqProofs only [get_succ, get_zero, List.set_cons_succ, List.set_cons_zero, acons_ok, cbf_ok, calm_ok, o2_ok, lenD_lst, List.length_map, eqD_int, h0, decide_false, tst_ok, ifv_ok, Bool.false_eq_true, if_false]
  refine th_nx (hif2 _ rfl) ?_
  refine th_skip ?_ ?_
  · simp -implicitDefEqProofs [hsh, whole_ok]
  -- complement
  have ho2 := outside_ok (ρ := [some (.scr ns), some (.int (N : Int)), some (.lst (row.map D.int)), some (.int (M : Int)), some (.lst (A.map D.int)), some (.int (S : Int)), some (.lst (B.map D.int)), some (.lst (C.map D.int)), some (.int due), none, none]) 9 4 1 N A _ (.inr rfl) (by omega) (by decide) (by show 9 < 11; omega) rfl rfl
  have hol := outs_len N A
  refine th_skip ?_ ?_
  · rw [ho2]
    simp -implicitDefEqProofs [complement_ok N A (by omega), room_ok (outs N A) (by omega)]
  -- faces
  have hf := lcM_all (vs := [10]) (mi := (fun r => (dsp rg1 (acons (DL.get r 3) (.ok []))))) (ag := agV 10) (mt := (fun _ => .ok true)) (me := (fun r => (o2 addD (o3 sliceD (DL.get r 4) (.ok none) (toI (DL.get r 10))) (o3 sliceD (DL.get r 4) (toI (o2 addD (DL.get r 10) (.ok (.int 1)))) (.ok none))))) (ρ := [some (.scr ns), some (.int (N : Int)), some (.lst (row.map D.int)), some (.int (M : Int)), some (.lst (A.map D.int)), some (.int (S : Int)), some (.lst (B.map D.int)), some (.lst (C.map D.int)), some (.int due), none, none]) (fun (p : Nat) => D.int (p : Int)) (fun i => .lst ((face A i).map D.int)) (List.range M)
    (by
      simp -implicitDefEqProofs only [get_succ, get_zero, acons_ok, dsp_ok]
      exact rg1_nat (lim63 (by omega))) (by rw [List.length_range]; exact lim63 (by omega)) (fun i hi => ⟨_, rfl, rfl, by
        simp -implicitDefEqProofs [cutD_to, cutD_from1, face_okL A i (by omega), -List.map_take, -List.map_drop]⟩)
  have hfs := faces_ok A (by omega)
  have hrs := rooms_ok ((List.range M).map (face A)) (by rw [List.length_map, List.length_range]; omega) (fun xs hx => by
    obtain ⟨i, hi, rfl⟩ := List.mem_map.mp hx
    unfold face
    rw [List.length_append, List.length_take, List.length_drop]
    omega)
  rw [List.map_map, List.map_map] at hrs
  rw [hAl] at hfs
  refine th_skip ?_ ?_
  · rw [hf]
    simp -implicitDefEqProofs only [get_succ, get_zero, acons_ok, call1, call2, cbf_ok, calm_ok, tupleD_lst, hfs]
    refine .trans (congrArg (fun z => tnot (tst z)) hrs) rfl
  -- exchanges
  have h5 : m__law_cell [.scr ns, .int 5] = .ok (.int c5) := h5
  refine th_skip ?_ ?_
  · simp -implicitDefEqProofs [h5, exchanges_ok A N c5 (by omega) (by omega)]
  -- subsets
  have h6 : m__law_cell [.scr ns, .int 6] = .ok (.int c6) := h6
  have h7 : m__law_cell [.scr ns, .int 7] = .ok (.int c7) := h7
  obtain ⟨a, ha, e6⟩ := mod_nat c6 (n := 8) (by omega)
  obtain ⟨b, hb, e7⟩ := mod_nat c7 (n := 9) (by omega)
  have hsub := isT_of (subsets_right_all a (List.mem_range.mpr ha) b (List.mem_range.mpr hb))
  have e6 : c6 % 8 = (a : Int) := e6
  have e7 : c7 % 9 = (b : Int) := e7
  refine rt_of ?_
  simp -implicitDefEqProofs [h6, h7, modD_int, e6, e7, hsub]
end Lk00

set_option maxHeartbeats 0 in
theorem PySem.Challenge.cw_neveralone_k00_rooms_and_their_signs_holds : PySem.Challenge.rw_neveralone_k00_rooms_and_their_signs.Holds := by
  w_on; o_law; k_head; (case hw => w_witness2)
  k_fill
  refine L2.walk_of (l := PySem.Challenge.rw_neveralone_k00_rooms_and_their_signs) (n := 63) (k := 4) (x := "_law_script") (CX := fun _ => L2.CX0) (sp := fun w => DL.spLaw _) rfl (by decide) rfl ⟨rfl, by decide, by decide⟩ (fun w h Y => PySem.W.kIn_of Y) ?F (fun _ _ a ns hl _ hS => ⟨a, ns, rfl, hS, hl, fun _ => rfl⟩) (fun _ _ _ _ _ h => h)
  case F =>
    intro w mg fa h KX G hmg
    refine' Lk00.all_mk KX G hmg Lk00.m_law_holds ?a0 ?l0 ?c0 ?k0 ?a1 ?l1 ?c1 ?k1 ?a2 ?l2 ?c2 ?k2 ?a3 ?l3 ?c3 ?k3 ?a4 ?l4 ?c4 ?k4 ?a5 ?l5 ?c5 ?k5 ?a6 ?l6 ?c6 ?k6 ?a7 ?l7 ?c7 ?k7 ?a8 ?l8 ?c8 ?k8 ?a9 ?l9 ?c9 ?k9 ?a10 ?l10 ?c10 ?k10 ?a11 ?l11 ?c11 ?k11 ?a12 ?l12 ?c12 ?k12 ?a13 ?l13 ?c13 ?k13 ?a14 ?l14 ?c14 ?k14 ?a15 ?l15 ?c15 ?k15 ?a16 ?l16 ?c16 ?k16 ?a17 ?l17 ?c17 ?k17 ?z_list ?z_range ?z_int ?z_len ?z_tuple ?z_isinstance ?z_abs ?z_bool ?z_sorted ?z_any
    (case a0 => k_is); (case l0 => k_is); (case c0 => k_is); (case k0 => k_is); (case a1 => k_is); (case l1 => k_is); (case c1 => k_is); (case k1 => k_is); (case a2 => k_is); (case l2 => k_is); (case c2 => k_is); (case k2 => k_is); (case a3 => k_is); (case l3 => k_is); (case c3 => k_is); (case k3 => k_is); (case a4 => k_is); (case l4 => k_is); (case c4 => k_is); (case k4 => k_is); (case a5 => k_is); (case l5 => k_is); (case c5 => k_is); (case k5 => k_is); (case a6 => k_is); (case l6 => k_is); (case c6 => k_is); (case k6 => k_is); (case a7 => k_is); (case l7 => k_is); (case c7 => k_is); (case k7 => k_is); (case a8 => k_is); (case l8 => k_is); (case c8 => k_is); (case k8 => k_is); (case a9 => k_is); (case l9 => k_is); (case c9 => k_is); (case k9 => k_is); (case a10 => k_is); (case l10 => k_is); (case c10 => k_is); (case k10 => k_is); (case a11 => k_is); (case l11 => k_is); (case c11 => k_is); (case k11 => k_is); (case a12 => k_is); (case l12 => k_is); (case c12 => k_is); (case k12 => k_is); (case a13 => k_is); (case l13 => k_is); (case c13 => k_is); (case k13 => k_is); (case a14 => k_is); (case l14 => k_is); (case c14 => k_is); (case k14 => k_is); (case a15 => k_is); (case l15 => k_is); (case c15 => k_is); (case k15 => k_is); (case a16 => k_is); (case l16 => k_is); (case c16 => k_is); (case k16 => k_is); (case a17 => k_is); (case l17 => k_is); (case c17 => k_is); (case k17 => k_is); (case z_list => k_is); (case z_range => k_is); (case z_int => k_is); (case z_len => k_is); (case z_tuple => k_is); (case z_isinstance => k_is); (case z_abs => k_is); (case z_bool => k_is); (case z_sorted => k_is); (case z_any => k_is)
