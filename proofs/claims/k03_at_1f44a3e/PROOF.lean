import PyProof.Rows.All
import Wide.All
import OpenK.AllK
import Wide.FinOn
import KE.KOpsOwn
import HandS.ForMost
import HandS.ForExc
import HandS.Evl
import HandS.IsInst
import HandS.Gcd
import HandS.Wide
import HandS.OwnEq
import HandS.SlotsOwn
import HandS.Defaults
import PySem.Challenge.RW_tracerline_k03_order
set_option Elab.async false
set_option linter.all false
set_option maxRecDepth 100000
set_option maxHeartbeats 4000000
set_option exponentiation.threshold 10000
namespace Trk
open PySem PySem.W PySem.Calls PyProof.Rows
section
variable {prog : Program} {w : World} {A : Around} {E : Value → Shared → Prop} {s : Shared} {K : Frag} {x C dx L f : Addr} {h₀ : Heap} {m : Str → Option Value} {ox : Obj} {od : Option Obj} {n : Int} {t : Tok} {Q : Value → Shared → Prop}

section
variable {M : Model} {R : Fin → Shared → Prop} (ho : s.heap.get? x = some (instObj C dx)) (h : R (.done (.ret .notImplemented)) s)
include ho h
theorem add_no : wpAny M A (Builtin.«int.__add__» ⟨[.int n t, .ref x], []⟩) R E s := by
  obtain ⟨hp, g, d, tk, os⟩ := s
  wp_walk using wpAny_load ho
  exact h
theorem sub_no : wpAny M A (Builtin.«int.__sub__» ⟨[.int n t, .ref x], []⟩) R E s := by
  obtain ⟨hp, g, d, tk, os⟩ := s
  wp_walk using wpAny_load ho
  exact h
theorem mul_no : wpAny M A (Builtin.«int.__mul__» ⟨[.int n t, .ref x], []⟩) R E s := by
  obtain ⟨hp, g, d, tk, os⟩ := s
  wp_walk using wpAny_load ho
  exact h
theorem eq_no : wpAny M A (Builtin.«int.__eq__» ⟨[.int n t, .ref x], []⟩) R E s := by
  obtain ⟨hp, g, d, tk, os⟩ := s
  wp_walk using wpAny_load ho
  exact h
theorem ne_no : wpAny M A (Builtin.«int.__ne__» ⟨[.int n t, .ref x], []⟩) R E s := by
  obtain ⟨hp, g, d, tk, os⟩ := s
  wp_walk using wpAny_load ho
  exact h
theorem lt_no : wpAny M A (Builtin.«int.__lt__» ⟨[.int n t, .ref x], []⟩) R E s := by
  obtain ⟨hp, g, d, tk, os⟩ := s
  wp_walk using wpAny_load ho
  exact h
theorem le_no : wpAny M A (Builtin.«int.__le__» ⟨[.int n t, .ref x], []⟩) R E s := by
  obtain ⟨hp, g, d, tk, os⟩ := s
  wp_walk using wpAny_load ho
  exact h
theorem gt_no : wpAny M A (Builtin.«int.__gt__» ⟨[.int n t, .ref x], []⟩) R E s := by
  obtain ⟨hp, g, d, tk, os⟩ := s
  wp_walk using wpAny_load ho
  exact h
theorem ge_no : wpAny M A (Builtin.«int.__ge__» ⟨[.int n t, .ref x], []⟩) R E s := by
  obtain ⟨hp, g, d, tk, os⟩ := s
  wp_walk using wpAny_load ho
  exact h
end

/-- the slots of int that the four signs use -/
structure IntSlot (nm id : String) (B : Builtin) : Prop where
  slot : Slot "int" (PySem.dunder nm) id
  entry : entryFor table id = some B
  args : ∀ a b : Value, argsOk id ⟨[a, b], []⟩
  no : ∀ (M : Model) (A : Around) (E : Value → Shared → Prop) (s : Shared) (x C dx : Addr) (n : Int) (t : Tok) (R : Fin → Shared → Prop), s.heap.get? x = some (instObj C dx) → R (.done (.ret .notImplemented)) s → wpAny M A (B ⟨[.int n t, .ref x], []⟩) R E s
theorem sAdd : IntSlot "add" "int.__add__" Builtin.«int.__add__» := ⟨F.slot_int_add, F.entry_int_add, F.args_int_add_2, fun _ _ _ _ _ _ _ _ _ _ h q => add_no h q⟩
theorem sSub : IntSlot "sub" "int.__sub__" Builtin.«int.__sub__» := ⟨F.slot_int_sub, F.entry_int_sub, F.args_int_sub_2, fun _ _ _ _ _ _ _ _ _ _ h q => sub_no h q⟩
theorem sMul : IntSlot "mul" "int.__mul__" Builtin.«int.__mul__» := ⟨F.slot_int_mul, F.entry_int_mul, F.args_int_mul_2, fun _ _ _ _ _ _ _ _ _ _ h q => mul_no h q⟩

theorem int_try {nm id : String} {B : Builtin} {R : Option Value → Shared → Prop} (S : IntSlot nm id B) (ho : s.heap.get? x = some (instObj C dx)) (h : R none s) : wpAny (model prog w) A (tryMethod (.int n t) (PySem.dunder nm) (.ref x)) R E s :=
  wpAny_tryMethod_declines (typeIs_int s n t) S.slot (wpAny_call_entry S.slot (typeIs_int s n t) S.entry (S.no _ _ _ _ _ _ _ _ _ _ ho ⟨_, rfl, rfl, h⟩) (S.args _ _))

theorem rbinT {op : Operator} {id : String} {B : Builtin} {fo ro : Option Value} {g : Addr} (S : IntSlot op.info.2 id B) (F : Fr h₀ L s.heap m) (X₀ : K.In h₀) (I : InstAt s.heap x (instObj C dx) C od) (hc : selfFirst K C = true)
    (hs : findIn K (.ref C) (PySem.dunder op.info.2) = some (some (.ref g)))
    (hr : findIn K (.ref C) (dunderR op.info.2) = some (some (.ref f))) (hf : isFn K (.ref f) = true)
    (h1 : findIn K (.type "int") (PySem.dunder op.info.2) = some fo) (h2 : findIn K (.type "int") (dunderR op.info.2) = some ro) (hl : ((fo.isSome && !isSeqSlot fo) || (ro.isSome && !isSeqSlot ro)) = true)
    (hsub : subIn K (.ref C) (.type "int") = some false)
    (h : wpAny (model prog w) A (call (.ref f) [.ref x, .int n t]) (PySem.W.CmpBack Q) E s) : wpAny (model prog w) A (binaryOp op (.int n t) (.ref x)) Q E s := by
  have X := X₀.keeps F.keep
  obtain ⟨cd, rest, hcd, hm⟩ := ksp_first hc
  have two := ksp_try X I hr hf h
  have ho : s.heap.get? x = some (instObj C dx) := I.1
  rcases hi : op.info with ⟨sym, nm'⟩
  rw [hi] at hs hr h1 h2 S two
  dsimp only at hs hr h1 h2 S two
  obtain ⟨hh, gg, d, tt, os⟩ := s
  have L1 : Looks (model prog w) hh (typeOf (.ref x)) (.ref C) := I.type
  have L2 : Looks (model prog w) hh (typeOf (.int n t)) (.type "int") := Looks.of_pure rfl
  have L3 : Looks (model prog w) hh (fillsNumberSlot (.ref C) nm') true := fills_K X hcd hm hs
  have L4 : Looks (model prog w) hh (fillsNumberSlot (.type "int") nm') true := hl ▸ ksp_fillsT X h1 h2
  have L5 : Looks (model prog w) hh (isSubtype (.ref C) (.type "int")) false := looks_subIn X hsub
  have L7 : Looks (model prog w) hh (numberSlotInPython (.type "int") nm') false := Looks.of_pure rfl
  have hne : (Value.type "int" == Value.ref C) = false := Bool.eq_false_iff.mpr fun q => by cases beq_iff_eq.mp q
  simp only [binaryOp, hi]
  refine wpAny_holding (wpAny_bind ?_)
  unfold binaryOp1
  refine wpAny_bind (L2.at (wpAny_bind (L1.at (wpAny_bind (L4.at ?_)))))
  simp only [hne, Bool.false_eq_true, if_false]
  refine wpAny_bind (L3.at ?_)
  simp only [Bool.and_self, if_true]
  refine wpAny_bind (L5.at ?_)
  ksp_lk
  refine int_try S ho ?_
  ksp_lk
  refine wpAny_mono two (fun r s' hr' => ?_) fun _ _ e => e
  obtain ⟨v, rfl, hq⟩ := hr'
  ksp_lk
  exact hq

structure CmpSlot (op : CmpOp) (id : String) (B : Builtin) : Prop where
  slot : Slot "int" (cmpInfo op).2.1 id
  entry : entryFor table id = some B
  args : ∀ a b : Value, argsOk id ⟨[a, b], []⟩
  no : ∀ (M : Model) (A : Around) (E : Value → Shared → Prop) (s : Shared) (x C dx : Addr) (n : Int) (t : Tok) (R : Fin → Shared → Prop), s.heap.get? x = some (instObj C dx) → R (.done (.ret .notImplemented)) s → wpAny M A (B ⟨[.int n t, .ref x], []⟩) R E s
theorem cEq : CmpSlot .Eq "int.__eq__" Builtin.«int.__eq__» := ⟨F.slot_int_eq, F.entry_int_eq, F.args_int_eq_2, fun _ _ _ _ _ _ _ _ _ _ h q => eq_no h q⟩
theorem cNe : CmpSlot .NotEq "int.__ne__" Builtin.«int.__ne__» := ⟨F.slot_int_ne, F.entry_int_ne, F.args_int_ne_2, fun _ _ _ _ _ _ _ _ _ _ h q => ne_no h q⟩
theorem cLt : CmpSlot .Lt "int.__lt__" Builtin.«int.__lt__» := ⟨F.slot_int_lt, F.entry_int_lt, F.args_int_lt_2, fun _ _ _ _ _ _ _ _ _ _ h q => lt_no h q⟩
theorem cLe : CmpSlot .LtE "int.__le__" Builtin.«int.__le__» := ⟨F.slot_int_le, F.entry_int_le, F.args_int_le_2, fun _ _ _ _ _ _ _ _ _ _ h q => le_no h q⟩
theorem cGt : CmpSlot .Gt "int.__gt__" Builtin.«int.__gt__» := ⟨F.slot_int_gt, F.entry_int_gt, F.args_int_gt_2, fun _ _ _ _ _ _ _ _ _ _ h q => gt_no h q⟩
theorem cGe : CmpSlot .GtE "int.__ge__" Builtin.«int.__ge__» := ⟨F.slot_int_ge, F.entry_int_ge, F.args_int_ge_2, fun _ _ _ _ _ _ _ _ _ _ h q => ge_no h q⟩

theorem int_cmp {op : CmpOp} {id : String} {B : Builtin} {R : Option Value → Shared → Prop} (S : CmpSlot op id B) (ho : s.heap.get? x = some (instObj C dx)) (h : R none s) : wpAny (model prog w) A (tryCompare (.int n t) (cmpInfo op).2.1 (.ref x)) R E s :=
  wpAny_tryCompare_declines (typeIs_int s n t) S.slot (wpAny_call_entry S.slot (typeIs_int s n t) S.entry (S.no _ _ _ _ _ _ _ _ _ _ ho ⟨_, rfl, rfl, h⟩) (S.args _ _))

theorem rcmpT {op : CmpOp} {id : String} {B : Builtin} (S : CmpSlot op id B) (hu : A.units < cLine) (F : Fr h₀ L s.heap m) (X₀ : K.In h₀) (I : InstAt s.heap x (instObj C dx) C od)
    (hs : findIn K (.ref C) (cmpInfo op).2.2 = some (some (.ref f))) (hf : isFn K (.ref f) = true) (hsub : subIn K (.ref C) (.type "int") = some false)
    (h : wpAny (model prog w) A (call (.ref f) [.ref x, .int n t]) (PySem.W.CmpBack Q) E s) : wpAny (model prog w) A (richCompare op (.int n t) (.ref x)) Q E s := by
  have X := X₀.keeps F.keep
  have ho : s.heap.get? x = some (instObj C dx) := I.1
  have one : wpAny (model prog w) A (tryCompare (.ref x) (cmpInfo op).2.2 (.int n t)) (fun r s' => ∃ v, r = some v ∧ Q v s') E s := by
    unfold tryCompare
    refine wpAny_bind (ifBound_K X I hs hf (wpAny_mono h (fun v s' hv => ?_) fun _ _ e => e))
    cases v <;> first | exact hv.elim | exact wpAny_pure ⟨_, rfl, hv⟩
  have two := int_cmp (prog := prog) (w := w) (A := A) (E := E) (n := n) (t := t) (R := fun r s' => r = none ∧ s' = s) S ho ⟨rfl, rfl⟩
  have hne : (Value.type "int" != Value.ref C) = true := by
    have e : (Value.type "int" == Value.ref C) = false := Bool.eq_false_iff.mpr fun q => by cases beq_iff_eq.mp q
    show (!(Value.type "int" == Value.ref C)) = true
    rw [e]
    rfl
  have hob : oneThing? op (.int n t) (.ref x) = none := by rfl
  unfold richCompare
  simp only [hob]
  refine wpAny_holding (wpAny_bind (wpAny_cRoomFor hu ?_))
  refine wpAny_bind ((Looks.of_pure (M := model prog w) (h := s.heap) (t := typeOf (.int n t)) (r := .type "int") rfl).here (wpAny_bind (I.type.here ?_)))
  rw [if_pos hne]
  refine wpAny_bind ((looks_subIn X hsub).here ?_)
  simp only [Bool.false_eq_true, if_false]
  refine wpAny_bind (wpAny_mono two (fun r s' z => ?_) fun _ _ e => e)
  obtain ⟨rfl, rfl⟩ := z
  dsimp only
  simp only [Bool.not_false, if_true]
  refine wpAny_bind (wpAny_mono one (fun r s' z => ?_) fun _ _ e => e)
  obtain ⟨v, rfl, hq⟩ := z
  exact wpAny_pure hq
end
end Trk

namespace Trk
open PySem L2 Evl

/-! ### what a value is, whatever its address -/
inductive D where
  | v (x : V)
  | obj (C : Addr) (fs : List (Str × D))
  | lst (xs : List D)
  | tup (xs : List D)
mutual
def Den (K : PySem.W.Frag) (H : Hp) : D → V → Prop
  | .v x, y => y = x
  | .obj C fs, y => ∃ a dx gs, y = .ref a ∧ H a = some (.ins C dx gs) ∧ DenF K H fs gs
  | .lst xs, y => ∃ a ys, y = .ref a ∧ SqL K H a ys ∧ DenL K H xs ys
  | .tup xs, y => ∃ a ys, y = .ref a ∧ SqT K H a ys ∧ DenL K H xs ys
def DenL (K : PySem.W.Frag) (H : Hp) : List D → List V → Prop
  | [], ys => ys = []
  | x :: xs, ys => ∃ z zs, ys = z :: zs ∧ Den K H x z ∧ DenL K H xs zs
def DenF (K : PySem.W.Frag) (H : Hp) : List (Str × D) → List (Str × V) → Prop
  | [], ys => ys = []
  | (f, x) :: xs, ys => ∃ z zs, ys = (f, z) :: zs ∧ Den K H x z ∧ DenF K H xs zs
end
section
variable {K : PySem.W.Frag} {H H' : Hp}
mutual
theorem Den.mono (e : Ex H H') : ∀ {d : D} {y : V}, Den K H d y → Den K H' d y
  | .v x, y, h => by
    simp only [Den] at h ⊢
    exact h
  | .obj C fs, y, h => by
    simp only [Den] at h ⊢
    obtain ⟨a, dx, gs, h1, h2, h3⟩ := h
    exact ⟨a, dx, gs, h1, e _ _ h2, DenF.mono e h3⟩
  | .lst xs, y, h => by
    simp only [Den] at h ⊢
    obtain ⟨a, ys, h1, h2, h3⟩ := h
    exact ⟨a, ys, h1, ex_l e h2, DenL.mono e h3⟩
  | .tup xs, y, h => by
    simp only [Den] at h ⊢
    obtain ⟨a, ys, h1, h2, h3⟩ := h
    exact ⟨a, ys, h1, ex_t e h2, DenL.mono e h3⟩
theorem DenL.mono (e : Ex H H') : ∀ {ds : List D} {ys : List V}, DenL K H ds ys → DenL K H' ds ys
  | [], ys, h => by
    simp only [DenL] at h ⊢
    exact h
  | x :: xs, ys, h => by
    simp only [DenL] at h ⊢
    obtain ⟨z, zs, h1, h2, h3⟩ := h
    exact ⟨z, zs, h1, Den.mono e h2, DenL.mono e h3⟩
theorem DenF.mono (e : Ex H H') : ∀ {ds : List (Str × D)} {ys : List (Str × V)}, DenF K H ds ys → DenF K H' ds ys
  | [], ys, h => by
    simp only [DenF] at h ⊢
    exact h
  | (f, x) :: xs, ys, h => by
    simp only [DenF] at h ⊢
    obtain ⟨z, zs, h1, h2, h3⟩ := h
    exact ⟨z, zs, h1, Den.mono e h2, DenF.mono e h3⟩
end
theorem den_v {x y : V} : Den K H (.v x) y ↔ y = x := by simp only [Den]
theorem DenL.cons {d : D} {ds : List D} {x : V} {xs : List V} (h : Den K H d x) (t : DenL K H ds xs) : DenL K H (d :: ds) (x :: xs) := by
  simp only [DenL]
  exact ⟨x, xs, rfl, h, t⟩
theorem DenL.nil : DenL K H [] [] := by simp only [DenL]
theorem DenL.len : ∀ {ds : List D} {ys : List V}, DenL K H ds ys → ds.length = ys.length
  | [], ys, h => by
    simp only [DenL] at h
    subst h
    rfl
  | x :: xs, ys, h => by
    simp only [DenL] at h
    obtain ⟨z, zs, h1, h2, h3⟩ := h
    rw [h1, List.length_cons, List.length_cons, DenL.len h3]
theorem DenL.get : ∀ {ds : List D} {ys : List V} {i : Nat} {d : D}, DenL K H ds ys → ds[i]? = some d → ∃ y, ys[i]? = some y ∧ Den K H d y
  | [], ys, i, d, h, e => by simp at e
  | x :: xs, ys, 0, d, h, e => by
    simp only [DenL] at h
    obtain ⟨z, zs, h1, h2, h3⟩ := h
    subst h1
    simp at e
    subst e
    exact ⟨z, by simp, h2⟩
  | x :: xs, ys, i + 1, d, h, e => by
    simp only [DenL] at h
    obtain ⟨z, zs, h1, h2, h3⟩ := h
    subst h1
    obtain ⟨y, h4, h5⟩ := DenL.get (i := i) (d := d) h3 (by simpa using e)
    exact ⟨y, by simpa using h4, h5⟩
theorem denL_two {d e : D} {ys : List V} (h : DenL K H [d, e] ys) : ∃ x y, ys = [x, y] ∧ Den K H d x ∧ Den K H e y := by
  simp only [DenL] at h
  obtain ⟨x, _, rfl, h1, y, _, rfl, h2, rfl⟩ := h
  exact ⟨x, y, rfl, h1, h2⟩
theorem denL_one {d : D} {ys : List V} (h : DenL K H [d] ys) : ∃ x, ys = [x] ∧ Den K H d x := by
  simp only [DenL] at h
  obtain ⟨x, _, rfl, h1, rfl⟩ := h
  exact ⟨x, rfl, h1⟩
end

/-! ### slots -/
abbrev Gm := List (Option D)
def Ctx (K : PySem.W.Frag) (H : Hp) (Γ : Gm) (σ : L2.St) : Prop := ∀ (i : Nat) (d : D), Γ[i]? = some (some d) → ∃ v, σ[i]? = some (some v) ∧ Den K H d v
theorem Ctx.mono {K : PySem.W.Frag} {H H' : Hp} {Γ : Gm} {σ : L2.St} (e : Ex H H') (c : Ctx K H Γ σ) : Ctx K H' Γ σ := fun i d h => by
  obtain ⟨v, h1, h2⟩ := c i d h
  exact ⟨v, h1, h2.mono e⟩
theorem Ctx.set {K : PySem.W.Frag} {H : Hp} {Γ : Gm} {σ : L2.St} {i : Nat} {d : D} {v : V} (c : Ctx K H Γ σ) (hi : i < σ.length) (h : Den K H d v) : Ctx K H (Γ.set i (some d)) (σ.set i (some v)) := fun j d' e => by
  by_cases hj : i = j
  · subst hj
    rw [List.getElem?_set] at e
    simp only [if_true] at e
    split at e
    · cases Option.some.inj (Option.some.inj e)
      exact ⟨v, List.getElem?_set_self hi, h⟩
    · cases e
  · rw [List.getElem?_set_ne hj] at e
    obtain ⟨w, h1, h2⟩ := c j d' e
    exact ⟨w, by rw [List.getElem?_set_ne hj]; exact h1, h2⟩

/-! ### the judgements -/
section
variable (X : Cx)
def ED (e : Expr) (Γ : Gm) (d : D) : Prop := ∃ t, PE X e t ∧ ∀ σ H, Ctx X.K H Γ σ → ∀ Q : VK, (∀ v H', Ex H H' → Den X.K H' d v → Q v H') → t σ H Q
def TD (e : Expr) (Γ : Gm) (b : Bool) : Prop := ∃ t, PT X e t ∧ ∀ σ H, Ctx X.K H Γ σ → ∀ Q : Bool → Hp → Prop, (∀ H', Ex H H' → Q b H') → t σ H Q
def WD (e : Expr) (Γ : Gm) (b : Bool) : Prop := ∃ t, PW X e t ∧ ∀ σ H, Ctx X.K H Γ σ → ∀ Q : Bool → Hp → Prop, (∀ H', Ex H H' → Q b H') → t σ H Q
def AD (es : List Expr) (Γ : Gm) (ds : List D) : Prop := ∃ t, PA X es t ∧ ∀ σ H, Ctx X.K H Γ σ → ∀ Q : List V → Hp → Prop, (∀ vs H', Ex H H' → DenL X.K H' ds vs → Q vs H') → t σ H Q
end
inductive Out where
  | nx (Γ : Gm)
  | rt (d : D)
  | bk (Γ : Gm)
  | ct (Γ : Gm)
/-- where the ends take what Φ says -/
structure Takes (K : PySem.W.Frag) (H : Hp) (n : Nat) (Φ : Out → Prop) (E : Ends) : Prop where
  nx : ∀ Γ σ H', Φ (.nx Γ) → Ex H H' → σ.length = n → Ctx K H' Γ σ → E.nx σ H'
  rt : ∀ d v H', Φ (.rt d) → Ex H H' → Den K H' d v → E.rt v H'
  bk : ∀ Γ σ H', Φ (.bk Γ) → Ex H H' → σ.length = n → Ctx K H' Γ σ → E.bk σ H'
  ct : ∀ Γ σ H', Φ (.ct Γ) → Ex H H' → σ.length = n → Ctx K H' Γ σ → E.ct σ H'
theorem Takes.mono {K : PySem.W.Frag} {H H' : Hp} {n : Nat} {Φ : Out → Prop} {E : Ends} (e : Ex H H') (t : Takes K H n Φ E) : Takes K H' n Φ E :=
  ⟨fun Γ σ H2 h e2 => t.nx Γ σ H2 h (e.trans e2), fun d v H2 h e2 => t.rt d v H2 h (e.trans e2), fun Γ σ H2 h e2 => t.bk Γ σ H2 h (e.trans e2), fun Γ σ H2 h e2 => t.ct Γ σ H2 h (e.trans e2)⟩
section
variable (X : Cx)
def SD (st : Stmt) (Γ : Gm) (Φ : Out → Prop) : Prop := ∃ t, PS X st t ∧ ∀ σ H, σ.length = X.N.length → Ctx X.K H Γ σ → ∀ E : Ends, Takes X.K H X.N.length Φ E → t E σ H
def SsD (st : List Stmt) (Γ : Gm) (Φ : Out → Prop) : Prop := ∃ t, PSs X st t ∧ ∀ σ H, σ.length = X.N.length → Ctx X.K H Γ σ → ∀ E : Ends, Takes X.K H X.N.length Φ E → t E σ H
end

section
variable {X : Cx} {Γ : Gm} {d d1 d2 : D} {e a b c : Expr} {es : List Expr} {pos : Pos} {st : Stmt} {sts rest : List Stmt} {Φ Ψ : Out → Prop}

/-! ### expressions -/
theorem ed_var (i : Nat) {x : Str} (h : Γ[i]? = some (some d)) (hN : X.N[i]? = some x := by rfl) (hv : Vis X.env.scope x := by first | exact Or.inl rfl | exact Or.inr (Or.inl rfl) | exact Or.inr (Or.inr rfl)) (hd : (x == ("__debug__" : Str)) = false := by decide)
    (hcd : (x == ("__classdict__" : Str)) = false := by decide) : ED X (.Name x pos) Γ d := by
  refine ⟨_, pe_var hN hv hd hcd, fun σ H C Q q => ?_⟩
  obtain ⟨v, h1, h2⟩ := C i d h
  exact ⟨v, h1, q v H (Ex.refl H) h2⟩
theorem ed_int {n : Int} {j : Nat} : ED X (.Constant (.int n) j pos) Γ (.v (.int n)) := ⟨_, pe_int, fun σ H C Q q => q _ H (Ex.refl H) (den_v.mpr rfl)⟩
theorem ed_bl {n : Bool} {j : Nat} : ED X (.Constant (.bool n) j pos) Γ (.v (.bl n)) := ⟨_, pe_bl, fun σ H C Q q => q _ H (Ex.refl H) (den_v.mpr rfl)⟩
theorem ed_non {j : Nat} : ED X (.Constant .none j pos) Γ (.v .non) := ⟨_, pe_non, fun σ H C Q q => q _ H (Ex.refl H) (den_v.mpr rfl)⟩
theorem ed_str {x : Str} {j : Nat} : ED X (.Constant (.str x) j pos) Γ (.v (.str x)) := ⟨_, pe_str, fun σ H C Q q => q _ H (Ex.refl H) (den_v.mpr rfl)⟩
theorem ed_is (h : ED X e Γ d1) (q : d1 = d) : ED X e Γ d := q ▸ h

/-- what an operation by values gives -/
def RD (K : PySem.W.Frag) (r : R2) (d1 d2 d : D) : Prop := ∀ x y H, Den K H d1 x → Den K H d2 y → ∀ Q : VK, (∀ v H', Ex H H' → Den K H' d v → Q v H') → r x y H Q
def UD (K : PySem.W.Frag) (r : V → Hp → VK → Prop) (d1 d : D) : Prop := ∀ x H, Den K H d1 x → ∀ Q : VK, (∀ v H', Ex H H' → Den K H' d v → Q v H') → r x H Q
def CD (K : PySem.W.Frag) (r : List V → Hp → VK → Prop) (ds : List D) (d : D) : Prop := ∀ xs H, DenL K H ds xs → ∀ Q : VK, (∀ v H', Ex H H' → Den K H' d v → Q v H') → r xs H Q
theorem ed_op {op : Operator} {r : R2} (ho : OpR X (binaryOp op) r) (ha : ED X a Γ d1) (hb : ED X b Γ d2) (hr : RD X.K r d1 d2 d) : ED X (.BinOp a op b pos) Γ d := by
  obtain ⟨ta, pa, qa⟩ := ha
  obtain ⟨tb, pb, qb⟩ := hb
  refine ⟨_, pe_op ho pa pb, fun σ H C Q q => qa σ H C _ fun x H1 e1 h1 => qb σ H1 (C.mono e1) _ fun y H2 e2 h2 => hr x y H2 (h1.mono e2) h2 _ fun v H3 e3 h3 => q v H3 ((e1.trans e2).trans e3) h3⟩
theorem ed_cmp {op : CmpOp} {r : R2} (ho : OpR X (compareOp op) r) (ha : ED X a Γ d1) (hb : ED X b Γ d2) (hr : RD X.K r d1 d2 d) (hm : behindInMarks op b = false := by exact nomark _) : ED X (.Compare a [op] [b] pos) Γ d := by
  obtain ⟨ta, pa, qa⟩ := ha
  obtain ⟨tb, pb, qb⟩ := hb
  refine ⟨_, pe_cmpR ho pa pb hm, fun σ H C Q q => qa σ H C _ fun x H1 e1 h1 => qb σ H1 (C.mono e1) _ fun y H2 e2 h2 => hr x y H2 (h1.mono e2) h2 _ fun v H3 e3 h3 => q v H3 ((e1.trans e2).trans e3) h3⟩
theorem td_cmp {op : CmpOp} {r : R2} {k : Bool} (ho : OpR X (compareOp op) r) (ha : ED X a Γ d1) (hb : ED X b Γ d2) (hr : RD X.K r d1 d2 (.v (.bl k))) (hm : behindInMarks op b = false := by exact nomark _) : TD X (.Compare a [op] [b] pos) Γ k := by
  obtain ⟨ta, pa, qa⟩ := ha
  obtain ⟨tb, pb, qb⟩ := hb
  refine ⟨_, pt_cmpR ho pa pb hm, fun σ H C Q q => qa σ H C _ fun x H1 e1 h1 => qb σ H1 (C.mono e1) _ fun y H2 e2 h2 => hr x y H2 (h1.mono e2) h2 _ fun v H3 e3 h3 => ⟨k, den_v.mp h3, q H3 ((e1.trans e2).trans e3)⟩⟩
theorem ed_un {op : UnaryOp} {r : V → Hp → VK → Prop} (ho : UnR X (unaryOp op) r) (ha : ED X a Γ d1) (hr : UD X.K r d1 d) : ED X (.UnaryOp op a pos) Γ d := by
  obtain ⟨ta, pa, qa⟩ := ha
  exact ⟨_, pe_un ho pa, fun σ H C Q q => qa σ H C _ fun x H1 e1 h1 => hr x H1 h1 _ fun v H3 e3 h3 => q v H3 (e1.trans e3) h3⟩

section
variable {K : PySem.W.Frag} {i j : Int}
theorem rd_I0 {g : Int → Int → V} : RD K (rI0 g) (.v (.int i)) (.v (.int j)) (.v (g i j)) := fun x y H h1 h2 Q q => ⟨i, j, den_v.mp h1, den_v.mp h2, q _ H (Ex.refl H) (den_v.mpr rfl)⟩
theorem rd_I {C : Int → Int → Prop} {g : Int → Int → V} (hc : C i j) : RD K (rI C g) (.v (.int i)) (.v (.int j)) (.v (g i j)) := fun x y H h1 h2 Q q => ⟨i, j, den_v.mp h1, den_v.mp h2, hc, q _ H (Ex.refl H) (den_v.mpr rfl)⟩
theorem ud_neg : UD K (rU fun i => .int (-i)) (.v (.int i)) (.v (.int (-i))) := fun x H h1 Q q => ⟨i, den_v.mp h1, q _ H (Ex.refl H) (den_v.mpr rfl)⟩
theorem rd_eq {x y : V} (h : scal x y = true) : RD K rEq (.v x) (.v y) (.v (.bl (decide (x = y)))) := fun a b H h1 h2 Q q => by
  rw [den_v.mp h1, den_v.mp h2]
  exact ⟨h, q _ H (Ex.refl H) (den_v.mpr rfl)⟩
theorem rd_ne {x y : V} (h : scal x y = true) : RD K rNe (.v x) (.v y) (.v (.bl (!decide (x = y)))) := fun a b H h1 h2 Q q => by
  rw [den_v.mp h1, den_v.mp h2]
  exact ⟨h, q _ H (Ex.refl H) (den_v.mpr rfl)⟩
end

/-! ### tests -/
theorem td_val {b : Bool} (h : ED X e Γ (.v (.bl b))) (he : ∀ whole, isTrue e X.env whole = (do let v ← whole; standAt e.pos; holding [v] (truthy v)) := by intro _; rfl) : TD X e Γ b := by
  obtain ⟨t, p, q⟩ := h
  exact ⟨_, pt_val p he, fun σ H C Q k => q σ H C _ fun v H1 e1 h1 => ⟨b, den_v.mp h1, k H1 e1⟩⟩
theorem td_not {k : Bool} (h : TD X a Γ k) : TD X (.UnaryOp .Not a pos) Γ (!k) := by
  obtain ⟨t, p, q⟩ := h
  exact ⟨_, pt_not p, fun σ H C Q r => q σ H C _ fun H1 e1 => r H1 e1⟩
theorem wd_and1 {k : Bool} (h : TD X a Γ k) : WD X (.BoolOp .And [a] pos) Γ k := by
  obtain ⟨t, p, q⟩ := h
  exact ⟨_, pw_and1 p, q⟩
theorem wd_or1 {k : Bool} (h : TD X a Γ k) : WD X (.BoolOp .Or [a] pos) Γ k := by
  obtain ⟨t, p, q⟩ := h
  exact ⟨_, pw_or1 p, q⟩
theorem pw_never : PW X e (fun _ _ _ => False) := ⟨fun _ _ _ _ _ _ _ h => h.elim⟩
theorem pt_never : PT X e (fun _ _ _ => False) := ⟨fun _ _ _ _ _ _ h => h.elim⟩
theorem pe_never : PE X e (fun _ _ _ => False) := ⟨fun _ _ _ _ _ _ h => h.elim⟩
theorem pss_nv : PSs X sts (fun _ _ _ => False) := ⟨fun _ _ _ _ _ _ h => h.elim⟩
theorem ps_nv : PS X st (fun _ _ _ => False) := ⟨fun _ _ _ _ _ _ h => h.elim⟩
/-- a and ..: a False -/
theorem wd_andF (h : TD X a Γ false) : WD X (.BoolOp .And (a :: b :: es) pos) Γ false := by
  obtain ⟨t, p, q⟩ := h
  exact ⟨_, pw_and p pw_never, fun σ H C Q r => q σ H C _ fun H1 e1 => r H1 e1⟩
theorem wd_andT {k : Bool} (h : TD X a Γ true) (h2 : WD X (.BoolOp .And (b :: es) pos) Γ k) : WD X (.BoolOp .And (a :: b :: es) pos) Γ k := by
  obtain ⟨t, p, q⟩ := h
  obtain ⟨t2, p2, q2⟩ := h2
  exact ⟨_, pw_and p p2, fun σ H C Q r => q σ H C _ fun H1 e1 => q2 σ H1 (C.mono e1) Q fun H2 e2 => r H2 (e1.trans e2)⟩
theorem wd_orT (h : TD X a Γ true) : WD X (.BoolOp .Or (a :: b :: es) pos) Γ true := by
  obtain ⟨t, p, q⟩ := h
  exact ⟨_, pw_or p pw_never, fun σ H C Q r => q σ H C _ fun H1 e1 => r H1 e1⟩
theorem wd_orF {k : Bool} (h : TD X a Γ false) (h2 : WD X (.BoolOp .Or (b :: es) pos) Γ k) : WD X (.BoolOp .Or (a :: b :: es) pos) Γ k := by
  obtain ⟨t, p, q⟩ := h
  obtain ⟨t2, p2, q2⟩ := h2
  exact ⟨_, pw_or p p2, fun σ H C Q r => q σ H C _ fun H1 e1 => q2 σ H1 (C.mono e1) Q fun H2 e2 => r H2 (e1.trans e2)⟩
theorem WD.td {k : Bool} (h : WD X e Γ k) : TD X e Γ k := by
  obtain ⟨t, p, q⟩ := h
  exact ⟨t, p.pt, q⟩
/-- and, or, not as values -/
theorem ed_not {k : Bool} (h : ED X a Γ (.v (.bl k))) : ED X (.UnaryOp .Not a pos) Γ (.v (.bl (!k))) := by
  obtain ⟨t, p, q⟩ := h
  exact ⟨_, pe_not p, fun σ H C Q r => q σ H C _ fun v H1 e1 h1 => ⟨k, den_v.mp h1, r _ H1 e1 (den_v.mpr rfl)⟩⟩
theorem ed_one {op} (h : ED X a Γ d) : ED X (.BoolOp op [a] pos) Γ d := by
  obtain ⟨t, p, q⟩ := h
  exact ⟨_, pe_one p, q⟩
theorem ed_andT {d : D} (h : ED X a Γ (.v (.bl true))) (h2 : ED X (.BoolOp .And (b :: es) pos) Γ d) : ED X (.BoolOp .And (a :: b :: es) pos) Γ d := by
  obtain ⟨t, p, q⟩ := h
  obtain ⟨t2, p2, q2⟩ := h2
  exact ⟨_, pe_and p p2, fun σ H C Q r => q σ H C _ fun v H1 e1 h1 => ⟨true, den_v.mp h1, q2 σ H1 (C.mono e1) Q fun w H2 e2 h3 => r w H2 (e1.trans e2) h3⟩⟩
theorem ed_andF (h : ED X a Γ (.v (.bl false))) : ED X (.BoolOp .And (a :: b :: es) pos) Γ (.v (.bl false)) := by
  obtain ⟨t, p, q⟩ := h
  exact ⟨_, pe_and p pe_never, fun σ H C Q r => q σ H C _ fun v H1 e1 h1 => ⟨false, den_v.mp h1, r _ H1 e1 (den_v.mpr rfl)⟩⟩
theorem ed_orF {d : D} (h : ED X a Γ (.v (.bl false))) (h2 : ED X (.BoolOp .Or (b :: es) pos) Γ d) : ED X (.BoolOp .Or (a :: b :: es) pos) Γ d := by
  obtain ⟨t, p, q⟩ := h
  obtain ⟨t2, p2, q2⟩ := h2
  exact ⟨_, pe_or p p2, fun σ H C Q r => q σ H C _ fun v H1 e1 h1 => ⟨false, den_v.mp h1, q2 σ H1 (C.mono e1) Q fun w H2 e2 h3 => r w H2 (e1.trans e2) h3⟩⟩
theorem ed_orT (h : ED X a Γ (.v (.bl true))) : ED X (.BoolOp .Or (a :: b :: es) pos) Γ (.v (.bl true)) := by
  obtain ⟨t, p, q⟩ := h
  exact ⟨_, pe_or p pe_never, fun σ H C Q r => q σ H C _ fun v H1 e1 h1 => ⟨true, den_v.mp h1, r _ H1 e1 (den_v.mpr rfl)⟩⟩

/-! ### arguments, displays, calls -/
theorem ad_nil : AD X [] Γ [] := ⟨_, pa_nil, fun σ H C Q r => r [] H (Ex.refl H) DenL.nil⟩
theorem ad_cons {ds : List D} (h : ED X e Γ d) (h2 : AD X es Γ ds) (hs : starEach (e :: es) X.env = (false, eval e X.env) :: starEach es X.env := by rfl) : AD X (e :: es) Γ (d :: ds) := by
  obtain ⟨t, p, q⟩ := h
  obtain ⟨t2, p2, q2⟩ := h2
  exact ⟨_, pa_cons p p2 hs, fun σ H C Q r => q σ H C _ fun v H1 e1 h1 => q2 σ H1 (C.mono e1) _ fun vs H2 e2 h2 => r _ H2 (e1.trans e2) (DenL.cons (h1.mono e2) h2)⟩
theorem ed_lst {ds : List D} (h : AD X es Γ ds) (hl : ds.length ≤ 100000 := by exact Nat.le_of_ble_eq_true rfl) : ED X (.List es pos) Γ (.lst ds) := by
  obtain ⟨t, p, q⟩ := h
  refine ⟨_, pe_lst p, fun σ H C Q r => q σ H C _ fun vs H1 e1 h1 => ⟨by rw [← h1.len]; exact sz_of hl, fun l hn => ?_⟩⟩
  refine r (.ref l) _ (e1.trans (Ex.new hn)) ?_
  simp only [Den]
  exact ⟨l, vs, rfl, sq_of upd_same, h1.mono (Ex.new hn)⟩
theorem ed_tup {ds : List D} {x1} (h : AD X es Γ ds) (hl : ds.length ≤ 100000 := by exact Nat.le_of_ble_eq_true rfl) : ED X (.Tuple es x1 pos) Γ (.tup ds) := by
  obtain ⟨t, p, q⟩ := h
  refine ⟨_, pe_tup p, fun σ H C Q r => q σ H C _ fun vs H1 e1 h1 => ⟨by rw [← h1.len]; exact sz_of hl, fun l hn => ?_⟩⟩
  refine r (.ref l) _ (e1.trans (Ex.new hn)) ?_
  simp only [Den]
  exact ⟨l, vs, rfl, st_of upd_same, h1.mono (Ex.new hn)⟩
/-- the promise of a def that only makes things: from such arguments such a result -/
def spD (K : PySem.W.Frag) (n : Nat) (R : List D → D → Prop) : Sp := fun vs H Q _ => ∃ ds d, ds.length = n ∧ DenL K H ds vs ∧ R ds d ∧ ∀ v H', Ex H H' → Den K H' d v → Q v H'
theorem spD_len {K : PySem.W.Frag} {n : Nat} {R : List D → D → Prop} {vs : List V} {H : Hp} {Q : VK} {E : XK} (h : spD K n R vs H Q E) : vs.length = n := by
  obtain ⟨ds, d, h1, h2, _⟩ := h
  rw [← h2.len, h1]
theorem ed_call {CX : CXT} {k n : Nat} {f : Addr} {fd : FuncData} {ps : List Str} {R : List D → D → Prop} {E : XK} {x : Str} {p : Pos} {ds : List D} (F : FnOk X.prog X.w X.K X.mg X.base CX k f fd ps (spD X.K n R)) (hr : Room k X.A) (hm : X.mg x = some (.ref f))
    (hk : PySem.W.keepIn X.K (.ref f) = true) (hb : Binds X.K fd ps []) (hx : Passes CX X E) (ha : AD X (e :: es) Γ ds) (hR : R ds d) (hn : ds.length = n := by rfl) (hg : Gl X x := by rfl) (hdb : (x == ("__debug__" : Str)) = false := by decide)
    (he : starEach (e :: es) X.env = (false, eval e X.env) :: starEach es X.env := by rfl) (hpl : (backTo pos (starEach es X.env)).any (·.1) = false := by rfl) : ED X (.Call (.Name x p) (e :: es) [] pos) Γ d := by
  obtain ⟨t, p, q⟩ := ha
  refine ⟨_, pe_call F hr hg hm hk hb .nil hx p hdb he hpl, fun σ H C Q r => q σ H C _ fun vs H1 e1 h1 => ?_⟩
  rw [List.append_nil]
  exact ⟨ds, d, hn, h1, hR, fun v H' e2 h2 => r v H' (e1.trans e2) h2⟩
/-- a built-in called by its name -/
theorem ed_callB {r : List V → Hp → VK → Prop} {id : String} {x : Str} {p : Pos} {ds : List D} (hc : CallR X (.builtin id) r) (hm : X.mg x = none) (hv : bootBuiltins x = some (.builtin id)) (ha : AD X (e :: es) Γ ds) (hr : CD X.K r ds d) (hg : Gl X x := by rfl)
    (hn : x ≠ "__name__" := by decide) (hdb : (x == ("__debug__" : Str)) = false := by decide) (he : starEach (e :: es) X.env = (false, eval e X.env) :: starEach es X.env := by rfl) (hpl : (backTo pos (starEach es X.env)).any (·.1) = false := by rfl) :
    ED X (.Call (.Name x p) (e :: es) [] pos) Γ d := by
  obtain ⟨t, p, q⟩ := ha
  exact ⟨_, pe_callB hc hg hm hv p hn hdb he hpl, fun σ H C Q k => q σ H C _ fun vs H1 e1 h1 => hr vs H1 h1 Q fun v H' e2 h2 => k v H' (e1.trans e2) h2⟩
theorem ed_callTy {r : List V → Hp → VK → Prop} {T : String} {x : Str} {p : Pos} {ds : List D} (hc : CallR X (.type T) r) (hm : X.mg x = none) (hv : bootBuiltins x = some (.type T)) (ha : AD X (e :: es) Γ ds) (hr : CD X.K r ds d) (hg : Gl X x := by rfl)
    (hn : x ≠ "__name__" := by decide) (hdb : (x == ("__debug__" : Str)) = false := by decide) (he : starEach (e :: es) X.env = (false, eval e X.env) :: starEach es X.env := by rfl) (hpl : (backTo pos (starEach es X.env)).any (·.1) = false := by rfl) :
    ED X (.Call (.Name x p) (e :: es) [] pos) Γ d := by
  obtain ⟨t, p, q⟩ := ha
  exact ⟨_, pe_callTy hc hg hm hv p hn hdb he hpl, fun σ H C Q k => q σ H C _ fun vs H1 e1 h1 => hr vs H1 h1 Q fun v H' e2 h2 => k v H' (e1.trans e2) h2⟩
theorem lookup_put {β : Type} (f g : Str) (y : β) (fs : List (Str × β)) : ((f, y) :: fs).lookup g = if g = f then some y else fs.lookup g := by
  by_cases h : g = f
  · subst h
    simp [List.lookup]
  · have e : (g == f) = false := by simpa using h
    rw [if_neg h]
    simp [List.lookup, e]
/-- o.f -/
theorem ed_fld {C : Addr} {fs : List (Str × D)} {f : Str} {p : Pos} (h : ED X e Γ (.obj C fs)) (hc : Cls X.K C) (hn : NoAttr X.K C f) (hl : fs.lookup f = some d) (hb : attributeBase e f X.env (eval e X.env) = eval e X.env := by rfl) : ED X (.Attribute e f p) Γ d := by
  obtain ⟨t, p, q⟩ := h
  refine ⟨_, pe_fld p hb, fun σ H C Q k => q σ H C _ fun v H1 e1 h1 => ?_⟩
  simp only [Den] at h1
  obtain ⟨a, dx, gs, rfl, h2, h3⟩ := h1
  have key : ∀ {fs : List (Str × D)} {gs : List (Str × V)}, DenF X.K H1 fs gs → fs.lookup f = some d → ∃ y, gs.lookup f = some y ∧ Den X.K H1 d y := by
    intro fs
    induction fs with
    | nil =>
      intro gs _ h
      cases h
    | cons p r ih =>
      intro gs hF hl
      obtain ⟨g, x⟩ := p
      simp only [DenF] at hF
      obtain ⟨z, zs, rfl, hz, hzs⟩ := hF
      rw [lookup_put] at hl ⊢
      by_cases hfg : f = g
      · rw [if_pos hfg] at hl ⊢
        cases hl
        exact ⟨z, rfl, hz⟩
      · rw [if_neg hfg] at hl ⊢
        exact ih hzs hl
  obtain ⟨y, h4, h5⟩ := key h3 hl
  exact ⟨a, _, dx, gs, y, rfl, h2, hc, hn, h4, k y H1 e1 h5⟩

/-! ### statements -/
theorem ss_nil (h : Φ (.nx Γ)) : SsD X [] Γ Φ := ⟨_, pss_nil, fun σ H hl C E T => T.nx Γ σ H h (Ex.refl H) hl C⟩
theorem Takes.imp {K : PySem.W.Frag} {H : Hp} {n : Nat} {E : Ends} (h : ∀ o, Ψ o → Φ o) (t : Takes K H n Φ E) : Takes K H n Ψ E :=
  ⟨fun Γ σ H2 z => t.nx Γ σ H2 (h _ z), fun d v H2 z => t.rt d v H2 (h _ z), fun Γ σ H2 z => t.bk Γ σ H2 (h _ z), fun Γ σ H2 z => t.ct Γ σ H2 (h _ z)⟩
/-- a statement, then the rest -/
theorem ss_seq (h : SD X st Γ Ψ) (hn : ∀ Γ', Ψ (.nx Γ') → SsD X sts Γ' Φ) (ho : ∀ o, (∀ Γ', o ≠ .nx Γ') → Ψ o → Φ o) : SsD X (st :: sts) Γ Φ := by
  obtain ⟨t, p, q⟩ := h
  by_cases hs : ∃ Γ', Ψ (.nx Γ')
  · let u : TS := fun E σ H => ∃ Γ', Ψ (.nx Γ') ∧ σ.length = X.N.length ∧ Ctx X.K H Γ' σ ∧ Takes X.K H X.N.length Φ E
    have pu : PSs X sts u := ⟨fun pins s σ H E I ⟨Γ', h1, h2, h3, h4⟩ => by
      obtain ⟨t', p', q'⟩ := hn Γ' h1
      exact p'.run pins s σ H E I (q' σ H h2 h3 E h4)⟩
    refine ⟨_, pss_cons p pu, fun σ H hl C E T => q σ H hl C _ ⟨fun Γ' σ' H' h1 e1 h2 h3 => ⟨Γ', h1, h2, h3, T.mono e1⟩, fun d v H' h1 => T.rt d v H' (ho _ (fun _ z => by cases z) h1), fun Γ' σ' H' h1 => T.bk Γ' σ' H' (ho _ (fun _ z => by cases z) h1), fun Γ' σ' H' h1 => T.ct Γ' σ' H' (ho _ (fun _ z => by cases z) h1)⟩⟩
  · refine ⟨_, pss_cons p pss_nv, fun σ H hl C E T => q σ H hl C _ ⟨fun Γ' σ' H' h1 e1 h2 h3 => absurd ⟨Γ', h1⟩ hs, fun d v H' h1 => T.rt d v H' (ho _ (fun _ z => by cases z) h1), fun Γ' σ' H' h1 => T.bk Γ' σ' H' (ho _ (fun _ z => by cases z) h1), fun Γ' σ' H' h1 => T.ct Γ' σ' H' (ho _ (fun _ z => by cases z) h1)⟩⟩
theorem sd_asg (i : Nat) {x : Str} {pos' : Pos} (he : ED X e Γ d) (hd : X.N.Nodup) (h : Φ (.nx (Γ.set i (some d)))) (hN : X.N[i]? = some x := by rfl) (hx : Loc X.env.scope x := by first | exact Or.inl rfl | exact Or.inr rfl)
    (hs : swapsWith e (some (.Name x pos')) pos.line X.env = pure false := by rfl) (hf : X.fn x = true ∨ X.env.scope.names.lookup x = some .local := by first | exact .inl rfl | exact .inr rfl) : SD X (.Assign [.Name x pos'] e pos) Γ Φ := by
  obtain ⟨t, p, q⟩ := he
  refine ⟨_, ps_set (i := i) hd hN hx p hs hf, fun σ H hl C E T => q σ H C _ fun v H1 e1 h1 => ?_⟩
  have hi : i < σ.length := by
    rw [hl]
    exact (List.getElem?_eq_some_iff.mp hN).1
  exact T.nx _ _ H1 h e1 (by rw [List.length_set]; exact hl) ((C.mono e1).set hi h1)
theorem sd_ret (he : ED X e Γ d) (h : Φ (.rt d)) : SD X (.Return (some e) pos) Γ Φ := by
  obtain ⟨t, p, q⟩ := he
  exact ⟨_, ps_ret p, fun σ H hl C E T => q σ H C _ fun v H1 e1 h1 => T.rt d v H1 h e1 h1⟩
theorem sd_if {k : Bool} {sa sb : List Stmt} (hc : TD X c Γ k) (ha : k = true → SsD X sa Γ Φ) (hb : k = false → SsD X sb Γ Φ) : SD X (.If c sa sb pos) Γ Φ := by
  obtain ⟨t, p, q⟩ := hc
  cases k with
  | true =>
    obtain ⟨ta, pa, qa⟩ := ha rfl
    exact ⟨_, ps_if p pa pss_nv, fun σ H hl C E T => q σ H C _ fun H1 e1 => qa σ H1 hl (C.mono e1) E (T.mono e1)⟩
  | false =>
    obtain ⟨tb, pb, qb⟩ := hb rfl
    exact ⟨_, ps_if p pss_nv pb, fun σ H hl C E T => q σ H C _ fun H1 e1 => qb σ H1 hl (C.mono e1) E (T.mono e1)⟩
theorem sd_expr (he : ED X e Γ d) (h : Φ (.nx Γ)) (hs : swapsWith e none pos.line X.env = pure false := by rfl) : SD X (.Expr e pos) Γ Φ := by
  obtain ⟨t, p, q⟩ := he
  exact ⟨_, ps_expr p hs, fun σ H hl C E T => q σ H C _ fun v H1 e1 h1 => T.nx Γ σ H1 h e1 hl (C.mono e1)⟩
/-! ### the short ways -/
theorem z_asg (i : Nat) {x : Str} {pos' : Pos} (he : ED X e Γ d) (hd : X.N.Nodup) (k : SsD X sts (Γ.set i (some d)) Φ) (hN : X.N[i]? = some x := by rfl) (hx : Loc X.env.scope x := by first | exact Or.inl rfl | exact Or.inr rfl)
    (hs : swapsWith e (some (.Name x pos')) pos.line X.env = pure false := by rfl) (hf : X.fn x = true ∨ X.env.scope.names.lookup x = some .local := by first | exact .inl rfl | exact .inr rfl) : SsD X (.Assign [.Name x pos'] e pos :: sts) Γ Φ :=
  ss_seq (Ψ := fun o => o = .nx (Γ.set i (some d))) (sd_asg i he hd rfl hN hx hs hf) (fun Γ' h => by
    cases h
    exact k) fun o h1 h2 => absurd h2 (h1 _)
theorem z_ret (he : ED X e Γ d) (h : Φ (.rt d)) : SsD X (.Return (some e) pos :: sts) Γ Φ :=
  ss_seq (Ψ := fun o => o = .rt d) (sd_ret he rfl) (fun Γ' h => by cases h) fun o h1 h2 => by
    rw [h2]
    exact h
/-- an if whose test is false, no else -/
theorem z_ifF {sa : List Stmt} (hc : TD X c Γ false) (k : SsD X sts Γ Φ) : SsD X (.If c sa [] pos :: sts) Γ Φ :=
  ss_seq (Ψ := fun o => o = .nx Γ) (sd_if hc (fun z => by cases z) fun _ => ss_nil rfl) (fun Γ' h => by
    cases h
    exact k) fun o h1 h2 => absurd h2 (h1 _)
/-- an if whose body leaves, or not -/
theorem z_ifR {b : Bool} {sa : List Stmt} (hc : TD X c Γ b) (h : b = true → SsD X sa Γ (fun o => (∀ Γ', o ≠ .nx Γ') ∧ Φ o)) (k : b = false → SsD X sts Γ Φ) : SsD X (.If c sa [] pos :: sts) Γ Φ :=
  ss_seq (Ψ := fun o => (b = true ∧ (∀ Γ', o ≠ .nx Γ') ∧ Φ o) ∨ (b = false ∧ o = .nx Γ))
    (sd_if hc (fun z => by
      obtain ⟨t, p, q⟩ := h z
      exact ⟨t, p, fun σ H hl C E T => q σ H hl C E (T.imp fun o w => .inl ⟨z, w⟩)⟩) fun z => ss_nil (.inr ⟨z, rfl⟩))
    (fun Γ' h => by
      rcases h with ⟨_, h, _⟩ | ⟨z, h⟩
      · exact absurd rfl (h Γ')
      · cases h
        exact k z) fun o h1 h2 => by
    rcases h2 with ⟨_, _, h⟩ | ⟨_, h⟩
    · exact h
    · exact absurd h (h1 _)
theorem SsD.imp (h : SsD X sts Γ Ψ) (hi : ∀ o, Ψ o → Φ o) : SsD X sts Γ Φ := by
  obtain ⟨t, p, q⟩ := h
  exact ⟨t, p, fun σ H hl C E T => q σ H hl C E (T.imp hi)⟩
theorem SD.imp (h : SD X st Γ Ψ) (hi : ∀ o, Ψ o → Φ o) : SD X st Γ Φ := by
  obtain ⟨t, p, q⟩ := h
  exact ⟨t, p, fun σ H hl C E T => q σ H hl C E (T.imp hi)⟩
end

/-! ### a def whose body only makes things -/
theorem start_ctx {K : PySem.W.Frag} {H : Hp} {N : List Str} {ds : List D} {vs : List V} (h : DenL K H ds vs) : Ctx K H (ds.map some ++ List.replicate (N.length - ds.length) none) (L2.start N vs) := fun i d e => by
  unfold L2.start
  have hl := h.len
  by_cases hi : i < ds.length
  · rw [List.getElem?_append_left (by rw [List.length_map]; exact hi), List.getElem?_map] at e
    cases q : ds[i]? with
    | none =>
      rw [q] at e
      cases e
    | some d' =>
      rw [q] at e
      cases e
      obtain ⟨y, h1, h2⟩ := h.get q
      refine ⟨y, ?_, h2⟩
      rw [List.getElem?_append_left (by rw [List.length_map, ← hl]; exact hi), List.getElem?_map, h1]
      rfl
  · rw [List.getElem?_append_right (by rw [List.length_map]; omega), List.getElem?_replicate] at e
    split at e <;> cases e
theorem fn_D {P : Program} {w : World} {K : PySem.W.Frag} {mg : Str → Option Value} {base : Heap} {x qual : Str} {st : Stmt} {f : Addr} {fd : FuncData} {N ps : List Str} {k : Nat} {R : List D → D → Prop} (F : Fun K x qual st f fd) (S : FnScope N ps (defScope st))
    (hN : ps.length ≤ N.length)
    (h : ∀ (cdv : Value) (A : Around) (outer : List Env) (s : Shared) (H : Hp) (E : XK) (ds : List D) (d : D), Room k (A.deeper (PyProof.Rows.envOfC qual (defScope st) s.heap.objs.size f cdv)) → ds.length = ps.length → R ds d →
      SsD (cxOf CX0 P w K mg base N qual (defScope st) f cdv A outer s H E).nox (defBody st) (ds.map some ++ List.replicate (N.length - ds.length) none) (fun o => o = .rt d ∨ (d = .v .non ∧ ∃ Γ, o = .nx Γ))) :
    FnOk P w K mg base CX0 (k + 1) f fd ps (spD K ps.length R) := by
  refine F.ok S (fun vs H Q E h => spD_len h) fun cdv A outer s H vs Q E hr hsp => ?_
  obtain ⟨ds, d, h1, h2, h3, h4⟩ := hsp
  obtain ⟨t, p, q⟩ := h cdv A outer s H E ds d hr h1 h3
  refine ⟨t, p, q (L2.start N vs) H ?_ (start_ctx h2) _ ⟨fun Γ σ H' z e1 _ _ => ?_, fun d' v H' z e1 hv => ?_, fun Γ σ H' z => ?_, fun Γ σ H' z => ?_⟩⟩
  · show (L2.start N vs).length = N.length
    unfold L2.start
    rw [List.length_append, List.length_map, List.length_replicate, ← h2.len, h1]
    omega
  · rcases z with z | ⟨z, _⟩
    · cases z
    · subst z
      exact h4 _ H' e1 (den_v.mpr rfl)
  · rcases z with z | ⟨_, _, z⟩
    · cases z
      exact h4 v H' e1 hv
    · cases z
  · rcases z with z | ⟨_, _, z⟩ <;> cases z
  · rcases z with z | ⟨_, _, z⟩ <;> cases z
end Trk

namespace Trk
open PySem L2 Evl

/-- a sign's own methods: f for C op .., g for int op C -/
structure NumOp (K : PySem.W.Frag) (C : Addr) (op : Operator) (f g : Addr) : Prop where
  first : PySem.W.selfFirst K C = true
  find : PySem.W.findIn K (.ref C) (PySem.dunder op.info.2) = some (some (.ref f))
  fn : PySem.W.isFn K (.ref f) = true
  rfind : PySem.W.findIn K (.ref C) (dunderR op.info.2) = some (some (.ref g))
  rfn : PySem.W.isFn K (.ref g) = true
  sub1 : PySem.W.subIn K (.type "int") (.ref C) = some false
  sub2 : PySem.W.subIn K (.ref C) (.type "int") = some false
structure CmpM (K : PySem.W.Frag) (C : Addr) (name : Str) (f : Addr) : Prop where
  find : PySem.W.findIn K (.ref C) name = some (some (.ref f))
  fn : PySem.W.isFn K (.ref f) = true
section
variable {X : Cx} {CX : CXT} {k : Nat} {C f g : Addr} {fd : FuncData} {ps : List Str} {sp : Sp} {E : XK} {op : Operator}
theorem back_of {pins : List (Addr × Obj)} {σ : L2.St} {H : Hp} {s : Shared} {Q : VK} {us : List Value} {vs : List V} (F : FnOk X.prog X.w X.K X.mg X.base CX k f fd ps sp) (hr : Room k X.A) (hb : Binds X.K fd ps []) (hx : Passes CX X E)
    (I : Inv X pins σ H s) (r : Vals vs us) (h : sp vs H Q E) : wpAny (model X.prog X.w) X.A (call (.ref f) us) (PySem.W.CmpBack (EP X pins σ Q)) X.xe s :=
  thn (run_fn F hr hb .nil hx I r (by rw [List.append_nil]; exact h)) fun u s' q => by
    have q' := q
    obtain ⟨v, H', I', rv, _⟩ := q'
    exact SlX.cmpback rv q
theorem vals_rr (a b : Addr) : Vals [V.ref a, V.ref b] [Value.ref a, Value.ref b] := .cons (show RelV (V.ref a) (Value.ref a) from rfl) (.cons (show RelV (V.ref b) (Value.ref b) from rfl) .nil)
theorem vals_ri (a : Addr) (n : Int) (t : Tok) : Vals [V.ref a, V.int n] [Value.ref a, Value.int n t] := .cons (show RelV (V.ref a) (Value.ref a) from rfl) (.cons (show RelV (V.int n) (Value.int n t) from ⟨t, rfl⟩) .nil)
/-- both of the class -/
def rOwn (C : Addr) (sp : Sp) (E : XK) : R2 := fun x y H Q => ∃ a b dx dy fs gs, x = .ref a ∧ y = .ref b ∧ H a = some (.ins C dx fs) ∧ H b = some (.ins C dy gs) ∧ sp [x, y] H Q E
/-- an int on the right -/
def rOwnI (C : Addr) (sp : Sp) (E : XK) : R2 := fun x y H Q => ∃ a dx fs n, x = .ref a ∧ y = .int n ∧ H a = some (.ins C dx fs) ∧ sp [x, y] H Q E
/-- an int on the left -/
def rIOwn (C : Addr) (sp : Sp) (E : XK) : R2 := fun x y H Q => ∃ b dx fs n, x = .int n ∧ y = .ref b ∧ H b = some (.ins C dx fs) ∧ sp [y, x] H Q E
theorem op_own (M : NumOp X.K C op f g) (F : FnOk X.prog X.w X.K X.mg X.base CX k f fd ps sp) (hr : Room k X.A) (hb : Binds X.K fd ps []) (hx : Passes CX X E) : OpR X (binaryOp op) (rOwn C sp E) := by
  intro pins s σ H x y v u Q I rx ry h
  obtain ⟨a, b, dx, dy, fs, gs, rfl, rfl, ha, hb', hsp⟩ := h
  cases rx
  cases ry
  obtain ⟨mA, J, _⟩ := ins_get I.hok ha
  obtain ⟨mB, J', _⟩ := ins_get I.hok hb'
  obtain ⟨od, J, _⟩ := J.look
  obtain ⟨od', J', _⟩ := J'.look
  obtain ⟨m, hF⟩ := I.fr
  exact PySem.W.binop_K hF I.ok.mod.kin J J'.type M.first M.find M.fn (back_of F hr hb hx I (vals_rr a b) hsp)
theorem op_ownI {fo ro : Option Value} (M : NumOp X.K C op f g) (h1 : PySem.W.findIn X.K (.type "int") (PySem.dunder op.info.2) = some fo) (h2 : PySem.W.findIn X.K (.type "int") (dunderR op.info.2) = some ro)
    (F : FnOk X.prog X.w X.K X.mg X.base CX k f fd ps sp) (hr : Room k X.A) (hb : Binds X.K fd ps []) (hx : Passes CX X E) : OpR X (binaryOp op) (rOwnI C sp E) := by
  intro pins s σ H x y v u Q I rx ry h
  obtain ⟨a, dx, fs, n, rfl, rfl, ha, hsp⟩ := h
  cases rx
  obtain ⟨t, rfl⟩ := ry
  obtain ⟨mA, J, _⟩ := ins_get I.hok ha
  obtain ⟨od, J, _⟩ := J.look
  obtain ⟨m, hF⟩ := I.fr
  exact PySem.W.ksp_binT (T := "int") hF I.ok.mod.kin J rfl M.first M.find M.fn M.rfind (.inr ⟨_, rfl⟩) h1 h2 M.sub1 (back_of F hr hb hx I (vals_ri a n t) hsp)
theorem op_iown {fo ro : Option Value} {id : String} {B : Builtin} (S : Trk.IntSlot op.info.2 id B) (M : NumOp X.K C op f g) (h1 : PySem.W.findIn X.K (.type "int") (PySem.dunder op.info.2) = some fo) (h2 : PySem.W.findIn X.K (.type "int") (dunderR op.info.2) = some ro)
    (hl : ((fo.isSome && !isSeqSlot fo) || (ro.isSome && !isSeqSlot ro)) = true)
    (F : FnOk X.prog X.w X.K X.mg X.base CX k g fd ps sp) (hr : Room k X.A) (hb : Binds X.K fd ps []) (hx : Passes CX X E) : OpR X (binaryOp op) (rIOwn C sp E) := by
  intro pins s σ H x y v u Q I rx ry h
  obtain ⟨a, dx, fs, n, rfl, rfl, ha, hsp⟩ := h
  cases ry
  obtain ⟨t, rfl⟩ := rx
  obtain ⟨mA, J, _⟩ := ins_get I.hok ha
  obtain ⟨od, J, _⟩ := J.look
  obtain ⟨m, hF⟩ := I.fr
  exact Trk.rbinT S hF I.ok.mod.kin J M.first M.find M.rfind M.rfn h1 h2 hl M.sub2 (back_of F hr hb hx I (vals_ri a n t) hsp)
/-! ### comparisons -/
variable {cop : CmpOp}
theorem cmp_own (hro : ∀ a b, compareOp cop a b = richCompare cop a b) (M : CmpM X.K C (cmpInfo cop).2.1 f) (F : FnOk X.prog X.w X.K X.mg X.base CX k f fd ps sp) (hr : Room k X.A) (hb : Binds X.K fd ps []) (hx : Passes CX X E) : OpR X (compareOp cop) (rOwn C sp E) := by
  intro pins s σ H x y v u Q I rx ry h
  obtain ⟨a, b, dx, dy, fs, gs, rfl, rfl, ha, hb', hsp⟩ := h
  cases rx
  cases ry
  obtain ⟨mA, J, _⟩ := ins_get I.hok ha
  obtain ⟨mB, J', _⟩ := ins_get I.hok hb'
  obtain ⟨od, J, _⟩ := J.look
  obtain ⟨od', J', _⟩ := J'.look
  obtain ⟨m, hF⟩ := I.fr
  rw [hro]
  exact PySem.W.cmp_K (tb := .ref C) hr.units0 hF I.ok.mod.kin J J'.type (by simp [PySem.W.notFirst]) M.find M.fn (back_of F hr hb hx I (vals_rr a b) hsp)
theorem cmp_ownI (hro : ∀ a b, compareOp cop a b = richCompare cop a b) (M : CmpM X.K C (cmpInfo cop).2.1 f) (hs : PySem.W.subIn X.K (.type "int") (.ref C) = some false) (F : FnOk X.prog X.w X.K X.mg X.base CX k f fd ps sp) (hr : Room k X.A) (hb : Binds X.K fd ps []) (hx : Passes CX X E) : OpR X (compareOp cop) (rOwnI C sp E) := by
  intro pins s σ H x y v u Q I rx ry h
  obtain ⟨a, dx, fs, n, rfl, rfl, ha, hsp⟩ := h
  cases rx
  obtain ⟨t, rfl⟩ := ry
  obtain ⟨mA, J, _⟩ := ins_get I.hok ha
  obtain ⟨od, J, _⟩ := J.look
  obtain ⟨m, hF⟩ := I.fr
  rw [hro]
  exact PySem.W.cmp_K (tb := .type "int") hr.units0 hF I.ok.mod.kin J (PySem.W.Looks.of_pure rfl) (by unfold PySem.W.notFirst; rw [hs]; simp) M.find M.fn (back_of F hr hb hx I (vals_ri a n t) hsp)
/-- an int on the left: the mirrored sign's method -/
theorem cmp_iown {id : String} {B : Builtin} (hro : ∀ a b, compareOp cop a b = richCompare cop a b) (S : Trk.CmpSlot cop id B) (M : CmpM X.K C (cmpInfo cop).2.2 f) (hs : PySem.W.subIn X.K (.ref C) (.type "int") = some false) (F : FnOk X.prog X.w X.K X.mg X.base CX k f fd ps sp) (hr : Room k X.A) (hb : Binds X.K fd ps []) (hx : Passes CX X E) :
    OpR X (compareOp cop) (rIOwn C sp E) := by
  intro pins s σ H x y v u Q I rx ry h
  obtain ⟨a, dx, fs, n, rfl, rfl, ha, hsp⟩ := h
  cases ry
  obtain ⟨t, rfl⟩ := rx
  obtain ⟨mA, J, _⟩ := ins_get I.hok ha
  obtain ⟨od, J, _⟩ := J.look
  obtain ⟨m, hF⟩ := I.fr
  rw [hro]
  exact Trk.rcmpT S hr.units0 hF I.ok.mod.kin J M.find M.fn hs (back_of F hr hb hx I (vals_ri a n t) hsp)
end
section
variable {K : PySem.W.Frag} {C : Addr} {fs gs : List (Str × D)} {R : List D → D → Prop} {E : XK} {d : D} {n : Int}
theorem rd_own (h : R [.obj C fs, .obj C gs] d) : RD K (rOwn C (spD K 2 R) E) (.obj C fs) (.obj C gs) d := fun x y H h1 h2 Q q => by
  have k1 := h1
  have k2 := h2
  simp only [Den] at h1 h2
  obtain ⟨a, dx, fs', rfl, ha, _⟩ := h1
  obtain ⟨b, dy, gs', rfl, hb, _⟩ := h2
  exact ⟨a, b, dx, dy, fs', gs', rfl, rfl, ha, hb, _, d, rfl, DenL.cons k1 (DenL.cons k2 DenL.nil), h, q⟩
theorem rd_ownI (h : R [.obj C fs, .v (.int n)] d) : RD K (rOwnI C (spD K 2 R) E) (.obj C fs) (.v (.int n)) d := fun x y H h1 h2 Q q => by
  have k1 := h1
  have k2 := h2
  simp only [Den] at h1 h2
  obtain ⟨a, dx, fs', rfl, ha, _⟩ := h1
  subst h2
  exact ⟨a, dx, fs', n, rfl, rfl, ha, _, d, rfl, DenL.cons k1 (DenL.cons k2 DenL.nil), h, q⟩
theorem rd_iown (h : R [.obj C fs, .v (.int n)] d) : RD K (rIOwn C (spD K 2 R) E) (.v (.int n)) (.obj C fs) d := fun x y H h1 h2 Q q => by
  have k1 := h1
  have k2 := h2
  simp only [Den] at h1 h2
  obtain ⟨a, dx, fs', rfl, ha, _⟩ := h2
  subst h1
  exact ⟨a, dx, fs', n, rfl, rfl, ha, _, d, rfl, DenL.cons k2 (DenL.cons k1 DenL.nil), h, q⟩
end
/-! ### a negative divisor, of any size -/
def CDivZ (_ j : Int) : Prop := j ≠ 0 ∧ j.natAbs.log2 < 9000
theorem op_fdivZ {X : Cx} : OpR X (binaryOp .FloorDiv) (rI CDivZ fun i j => .int (i.fdiv j)) := opI fun i j _ _ _ _ _ hc q => PyProof.Rows.floordiv_int hc.1 q (.inl (PyProof.noPylong_of_log2 hc.2))
end Trk

namespace Trk
/-! ### what the class Fraction reckons: Rat -/
def cmn (a b : Int) : Int := if b < 0 then -((Nat.gcd a.natAbs b.natAbs : Nat) : Int) else ((Nat.gcd a.natAbs b.natAbs : Nat) : Int)
theorem cmn_ne {a b : Int} (hb : b ≠ 0) : cmn a b ≠ 0 := by
  have h : 0 < Nat.gcd a.natAbs b.natAbs := Nat.gcd_pos_of_pos_right _ (Int.natAbs_pos.mpr hb)
  unfold cmn
  split <;> omega
theorem cmn_le {a b : Int} (hb : b ≠ 0) : (cmn a b).natAbs ≤ b.natAbs := by
  have h : Nat.gcd a.natAbs b.natAbs ≤ b.natAbs := Nat.gcd_le_right _ (Int.natAbs_pos.mpr hb)
  unfold cmn
  split <;> omega
theorem fdiv_exact {g k : Int} (hg : g ≠ 0) : (g * k).fdiv g = k := by
  rw [Int.mul_comm, Int.mul_fdiv_cancel _ hg]
theorem top_eq {a b : Int} (hb : b ≠ 0) : a.fdiv (cmn a b) = (Rat.divInt a b).num := by
  have hg : 0 < Nat.gcd a.natAbs b.natAbs := Nat.gcd_pos_of_pos_right _ (Int.natAbs_pos.mpr hb)
  obtain ⟨k, hk⟩ : ((Nat.gcd a.natAbs b.natAbs : Nat) : Int) ∣ a := Int.ofNat_dvd_left.mpr (Nat.gcd_dvd_left _ _)
  rw [Rat.num_divInt, show Int.gcd b a = Nat.gcd a.natAbs b.natAbs from Nat.gcd_comm _ _]
  unfold cmn
  generalize hG : Nat.gcd a.natAbs b.natAbs = G at *
  by_cases h : b < 0
  · rw [if_pos h, Int.sign_eq_neg_one_of_neg h, hk, show ((G : Int) * k).fdiv (-(G : Int)) = -k from by
      rw [show (G : Int) * k = (-(G : Int)) * (-k) by rw [Int.neg_mul_neg], fdiv_exact (by omega)]]
    rw [show (-1 : Int) * ((G : Int) * k) = (G : Int) * (-k) by rw [Int.neg_one_mul, Int.mul_neg], Int.mul_ediv_cancel_left _ (by omega)]
  · rw [if_neg h, Int.sign_eq_one_of_pos (by omega), hk, fdiv_exact (by omega), Int.one_mul, Int.mul_ediv_cancel_left _ (by omega)]
theorem bottom_eq {a b : Int} (hb : b ≠ 0) : b.fdiv (cmn a b) = ((Rat.divInt a b).den : Int) := by
  have hg : 0 < Nat.gcd a.natAbs b.natAbs := Nat.gcd_pos_of_pos_right _ (Int.natAbs_pos.mpr hb)
  obtain ⟨k, hk⟩ : ((Nat.gcd a.natAbs b.natAbs : Nat) : Int) ∣ b := Int.ofNat_dvd_left.mpr (Nat.gcd_dvd_right _ _)
  rw [Rat.den_divInt, if_neg hb, show Int.gcd b a = Nat.gcd a.natAbs b.natAbs from Nat.gcd_comm _ _]
  unfold cmn
  generalize hG : Nat.gcd a.natAbs b.natAbs = G at *
  have hn : b.natAbs / G = k.natAbs := by
    rw [hk, Int.natAbs_mul, Int.natAbs_natCast, Nat.mul_div_cancel_left _ hg]
  rw [hn]
  by_cases h : b < 0
  · have hk0 : k < 0 := by
      rcases Int.lt_or_le k 0 with z | z
      · exact z
      · have := Int.mul_nonneg (show (0 : Int) ≤ (G : Int) by omega) z
        omega
    rw [if_pos h]
    conv => lhs; rw [hk]
    rw [show (G : Int) * k = (-(G : Int)) * (-k) by rw [Int.neg_mul_neg], fdiv_exact (by omega)]
    omega
  · have hk0 : 0 ≤ k := by
      rcases Int.lt_or_le k 0 with z | z
      · have := Int.mul_neg_of_pos_of_neg (show (0 : Int) < (G : Int) by omega) z
        omega
      · exact z
    rw [if_neg h]
    conv => lhs; rw [hk]
    rw [fdiv_exact (by omega)]
    omega
/-- no greater than what it was made of -/
theorem num_le (a b : Int) : (Rat.divInt a b).num.natAbs ≤ a.natAbs := by
  rw [Rat.num_divInt]
  have h1 : (b.sign * a).natAbs ≤ a.natAbs := by
    rw [Int.natAbs_mul]
    rcases Int.sign_trichotomy b with h | h | h <;> rw [h] <;> simp
  refine Nat.le_trans ?_ h1
  exact Int.natAbs_ediv_le_natAbs _ _
theorem den_le {a b : Int} (hb : b ≠ 0) : (Rat.divInt a b).den ≤ b.natAbs := by
  rw [Rat.den_divInt, if_neg hb]
  exact Nat.div_le_self _ _
/-- sizes -/
def Sz (n : Nat) (q : Rat) : Prop := q.num.natAbs < 2 ^ n ∧ q.den < 2 ^ n
end Trk
namespace Trk
theorem q_mul {a b : Int} (hb : b ≠ 0) : Rat.divInt a b * (b : Rat) = (a : Rat) := by
  rw [Rat.divInt_eq_div]
  exact Rat.div_mul_cancel (by simpa using hb)
theorem q_lt {a b c e : Int} (hb : 0 < b) (he : 0 < e) : Rat.divInt a b < Rat.divInt c e ↔ a * e < c * b := by
  have h1 : (0 : Rat) < ((b * e : Int) : Rat) := Rat.intCast_pos.mpr (Int.mul_pos hb he)
  have e1 : Rat.divInt a b * ((b * e : Int) : Rat) = ((a * e : Int) : Rat) := by
    rw [Rat.intCast_mul, ← Rat.mul_assoc, q_mul (by omega), ← Rat.intCast_mul]
  have e2 : Rat.divInt c e * ((b * e : Int) : Rat) = ((c * b : Int) : Rat) := by
    rw [Int.mul_comm b e, Rat.intCast_mul, ← Rat.mul_assoc, q_mul (by omega), ← Rat.intCast_mul]
  rw [← Rat.mul_lt_mul_right h1, e1, e2, Rat.intCast_lt_intCast]
theorem q_int (n : Int) : (n : Rat) = Rat.divInt n 1 := (Rat.num_divInt_den (n : Rat)).symm
/-- the sign of a difference -/
theorem q_sgn {a b c e : Int} (hb : 0 < b) (he : 0 < e) : (a * e - c * b < 0 ↔ Rat.divInt a b < Rat.divInt c e) ∧ (0 < a * e - c * b ↔ Rat.divInt c e < Rat.divInt a b) := by
  rw [q_lt hb he, q_lt he hb]
  exact ⟨by omega, by omega⟩
end Trk

namespace Trk
open PySem L2 Evl

abbrev fr (C : Addr) (q : Rat) : D := .obj C [("top", .v (.int q.num)), ("bottom", .v (.int (q.den : Int)))]
abbrev iD (n : Int) : D := .v (.int n)
abbrev bD (b : Bool) : D := .v (.bl b)
/-- a number: a Fraction, an int -/
def NumV (C : Addr) (y : D) (q : Rat) : Prop := y = fr C q ∨ ∃ n : Int, y = iD n ∧ q = (n : Rat)
theorem den_fr {K : PySem.W.Frag} {H : Hp} {C : Addr} {q : Rat} {v : V} : Den K H (fr C q) v ↔ ∃ a dx, v = .ref a ∧ H a = some (.ins C dx [("top", .int q.num), ("bottom", .int (q.den : Int))]) := by
  simp only [Den, DenF]
  constructor
  · rintro ⟨a, dx, gs, h1, h2, z, zs, h3, h4, z', zs', h5, h6, h7⟩
    subst h4 h6 h7 h5 h3
    exact ⟨a, dx, h1, h2⟩
  · rintro ⟨a, dx, h1, h2⟩
    exact ⟨a, dx, _, h1, h2, _, _, rfl, rfl, _, _, rfl, rfl, rfl⟩

/-- what the written part says of the class Fraction, at C -/
structure FrTxt (K : PySem.W.Frag) (mg : Str → Option Value) (C : Addr) : Prop where
  cl : Cls K C
  nT : NoAttr K C "top"
  nB : NoAttr K C "bottom"
  mgC : mg "Fraction" = some (.ref C)
  ca : PySem.W.findIn K (.ref C) "__class__" = some (some (.builtin "object.__class__"))
  cn : PySem.W.specialIn K (.builtin "object.__class__") "__get__" = some (some (.builtin "getset_descriptor.__get__"))
  ct : PySem.W.takesIn K (.builtin "object.__class__") = some true
  cm : PySem.W.mroIn K C (.type "object") = some true
  kCC : PySem.W.kitOne K (.ref C) (.ref C) = some true
  kIC : PySem.W.kitOne K (.type "int") (.ref C) = some false
  sub1 : PySem.W.subIn K (.type "int") (.ref C) = some false
  sub2 : PySem.W.subIn K (.ref C) (.type "int") = some false
  isi : mg "isinstance" = none
  tInt : mg "int" = none
  gcd : mg "gcd" = some (.builtin "math.gcd")
theorem kit_self {K : PySem.W.Frag} {C : Addr} : PySem.W.kitOne K (.ref C) (.ref C) = some true := by
  unfold PySem.W.kitOne
  rw [if_pos (by simp)]
theorem kit_sub {K : PySem.W.Frag} {C : Addr} {t : Value} {b : Bool} (ic : PySem.W.isClsIn K C = true) (ty : PySem.W.typeIn K (.ref C) = some (.type "type")) (s : PySem.W.subIn K t (.ref C) = some b) (hne : (t == Value.ref C) = false) : PySem.W.kitOne K t (.ref C) = some b := by
  unfold PySem.W.kitOne PySem.W.kitCls
  rw [if_neg (by rw [hne]; exact Bool.false_ne_true)]
  show (if ((PySem.W.clsIn K C).isSome && PySem.W.typeIn K (.ref C) == some (.type "type")) = true then PySem.W.subIn K t (.ref C) else none) = some b
  rw [if_pos (by
    rw [ty]
    have : (PySem.W.clsIn K C).isSome = true := ic
    rw [this]
    simp), s]
theorem ty_ne (n : String) (C : Addr) : (Value.type n == Value.ref C) = false := Bool.eq_false_iff.mpr fun q => by cases beq_iff_eq.mp q
theorem rf_ne {A C : Addr} (h : A ≠ C) : (Value.ref A == Value.ref C) = false := Bool.eq_false_iff.mpr fun q => h (Value.ref.inj (beq_iff_eq.mp q))
section
variable {X : Cx} {Γ : Gm} {d d1 d2 : D} {e a b c : Expr} {es : List Expr} {pos : Pos} {C : Addr}
theorem ed_glob {x : Str} {v : V} {u : Value} (hm : X.mg x = some u) (r : RelV v u) (hg : Gl X x := by rfl) (hd : (x == ("__debug__" : Str)) = false := by decide) : ED X (.Name x pos) Γ (.v v) := ⟨_, pe_glob hg hm r hd, fun σ H C Q q => q _ H (Ex.refl H) (den_v.mpr rfl)⟩
theorem ed_bltn {x : Str} {v : V} {u : Value} (hm : X.mg x = none) (hv : bootBuiltins x = some u) (r : RelV v u) (hg : Gl X x := by rfl) (hn : x ≠ "__name__" := by decide) (hd : (x == ("__debug__" : Str)) = false := by decide) : ED X (.Name x pos) Γ (.v v) := ⟨_, pe_bltn hg hm hv r hn hd, fun σ H C Q q => q _ H (Ex.refl H) (den_v.mpr rfl)⟩
/-- the type that isinstance sees -/
inductive TyD (K : PySem.W.Frag) (mg : Str → Option Value) : D → Value → Prop where
  | int (n : Int) : TyD K mg (iD n) (.type "int")
  | bl (b : Bool) : TyD K mg (bD b) (.type "bool")
  | fr {C : Addr} {q : Rat} (T : FrTxt K mg C) : TyD K mg (fr C q) (.ref C)
theorem TyD.to {K : PySem.W.Frag} {mg : Str → Option Value} {H : Hp} {d : D} {t : Value} {v : V} (h : TyD K mg d t) (hd : Den K H d v) : TyX K H v t := by
  cases h with
  | int n => rw [den_v.mp hd]; exact .base (.int n)
  | bl b => rw [den_v.mp hd]; exact .base (.bl b)
  | fr T =>
    obtain ⟨a, dx, rfl, h⟩ := den_fr.mp hd
    exact .base (.ins h T.cl T.ca T.cn T.ct T.cm)
/-- isinstance(a, c) -/
theorem ed_isi {k : Bool} {u t : Value} {cv : V} {p : Pos} (hm : X.mg "isinstance" = none) (ha : ED X a Γ d) (hc : ED X c Γ (.v cv)) (hcv : ClsV cv u) (ht : TyD X.K X.mg d t) (hk : PySem.W.kitOne X.K t u = some k) (hg : Gl X "isinstance" := by rfl)
    (he : starEach (a :: [c]) X.env = (false, eval a X.env) :: starEach [c] X.env := by rfl) (hs1 : starEach (c :: []) X.env = (false, eval c X.env) :: starEach [] X.env := by rfl) (hpl : (backTo pos (starEach [c] X.env)).any (·.1) = false := by rfl) :
    ED X (.Call (.Name "isinstance" p) [a, c] [] pos) Γ (bD k) := by
  refine ed_callB (d := bD k) (r := rIsi X.K) call_isi hm (by decide +kernel) (ad_cons ha (ad_cons hc ad_nil hs1) he) (fun xs H h Q q => ?_) hg (by decide) (by decide) he hpl
  obtain ⟨x, y, rfl, h1, h2⟩ := denL_two h
  rw [den_v.mp h2]
  exact ⟨x, cv, t, u, k, rfl, hcv, ht.to h1, hk, q _ H (Ex.refl H) (den_v.mpr rfl)⟩
/-- isinstance(a, (c1, c2)) -/
theorem ed_isi2 {k : Bool} {u1 u2 t : Value} {cv1 cv2 : V} {c1 c2 : Expr} {p p2 : Pos} {x1} (hm : X.mg "isinstance" = none) (ha : ED X a Γ d) (hc1 : PE X c1 (tC cv1)) (hc2 : PE X c2 (tC cv2)) (hcv1 : ClsV cv1 u1) (hcv2 : ClsV cv2 u2)
    (ht : TyD X.K X.mg d t) (hk : PySem.W.kitAny X.K t [u1, u2] = some k) (hg : Gl X "isinstance" := by rfl)
    (he : starEach (a :: [.Tuple [c1, c2] x1 p2]) X.env = (false, eval a X.env) :: starEach [.Tuple [c1, c2] x1 p2] X.env := by rfl) (hs1 : starEach (.Tuple [c1, c2] x1 p2 :: []) X.env = (false, eval (.Tuple [c1, c2] x1 p2) X.env) :: starEach [] X.env := by rfl)
    (hs2 : starEach (c1 :: [c2]) X.env = (false, eval c1 X.env) :: starEach [c2] X.env := by rfl) (hs3 : starEach (c2 :: []) X.env = (false, eval c2 X.env) :: starEach [] X.env := by rfl)
    (hpl : (backTo pos (starEach [.Tuple [c1, c2] x1 p2] X.env)).any (·.1) = false := by rfl) :
    ED X (.Call (.Name "isinstance" p) [a, .Tuple [c1, c2] x1 p2] [] pos) Γ (bD k) := by
  obtain ⟨ta, pa, qa⟩ := ha
  refine ⟨_, pe_callB (call_isiT (X := X)) hg hm (by decide +kernel) (pa_cons pa (pa_cons (pe_tup (pa_cons hc1 (pa_cons hc2 pa_nil hs3) hs2)) pa_nil hs1) he) (by decide) (by decide) he hpl, fun σ H Cc Q q => ?_⟩
  refine qa σ H Cc _ fun v H1 e1 h1 => ⟨(by show 2 ≤ sizeLine; decide), fun tp hn => ?_⟩
  exact ⟨v, tp, [cv1, cv2], t, [u1, u2], k, rfl, upd_same, .cons hcv1 (.cons hcv2 .nil), ht.to (h1.mono (Ex.new hn)), hk, q _ _ (e1.trans (Ex.new hn)) (den_v.mpr rfl)⟩

/-! ### Fraction(a, b) -/
def spInit (C : Addr) : Sp := fun vs H Q _ => ∃ (p dx : Addr) (a b : Int), vs = [.ref p, .int a, .int b] ∧ b ≠ 0 ∧ b.natAbs < 2 ^ 8900 ∧ H p = some (.ins C dx []) ∧
  Q .non (upd H p (.ins C dx [("top", .int (Rat.divInt a b).num), ("bottom", .int ((Rat.divInt a b).den : Int))]))
theorem init_new {C : Addr} {Q : VK} {H H1 : Hp} {K : PySem.W.Frag} {E : XK} {i j : Int} {x dx : Addr} (hb : j ≠ 0) (hz : j.natAbs < 2 ^ 8900) (nx : H1 x = none) (ndx : H1 dx = none) (ne : dx ≠ x) (e1 : Ex H H1)
    (q : ∀ v H', Ex H H' → Den K H' (fr C (Rat.divInt i j)) v → Q v H') : spInit C [.ref x, .int i, .int j] (upd (upd H1 dx (.own x)) x (.ins C dx [])) (fun v H2 => v = .non ∧ Q (.ref x) H2) E := by
  refine ⟨x, dx, i, j, rfl, hb, hz, upd_same, rfl, q _ _ (fun b o ho => ?_) (den_fr.mpr ⟨x, dx, rfl, upd_same⟩)⟩
  have h1 : H1 b = some o := e1 b o ho
  rw [upd_ne (ne_of_none h1 nx), upd_ne (ne_of_none h1 nx), upd_ne (ne_of_none h1 ndx)]
  exact h1
theorem ed_mk {CX : CXT} {k : Nat} {f : Addr} {fd : FuncData} {ps : List Str} {E : XK} {p : Pos} {i j : Int} (M : Mk X.K C f) (F : FnOk X.prog X.w X.K X.mg X.base CX k f fd ps (spInit C)) (hr : Room (k + 1) X.A) (hm : X.mg "Fraction" = some (.ref C))
    (hb : Binds X.K fd ps []) (hx : Passes CX X E) (ha : AD X (e :: es) Γ [iD i, iD j]) (h0 : j ≠ 0) (hz : j.natAbs < 2 ^ 8900) (hg : Gl X "Fraction" := by rfl) (he : starEach (e :: es) X.env = (false, eval e X.env) :: starEach es X.env := by rfl)
    (hpl : (backTo pos (starEach es X.env)).any (·.1) = false := by rfl) : ED X (.Call (.Name "Fraction" p) (e :: es) [] pos) Γ (fr C (Rat.divInt i j)) := by
  obtain ⟨t, pp, q⟩ := ha
  refine ⟨_, pe_make M F hr hg hm hb .nil hx pp (by decide) he hpl, fun σ H Cc Q r => q σ H Cc _ fun vs H1 e1 h1 x dx nx ndx ne => ?_⟩
  obtain ⟨x1, x2, rfl, h2, h3⟩ := denL_two h1
  rw [den_v.mp h2, den_v.mp h3]
  exact init_new h0 hz nx ndx ne e1 r
theorem ed_mk1 {CX : CXT} {k : Nat} {f : Addr} {fd : FuncData} {ps : List Str} {E : XK} {p : Pos} {i : Int} {ds : List Value} (M : Mk X.K C f) (F : FnOk X.prog X.w X.K X.mg X.base CX k f fd ps (spInit C)) (hr : Room (k + 1) X.A) (hm : X.mg "Fraction" = some (.ref C))
    (hb : Binds X.K fd ps ds) (hd : Vals [V.int 1] ds) (hx : Passes CX X E) (ha : ED X e Γ (iD i)) (hg : Gl X "Fraction" := by rfl) (he : starEach (e :: []) X.env = (false, eval e X.env) :: starEach [] X.env := by rfl)
    (hpl : (backTo pos (starEach [] X.env)).any (·.1) = false := by rfl) : ED X (.Call (.Name "Fraction" p) [e] [] pos) Γ (fr C (i : Rat)) := by
  obtain ⟨t, pp, q⟩ := ha
  have e0 : (i : Rat) = Rat.divInt i 1 := (Rat.num_divInt_den (i : Rat)).symm
  rw [e0]
  refine ⟨_, pe_make M F hr hg hm hb hd hx (pa_cons pp pa_nil he) (by decide) he hpl, fun σ H Cc Q r => q σ H Cc _ fun v H1 e1 h1 x dx nx ndx ne => ?_⟩
  rw [den_v.mp h1]
  exact init_new (by decide) (Nat.one_lt_two_pow (by decide)) nx ndx ne e1 r
end
/-! ### sizes -/
theorem Sz.num {n : Nat} {q : Rat} (h : Sz n q) : q.num.natAbs < 2 ^ n := h.1
theorem Sz.denI {n : Nat} {q : Rat} (h : Sz n q) : ((q.den : Int)).natAbs < 2 ^ n := h.2
theorem Sz.mono {n m : Nat} {q : Rat} (h : Sz n q) (hm : n ≤ m) : Sz m q := ⟨Nat.lt_of_lt_of_le h.1 (Nat.pow_le_pow_right (by decide) hm), Nat.lt_of_lt_of_le h.2 (Nat.pow_le_pow_right (by decide) hm)⟩
theorem cdivZ_of {i j : Int} (h : j ≠ 0) (hb : j.natAbs < 2 ^ 8900) : CDivZ i j := ⟨h, Nat.lt_of_lt_of_le (PySem.Flt.log2_lt_of (by decide) hb) (by decide)⟩
end Trk

namespace Trk
open PySem L2 Evl
section
variable {X : Cx} {Γ : Gm} {d d1 d2 : D} {e a b c : Expr} {es : List Expr} {pos : Pos} {st : Stmt} {sts body rest : List Stmt} {Φ Ψ : Out → Prop}
/-- what a piece of the text does, by itself -/
def allS (X : Cx) (st : List Stmt) : TS := fun E σ H => ∀ (pins : List (Addr × Obj)) (s : Shared), Inv X pins σ H s → wpAny (model X.prog X.w) X.A (execs st X.env) (SP X pins E) X.xe s
def allT (X : Cx) (c : Expr) : TT := fun σ H Q => ∀ (pins : List (Addr × Obj)) (s : Shared), Inv X pins σ H s → wpAny (model X.prog X.w) X.A (isTrue c X.env (eval c X.env)) (TP X pins σ Q) X.xe s
theorem pss_all : PSs X st' (allS X st') := ⟨fun pins s σ H E I h => h pins s I⟩
theorem pt_all : PT X c (allT X c) := ⟨fun pins s σ H Q I h => h pins s I⟩
theorem SsD.all (h : SsD X sts Γ Φ) {σ : L2.St} {H : Hp} {E : Ends} (hl : σ.length = X.N.length) (C : Ctx X.K H Γ σ) (T : Takes X.K H X.N.length Φ E) : allS X sts E σ H := by
  obtain ⟨t, p, q⟩ := h
  exact fun pins s I => p.run pins s σ H E I (q σ H hl C E T)
theorem TD.all {k : Bool} (h : TD X c Γ k) {σ : L2.St} {H : Hp} {Q : Bool → Hp → Prop} (C : Ctx X.K H Γ σ) (q : ∀ H', Ex H H' → Q k H') : allT X c σ H Q := by
  obtain ⟨t, p, r⟩ := h
  exact fun pins s I => p.run pins s σ H Q I (r σ H C Q q)

/-! ### lists read -/
theorem denL_at {K : PySem.W.Frag} {H : Hp} {ds : List D} {ys : List V} {i : Int} (h : DenL K H ds ys) (e : atI ds i = some d) : ∃ y, atI ys i = some y ∧ Den K H d y := by
  unfold atI at e ⊢
  rw [← h.len]
  cases hx : ixN ds.length i with
  | none =>
    rw [hx] at e
    cases e
  | some j =>
    rw [hx] at e
    exact h.get e
theorem ed_ix {ds : List D} {i : Int} (ha : ED X a Γ (.lst ds)) (hb : ED X b Γ (iD i)) (h : atI ds i = some d) (hs : PlainIx b := by exact fun _ _ => rfl) : ED X (.Subscript a b pos) Γ d := by
  obtain ⟨ta, pa, qa⟩ := ha
  obtain ⟨tb, pb, qb⟩ := hb
  refine ⟨_, pe_ix ix_list pa pb hs, fun σ H C Q q => qa σ H C _ fun x H1 e1 h1 => qb σ H1 (C.mono e1) _ fun y H2 e2 h2 => ?_⟩
  have h1' := h1.mono e2
  simp only [Den] at h1'
  obtain ⟨p, ys, rfl, hq, hL⟩ := h1'
  obtain ⟨z, hz, hd⟩ := denL_at hL h
  exact ⟨p, ys, i, z, rfl, den_v.mp h2, hq, hz, q z H2 (e1.trans e2) hd⟩
theorem ed_ixT {ds : List D} {i : Int} (ha : ED X a Γ (.tup ds)) (hb : ED X b Γ (iD i)) (h : atI ds i = some d) (hs : PlainIx b := by exact fun _ _ => rfl) : ED X (.Subscript a b pos) Γ d := by
  obtain ⟨ta, pa, qa⟩ := ha
  obtain ⟨tb, pb, qb⟩ := hb
  refine ⟨_, pe_ix ix_tup pa pb hs, fun σ H C Q q => qa σ H C _ fun x H1 e1 h1 => qb σ H1 (C.mono e1) _ fun y H2 e2 h2 => ?_⟩
  have h1' := h1.mono e2
  simp only [Den] at h1'
  obtain ⟨p, ys, rfl, hq, hL⟩ := h1'
  obtain ⟨z, hz, hd⟩ := denL_at hL h
  exact ⟨p, ys, i, z, rfl, den_v.mp h2, hq, hz, q z H2 (e1.trans e2) hd⟩
theorem ed_len {ds : List D} {p : Pos} (hm : X.mg "len" = none) (ha : ED X a Γ (.lst ds)) (hg : Gl X "len" := by rfl) (he : starEach (a :: []) X.env = (false, eval a X.env) :: starEach [] X.env := by rfl) (hpl : (backTo pos (starEach [] X.env)).any (·.1) = false := by rfl) :
    ED X (.Call (.Name "len" p) [a] [] pos) Γ (iD (ds.length : Int)) := by
  refine ed_callB (d := iD (ds.length : Int)) call_len_seq hm PySem.boot_len (ad_cons ha ad_nil he) (fun xs H h Q q => ?_) hg (by decide) (by decide) he hpl
  obtain ⟨x, rfl, h1⟩ := denL_one h
  simp only [Den] at h1
  obtain ⟨p, ys, rfl, hq, hL⟩ := h1
  refine ⟨p, ys, rfl, .inl hq, ?_⟩
  rw [← hL.len]
  exact q _ H (Ex.refl H) (den_v.mpr rfl)
/-- abs(e), int(e) of an int -/
theorem ed_abs {i : Int} {p : Pos} (hm : X.mg "abs" = none) (ha : ED X a Γ (iD i)) (hg : Gl X "abs" := by rfl) (he : starEach (a :: []) X.env = (false, eval a X.env) :: starEach [] X.env := by rfl) (hpl : (backTo pos (starEach [] X.env)).any (·.1) = false := by rfl) :
    ED X (.Call (.Name "abs" p) [a] [] pos) Γ (iD (if i < 0 then -i else i)) := by
  refine ed_callB (d := iD (if i < 0 then -i else i)) call_abs hm (by decide +kernel) (ad_cons ha ad_nil he) (fun xs H h Q q => ?_) hg (by decide) (by decide) he hpl
  obtain ⟨x, rfl, h1⟩ := denL_one h
  rw [den_v.mp h1]
  exact ⟨i, rfl, q _ H (Ex.refl H) (den_v.mpr rfl)⟩
theorem ed_toInt {i : Int} {p : Pos} (hm : X.mg "int" = none) (ha : ED X a Γ (iD i)) (hg : Gl X "int" := by rfl) (he : starEach (a :: []) X.env = (false, eval a X.env) :: starEach [] X.env := by rfl) (hpl : (backTo pos (starEach [] X.env)).any (·.1) = false := by rfl) :
    ED X (.Call (.Name "int" p) [a] [] pos) Γ (iD i) := by
  refine ed_callTy (d := iD i) call_int1 hm (by decide +kernel) (ad_cons ha ad_nil he) (fun xs H h Q q => ?_) hg (by decide) (by decide) he hpl
  obtain ⟨x, rfl, h1⟩ := denL_one h
  rw [den_v.mp h1]
  exact .inl ⟨i, rfl, q _ H (Ex.refl H) (den_v.mpr rfl)⟩

/-! ### loops -/
/-- for x in range(n) -/
theorem z_forR (i : Nat) {x : Str} {n : Nat} {p1 p2 p3 : Pos} (J : Nat → Gm → Prop) (hc : X.calm = true) (hm : X.mg "range" = none) (ha : ED X e Γ (iD (n : Int))) (hd : X.N.Nodup) (hn : (n : Int) < 2 ^ 62) (h0 : J 0 Γ)
    (hs : ∀ j Γ', j < n → J j Γ' → SsD X body (Γ'.set i (some (iD (j : Int)))) (fun o => (∃ Γ'', (o = .nx Γ'' ∨ o = .ct Γ'') ∧ J (j + 1) Γ'') ∨ (∃ d, o = .rt d ∧ Φ (.rt d)) ∨ ∃ Γ'', o = .bk Γ'' ∧ SsD X sts Γ'' Φ))
    (k : ∀ Γ', J n Γ' → SsD X sts Γ' Φ) (hp : PassesOwn (model X.prog X.w) X.A X.env X.xe := by exact PassesOwn.never) (hN : X.N[i]? = some x := by rfl) (hx : Loc X.env.scope x := by first | exact Or.inl rfl | exact Or.inr rfl) (hg : Gl X "range" := by rfl)
    (he : starEach [e] X.env = [(false, eval e X.env)] := by rfl) (hse : starEach (e :: []) X.env = (false, eval e X.env) :: starEach [] X.env := by rfl)
    (hf : X.fn x = true ∨ X.env.scope.names.lookup x = some .local := by first | exact .inl rfl | exact .inr rfl)
    (hfs : ∀ x, foldedSetIterable (.Call (.Name "range" p1) [e] [] p2) X.env x = pure x := by intro _; rfl) : SsD X (.For (.Name x p3) (.Call (.Name "range" p1) [e] [] p2) body [] pos :: sts) Γ Φ := by
  obtain ⟨ta, pa, qa⟩ := ha
  refine ⟨_, pss_cons (ps_for hp hc (pi_range1 hg hm (pa_cons pa pa_nil hse) he) (pg_name (i := i) hd hN hx hf) (pss_all (st' := body)) hfs) (pss_all (st' := sts)), fun σ H hl C E T => ?_⟩
  refine qa σ H C _ fun v H1 e1 h1 => ?_
  refine ⟨(n : Int), by rw [den_v.mp h1], by omega, hn, ?_⟩
  rw [Int.toNat_natCast]
  have hi : i < X.N.length := (List.getElem?_eq_some_iff.mp hN).1
  refine for_range (lo := 0) (n := n) (fun j σ' H' => ∃ Γ', J j Γ' ∧ σ'.length = X.N.length ∧ Ctx X.K H' Γ' σ' ∧ Ex H1 H') ⟨Γ, h0, hl, C.mono e1, Ex.refl H1⟩ ?_ ?_
  · rintro j σ' H' hj ⟨Γ', g1, g2, g3, g4⟩
    show allS X body _ (σ'.set i (some (.int ((0 : Int) + (j : Int))))) H'
    rw [Int.zero_add]
    refine (hs j Γ' hj g1).all (by rw [List.length_set]; exact g2) (g3.set (by rw [g2]; exact hi) (den_v.mpr rfl)) ?_
    refine ⟨fun Γ'' σ2 H2 z e2 l2 c2 => ?_, fun d v H2 z e2 hv => ?_, fun Γ'' σ2 H2 z e2 l2 c2 => ?_, fun Γ'' σ2 H2 z e2 l2 c2 => ?_⟩
    · rcases z with ⟨Γ3, z, w⟩ | ⟨_, z, _⟩ | ⟨_, z, _⟩
      · rcases z with z | z
        · cases z
          exact ⟨Γ'', w, l2, c2, g4.trans e2⟩
        · cases z
      · cases z
      · cases z
    · rcases z with ⟨Γ3, z, w⟩ | ⟨_, z, w⟩ | ⟨_, z, _⟩
      · rcases z with z | z <;> cases z
      · cases z
        exact T.rt d v H2 w ((e1.trans g4).trans e2) hv
      · cases z
    · rcases z with ⟨Γ3, z, w⟩ | ⟨_, z, w⟩ | ⟨_, z, w⟩
      · rcases z with z | z <;> cases z
      · cases z
      · cases z
        exact w.all l2 c2 (T.mono ((e1.trans g4).trans e2))
    · rcases z with ⟨Γ3, z, w⟩ | ⟨_, z, w⟩ | ⟨_, z, w⟩
      · rcases z with z | z
        · cases z
        · cases z
          exact ⟨Γ'', w, l2, c2, g4.trans e2⟩
      · cases z
      · cases z
  · rintro σ' H' ⟨Γ', g1, g2, g3, g4⟩
    exact (k Γ' g1).all g2 g3 (T.mono (e1.trans g4))
/-- while -/
theorem z_while (J : Nat → Gm → Prop) (m0 : Nat) (h0 : J m0 Γ)
    (hs : ∀ m Γ', J m Γ' → ∃ k, TD X c Γ' k ∧ (k = true → SsD X body Γ' (fun o => (∃ Γ'' m', (o = .nx Γ'' ∨ o = .ct Γ'') ∧ m' < m ∧ J m' Γ'') ∨ (∃ d, o = .rt d ∧ Φ (.rt d)) ∨ ∃ Γ'', o = .bk Γ'' ∧ SsD X sts Γ'' Φ)) ∧ (k = false → SsD X sts Γ' Φ))
    (hp : PassesOwn (model X.prog X.w) X.A X.env X.xe := by exact PassesOwn.never) : SsD X (.While c body [] pos :: sts) Γ Φ := by
  refine ⟨_, pss_cons (ps_while hp (pt_all (c := c)) (pss_all (st' := body))) (pss_all (st' := sts)), fun σ H hl C E T => ?_⟩
  refine ⟨fun m σ' H' => ∃ Γ', J m Γ' ∧ σ'.length = X.N.length ∧ Ctx X.K H' Γ' σ' ∧ Ex H H', ⟨m0, Γ, h0, hl, C, Ex.refl H⟩, ?_⟩
  rintro m σ' H' ⟨Γ', g1, g2, g3, g4⟩
  obtain ⟨k, ht, hb, hn⟩ := hs m Γ' g1
  refine ht.all g3 fun H2 e2 => ?_
  cases k with
  | false =>
    show allS X sts E σ' H2
    exact (hn rfl).all g2 (g3.mono e2) (T.mono (g4.trans e2))
  | true =>
    show ∃ N : L2.St → Hp → Prop, _
    refine ⟨fun σ3 H3 => ∃ m' Γ3, m' < m ∧ J m' Γ3 ∧ σ3.length = X.N.length ∧ Ctx X.K H3 Γ3 σ3 ∧ Ex H H3, fun σ3 H3 ⟨m', Γ3, q1, q2, q3, q4, q5⟩ => ⟨m', q1, Γ3, q2, q3, q4, q5⟩, ?_⟩
    refine (hb rfl).all g2 (g3.mono e2) ?_
    refine ⟨fun Γ'' σ2 H2 z e3 l2 c2 => ?_, fun d v H2 z e3 hv => ?_, fun Γ'' σ2 H2 z e3 l2 c2 => ?_, fun Γ'' σ2 H2 z e3 l2 c2 => ?_⟩
    · rcases z with ⟨Γ3, m', z, w1, w2⟩ | ⟨_, z, _⟩ | ⟨_, z, _⟩
      · rcases z with z | z
        · cases z
          exact ⟨m', Γ'', w1, w2, l2, c2, (g4.trans e2).trans e3⟩
        · cases z
      · cases z
      · cases z
    · rcases z with ⟨Γ3, m', z, w⟩ | ⟨_, z, w⟩ | ⟨_, z, _⟩
      · rcases z with z | z <;> cases z
      · cases z
        exact T.rt d v _ w ((g4.trans e2).trans e3) hv
      · cases z
    · rcases z with ⟨Γ3, m', z, w⟩ | ⟨_, z, w⟩ | ⟨_, z, w⟩
      · rcases z with z | z <;> cases z
      · cases z
      · cases z
        exact w.all l2 c2 (T.mono ((g4.trans e2).trans e3))
    · rcases z with ⟨Γ3, m', z, w1, w2⟩ | ⟨_, z, w⟩ | ⟨_, z, w⟩
      · rcases z with z | z
        · cases z
        · cases z
          exact ⟨m', Γ'', w1, w2, l2, c2, (g4.trans e2).trans e3⟩
      · cases z
      · cases z
/-- if c: body, joined behind: from whatever Γ' the two ways leave -/
theorem z_if {k : Bool} {sa sb : List Stmt} (J : Gm → Prop) (hc : TD X c Γ k) (ha : k = true → SsD X sa Γ (fun o => ∃ Γ', o = .nx Γ' ∧ J Γ')) (hb : k = false → SsD X sb Γ (fun o => ∃ Γ', o = .nx Γ' ∧ J Γ')) (h : ∀ Γ', J Γ' → SsD X sts Γ' Φ) : SsD X (.If c sa sb pos :: sts) Γ Φ :=
  ss_seq (Ψ := fun o => ∃ Γ', o = .nx Γ' ∧ J Γ') (sd_if hc ha hb) (fun Γ' ⟨Γ2, e, j⟩ => by
    cases e
    exact h _ j) fun o h1 ⟨Γ2, e, _⟩ => absurd e (h1 _)
end
end Trk

namespace Trk
open PySem L2 Evl
/-! ### comparisons of numbers, of which one at least is a Fraction -/
def R_cmp (C : Addr) (b : Rat → Rat → Bool) : List D → D → Prop := fun ds d => ∃ p y q, ds = [fr C p, y] ∧ NumV C y q ∧ Sz 4000 p ∧ Sz 4000 q ∧ d = bD (b p q)
def cmpB : CmpOp → Rat → Rat → Bool
  | .Eq, p, q => decide (p = q)
  | .NotEq, p, q => !decide (p = q)
  | .Lt, p, q => decide (p < q)
  | .LtE, p, q => decide (p ≤ q)
  | .Gt, p, q => decide (q < p)
  | .GtE, p, q => decide (q ≤ p)
  | _, _, _ => false
def six : CmpOp → Bool
  | .Eq | .NotEq | .Lt | .LtE | .Gt | .GtE => true
  | _ => false
def mirr : CmpOp → CmpOp
  | .Lt => .Gt
  | .LtE => .GtE
  | .Gt => .Lt
  | .GtE => .LtE
  | o => o
theorem cmpB_mirr {op : CmpOp} (p q : Rat) : cmpB (mirr op) q p = cmpB op p q := by
  cases op <;> first | rfl | (show decide (q = p) = decide (p = q); exact decide_eq_decide.mpr eq_comm) | (show (!decide (q = p)) = !decide (p = q); rw [show decide (q = p) = decide (p = q) from decide_eq_decide.mpr eq_comm])
/-- the six methods keep their promises -/
structure CmpOk (P : Program) (w : World) (K : PySem.W.Frag) (mg : Str → Option Value) (base : Heap) (C : Addr) (op : CmpOp) : Prop where
  ex : ∃ f fd ps, CmpM K C (cmpInfo op).2.1 f ∧ FnOk P w K mg base CX0 6 f fd ps (spD K 2 (R_cmp C (cmpB op))) ∧ Binds K fd ps []
def PairV (C : Addr) (x y : D) (p q : Rat) : Prop := (x = fr C p ∧ NumV C y q) ∨ (y = fr C q ∧ NumV C x p)
section
variable {X : Cx} {Γ : Gm} {d1 d2 : D} {a b : Expr} {pos : Pos} {C : Addr} {p q : Rat}
theorem ed_cmpN {op : CmpOp} (T : FrTxt X.K X.mg C) (HC : ∀ op, six op = true → CmpOk X.prog X.w X.K X.mg X.base C op) (h6 : six op = true) (hr : Room 6 X.A) (ha : ED X a Γ d1) (hb : ED X b Γ d2) (h : PairV C d1 d2 p q) (hp : Sz 4000 p) (hq : Sz 4000 q)
    (hm : behindInMarks op b = false := by exact nomark _) : ED X (.Compare a [op] [b] pos) Γ (bD (cmpB op p q)) := by
  obtain ⟨f, fd, ps, M, F, B⟩ := (HC op h6).ex
  have ro : ∀ a b, compareOp op a b = richCompare op a b := by cases op <;> first | (intro _ _; rfl) | cases h6
  rcases h with ⟨rfl, hy⟩ | ⟨rfl, hx⟩
  · rcases id hy with rfl | ⟨n, rfl, rfl⟩
    · exact ed_cmp (cmp_own ro M F hr B pass0) ha hb (rd_own ⟨p, _, q, rfl, hy, hp, hq, rfl⟩) hm
    · exact ed_cmp (cmp_ownI ro M T.sub1 F hr B pass0) ha hb (rd_ownI ⟨p, _, _, rfl, hy, hp, hq, rfl⟩) hm
  · rcases id hx with rfl | ⟨n, rfl, rfl⟩
    · exact ed_cmp (cmp_own ro M F hr B pass0) ha hb (rd_own ⟨p, _, q, rfl, .inl rfl, hp, hq, rfl⟩) hm
    · have h6' : six (mirr op) = true := by cases op <;> first | rfl | cases h6
      obtain ⟨g, gd, qs, M', F', B'⟩ := (HC (mirr op) h6').ex
      have e : (cmpInfo op).2.2 = (cmpInfo (mirr op)).2.1 := by cases op <;> first | rfl | cases h6
      have M2 : CmpM X.K C (cmpInfo op).2.2 g := by rw [e]; exact M'
      have S : ∃ id B, CmpSlot op id B := by
        cases op <;> first | exact ⟨_, _, cEq⟩ | exact ⟨_, _, cNe⟩ | exact ⟨_, _, cLt⟩ | exact ⟨_, _, cLe⟩ | exact ⟨_, _, cGt⟩ | exact ⟨_, _, cGe⟩ | cases h6
      obtain ⟨id, B0, S⟩ := S
      refine ed_is (ed_cmp (cmp_iown ro S M2 T.sub2 F' hr B' pass0) ha hb (rd_iown ⟨q, _, _, rfl, .inr ⟨n, rfl, rfl⟩, hq, hp, rfl⟩) hm) ?_
      rw [cmpB_mirr]
end
/-! ### the script -/
theorem denL_ints {K : PySem.W.Frag} {H : Hp} : ∀ ns : List Int, DenL K H (ns.map iD) (ns.map V.int)
  | [] => DenL.nil
  | n :: ns => DenL.cons (den_v.mpr rfl) (denL_ints ns)
theorem den_script {K : PySem.W.Frag} {H : Hp} {a : Addr} {ns : List Int} (h : SqL K H a (ns.map V.int)) : Den K H (.lst (ns.map iD)) (.ref a) := by
  simp only [Den]
  exact ⟨a, _, rfl, h, denL_ints ns⟩
/-- _law_cell -/
def R_cell : List D → D → Prop := fun ds d => ∃ (ns : List Int) (k : Nat), ds = [.lst (ns.map iD), iD (k : Int)] ∧ d = iD (ns.getD k 0)
theorem at_nat {α : Type} {xs : List α} {j : Nat} {v : α} (h : xs[j]? = some v) : atI xs (j : Int) = some v := atI_nat h
/-- the law itself -/
def R_law : List D → D → Prop := fun ds d => ∃ ns : List Int, ds = [.lst (ns.map iD)] ∧ ns.length ≤ 63 ∧ d = bD true
theorem sp_law {K : PySem.W.Frag} {H : Hp} {a : Addr} {ns : List Int} {Q : VK} {E : XK} (hl : ns.length ≤ 63) (hS : SqL K H a (ns.map V.int)) (h : ∀ H', Q (.bl true) H') : spD K 1 R_law [.ref a] H Q E :=
  ⟨_, _, rfl, DenL.cons (den_script hS) DenL.nil, ⟨ns, rfl, hl, rfl⟩, fun v H' _ hv => by
    rw [den_v.mp hv]
    exact h H'⟩
end Trk

namespace Law
open PySem L2 Evl Trk
def top (i : Nat) : Stmt := PySem.Challenge.pw_tracerline_k03_order.main.body.getD i (.Pass ⟨0, 0, 0, 0⟩)
abbrev s_init : Stmt := inClass (top 6) 0
abbrev s_eq : Stmt := inClass (top 6) 11
abbrev s_ne : Stmt := inClass (top 6) 12
abbrev s_lt : Stmt := inClass (top 6) 13
abbrev s_le : Stmt := inClass (top 6) 14
abbrev s_gt : Stmt := inClass (top 6) 15
abbrev s_ge : Stmt := inClass (top 6) 16
abbrev s_asf : Stmt := top 7
abbrev s_isn : Stmt := top 8
abbrev s_ord : Stmt := top 9
abbrev s_cell : Stmt := top 11
abbrev s_num : Stmt := top 12
abbrev s_sgn : Stmt := top 13
abbrev s_law : Stmt := top 14
section
variable {P : Program} {w : World} {K : PySem.W.Frag} {mg : Str → Option Value} {base : Heap} {C : Addr}
theorem sc_init : FnScope ["self", "top", "bottom", "common"] ["self", "top", "bottom"] (defScope s_init) := ⟨rfl, rfl, rfl, by decide +kernel, rfl, by decide +kernel, by decide +kernel⟩
theorem ok_init {f : Addr} {fd : FuncData} {dvs : List V} (F : FunD K "__init__" "Fraction.__init__" (defArgs s_init) (defBody s_init) (defScope s_init) dvs [] f fd) (T : FrTxt K mg C) : FnOk P w K mg base CX0 1 f fd ["self", "top", "bottom"] (spInit C) := by
  refine F.ok sc_init (fun vs H Q E h => ?_) (fun cdv A outer s H vs Q E hr h => ?_)
  · obtain ⟨p, dx, a, b, rfl, _⟩ := h
    rfl
  · obtain ⟨p, dx, a, b, rfl, h0, hz, hp, k⟩ := h
    have hcz : CDivZ a (cmn a b) := cdivZ_of (cmn_ne h0) (Nat.lt_of_le_of_lt (cmn_le h0) hz)
    have hcz2 : CDivZ b (cmn a b) := hcz
    refine ⟨_, PSs.nox (pss_cons (ps_if (pt_cmpR op_eq (pv 2) pe_int (nomark _)) pss_nv pss_nil)
      (pss_cons (ps_set (i := 3) sc_init.nd rfl (Or.inl rfl) (pe_callBfun cr_gcd (by rfl) T.gcd (pa_cons (pv 1) (pa_cons (pv 2) pa_nil))))
      (pss_cons (ps_if (pt_cmpR op_lt (pv 2) pe_int (nomark _)) (pss_one (ps_set (i := 3) sc_init.nd rfl (Or.inl rfl) (pe_un un_neg (pv 3)))) pss_nil)
      (pss_cons (ps_fld (pv 0) (pe_op op_fdivZ (pv 1) (pv 3)) rfl)
      (pss_one (ps_fld (pv 0) (pe_op op_fdivZ (pv 2) (pv 3)) rfl)))))), ?_⟩
    refine ⟨_, rfl, rfl, _, rfl, ?_⟩
    refine ite2 (fun z => absurd (of_decide_eq_true z) (fun q => h0 (V.int.inj q))) (fun _ => ?_)
    refine ⟨_, rfl, _, rfl, a, b, rfl, ?_⟩
    have fin : ∀ c : Int, c = cmn a b → ∀ σ' : L2.St, σ' = [some (.ref p), some (.int a), some (.int b), some (.int c)] → tSeq (sFld K (tVar 0) (tOp (rI CDivZ fun i j => .int (i.fdiv j)) (tVar 1) (tVar 3)) "top") (sFld K (tVar 0) (tOp (rI CDivZ fun i j => .int (i.fdiv j)) (tVar 2) (tVar 3)) "bottom") { nx := fun _ H' => Q .non H', rt := Q } σ' H := by
      rintro c rfl σ' rfl
      refine ⟨_, rfl, _, rfl, a, _, rfl, rfl, hcz, _, rfl, p, C, dx, [], rfl, hp, T.cl, T.nT, (by show 0 < 1000; decide), ?_⟩
      refine ⟨_, rfl, _, rfl, b, _, rfl, rfl, hcz2, _, rfl, p, C, dx, _, rfl, upd_same, T.cl, T.nB, (by show 1 < 1000; decide), ?_⟩
      rw [upd_upd]
      show Q .non (upd H p (.ins C dx (putF "bottom" (.int (b.fdiv (cmn a b))) (putF "top" (.int (a.fdiv (cmn a b))) []))))
      rw [top_eq h0, bottom_eq h0]
      exact k
    refine ⟨_, rfl, b, 0, rfl, rfl, _, rfl, ?_⟩
    refine ite2 (fun z => ?_) (fun z => ?_)
    · refine ⟨_, rfl, _, rfl, ?_⟩
      refine fin _ ?_ _ rfl
      unfold cmn
      rw [if_pos (of_decide_eq_true z)]
    · refine fin _ ?_ _ rfl
      unfold cmn
      rw [if_neg (of_decide_eq_false (by simpa using z))]

/-! ### as_fraction, _is_number, _order -/
theorem sc_isn : FnScope ["thing"] ["thing"] (defScope s_isn) := ⟨rfl, rfl, rfl, by decide +kernel, rfl, by decide +kernel, by decide +kernel⟩
def R_isn (C : Addr) : List D → D → Prop := fun ds d => (∃ y q, ds = [y] ∧ NumV C y q) ∧ d = bD true
theorem kit_int : PySem.W.kitOne K (.type "int") (.type "int") = some true := kit_ty (by decide +kernel)
theorem isn_any (T : FrTxt K mg C) {y : D} {q : Rat} (h : NumV C y q) : ∃ t, TyD K mg y t ∧ PySem.W.kitAny K t [.ref C, .type "int"] = some true := by
  rcases h with rfl | ⟨n, rfl, rfl⟩
  · exact ⟨_, .fr T, kitAny_cons T.kCC (fun z => by cases z) fun _ => rfl⟩
  · exact ⟨_, .int n, kitAny_cons T.kIC (fun _ => kitAny_cons kit_int (fun z => by cases z) fun _ => rfl) fun z => by cases z⟩
theorem ok_isn {f : Addr} {fd : FuncData} (F : Fun K "_is_number" "_is_number" s_isn f fd) (T : FrTxt K mg C) : FnOk P w K mg base CX0 1 f fd ["thing"] (spD K 1 (R_isn C)) := by
  refine fn_D F sc_isn (by decide) fun cdv A outer s H E ds d hr hl hR => ?_
  obtain ⟨⟨y, q, rfl, hy⟩, rfl⟩ := hR
  obtain ⟨t, h1, h2⟩ := isn_any T hy
  exact z_ret (ed_isi2 T.isi (ed_var 0 rfl) (pe_glob (v := .ref C) rfl T.mgC rfl) (pe_bltn (v := .ty "int") rfl T.tInt (by decide +kernel) rfl) (.own C) (.ty "int") h1 h2) (.inl rfl)
theorem sc_asf : FnScope ["number"] ["number"] (defScope s_asf) := ⟨rfl, rfl, rfl, by decide +kernel, rfl, by decide +kernel, by decide +kernel⟩
def R_asf (C : Addr) : List D → D → Prop := fun ds d => ∃ y q, ds = [y] ∧ NumV C y q ∧ d = fr C q
theorem ok_asf {f fI : Addr} {fd fdI : FuncData} {du : List Value} (F : Fun K "as_fraction" "as_fraction" s_asf f fd) (T : FrTxt K mg C) (M : Mk K C fI) (FI : FnOk P w K mg base CX0 1 fI fdI ["self", "top", "bottom"] (spInit C)) (bI : Binds K fdI ["self", "top", "bottom"] du) (hd : Vals [V.int 1] du) :
    FnOk P w K mg base CX0 3 f fd ["number"] (spD K 1 (R_asf C)) := by
  refine fn_D F sc_asf (by decide) fun cdv A outer s H E ds d hr hl hR => ?_
  obtain ⟨y, q, rfl, hy, rfl⟩ := hR
  rcases hy with rfl | ⟨n, rfl, rfl⟩
  · refine z_ifR (b := true) (td_val (ed_isi T.isi (ed_var 0 rfl) (ed_glob (v := .ref C) T.mgC rfl) (.own C) (.fr T) T.kCC)) (fun _ => z_ret (ed_var 0 rfl) ⟨(fun _ z => by cases z), .inl rfl⟩) (fun z => by cases z)
  · refine z_ifF (td_val (ed_isi T.isi (ed_var 0 rfl) (ed_glob (v := .ref C) T.mgC rfl) (.own C) (.int n) T.kIC)) ?_
    exact z_ret (ed_mk1 M FI hr T.mgC bI hd pass0 (ed_var 0 rfl)) (.inl rfl)
theorem sc_ord : FnScope ["fraction", "number", "other"] ["fraction", "number"] (defScope s_ord) := ⟨rfl, rfl, rfl, by decide +kernel, rfl, by decide +kernel, by decide +kernel⟩
def R_ord (C : Addr) : List D → D → Prop := fun ds d => ∃ p y q, ds = [fr C p, y] ∧ NumV C y q ∧ Sz 4000 p ∧ Sz 4000 q ∧ d = iD (p.num * (q.den : Int) - q.num * (p.den : Int))
theorem wm {i j : Int} (hi : i.natAbs < 2 ^ 4000) (hj : j.natAbs < 2 ^ 4000) : CMulW i j := wide_mul hi hj (by decide) (by decide) (by decide)
theorem ok_ord {f fA : Addr} {fd fdA : FuncData} (F : Fun K "_order" "_order" s_ord f fd) (T : FrTxt K mg C) (FA : FnOk P w K mg base CX0 3 fA fdA ["number"] (spD K 1 (R_asf C))) (mA : mg "as_fraction" = some (.ref fA)) (kA : PySem.W.keepIn K (.ref fA) = true) (bA : Binds K fdA ["number"] []) :
    FnOk P w K mg base CX0 4 f fd ["fraction", "number"] (spD K 2 (R_ord C)) := by
  refine fn_D F sc_ord (by decide) fun cdv A outer s H E ds d hr hl hR => ?_
  obtain ⟨p, y, q, rfl, hy, hp, hq, rfl⟩ := hR
  refine z_asg 2 (d := fr C q) (ed_call FA hr mA kA bA pass0 (ad_cons (ed_var 1 rfl) ad_nil) ⟨y, q, rfl, hy, rfl⟩) sc_ord.nd ?_
  refine z_ret (ed_op op_sub (ed_op op_mulW (ed_fld (ed_var 0 rfl) T.cl T.nT rfl) (ed_fld (ed_var 2 rfl) T.cl T.nB rfl) (rd_I (wm hp.num hq.denI))) (ed_op op_mulW (ed_fld (ed_var 2 rfl) T.cl T.nT rfl) (ed_fld (ed_var 0 rfl) T.cl T.nB rfl) (rd_I (wm hq.num hp.denI))) rd_I0) (.inl rfl)

/-! ### the comparisons -/
theorem o_lt {p q : Rat} : bD (decide (p.num * (q.den : Int) - q.num * (p.den : Int) < 0)) = bD (decide (p < q)) := by
  refine congrArg bD (decide_eq_decide.mpr ?_)
  rw [Rat.lt_iff]
  omega
theorem o_le {p q : Rat} : bD (decide (p.num * (q.den : Int) - q.num * (p.den : Int) ≤ 0)) = bD (decide (p ≤ q)) := by
  refine congrArg bD (decide_eq_decide.mpr ?_)
  rw [Rat.le_iff]
  omega
theorem o_gt {p q : Rat} : bD (decide (0 < p.num * (q.den : Int) - q.num * (p.den : Int))) = bD (decide (q < p)) := by
  refine congrArg bD (decide_eq_decide.mpr ?_)
  rw [Rat.lt_iff]
  omega
theorem o_ge {p q : Rat} : bD (decide (0 ≤ p.num * (q.den : Int) - q.num * (p.den : Int))) = bD (decide (q ≤ p)) := by
  refine congrArg bD (decide_eq_decide.mpr ?_)
  rw [Rat.le_iff]
  omega
theorem o_eq {p q : Rat} : bD (decide (V.int (p.num * (q.den : Int) - q.num * (p.den : Int)) = V.int 0)) = bD (decide (p = q)) := by
  refine congrArg bD (decide_eq_decide.mpr ⟨fun h => ?_, fun h => ?_⟩)
  · have h' := V.int.inj h
    exact Rat.le_antisymm ((Rat.le_iff p q).mpr (by omega)) ((Rat.le_iff q p).mpr (by omega))
  · subst h
    rw [Int.sub_self]

theorem sc_eq : FnScope ["self", "other"] ["self", "other"] (defScope s_eq) := ⟨rfl, rfl, rfl, by decide +kernel, rfl, by decide +kernel, by decide +kernel⟩
theorem ok_eq {f fA fO : Addr} {fd fdA fdO : FuncData} (F : Fun K "__eq__" "Fraction.__eq__" s_eq f fd) (T : FrTxt K mg C) (FN : FnOk P w K mg base CX0 1 fA fdA ["thing"] (spD K 1 (R_isn C))) (mA : mg "_is_number" = some (.ref fA)) (kA : PySem.W.keepIn K (.ref fA) = true) (bA : Binds K fdA ["thing"] [])
    (FO : FnOk P w K mg base CX0 4 fO fdO ["fraction", "number"] (spD K 2 (R_ord C))) (mO : mg "_order" = some (.ref fO)) (kO : PySem.W.keepIn K (.ref fO) = true) (bO : Binds K fdO ["fraction", "number"] []) :
    FnOk P w K mg base CX0 5 f fd ["self", "other"] (spD K 2 (R_cmp C fun p q => decide (p = q))) := by
  refine fn_D F sc_eq (by decide) fun cdv A outer s H E ds d hr hl hR => ?_
  obtain ⟨p, y, q, rfl, hy, hp, hq, rfl⟩ := hR
  refine z_ifF (td_not (k := true) (td_val (ed_call FN (hr.mono (by decide)) mA kA bA pass0 (ad_cons (ed_var 1 rfl) ad_nil) ⟨⟨y, q, rfl, hy⟩, rfl⟩))) ?_
  exact z_ret (ed_is (ed_cmp op_eq (ed_call FO hr mO kO bO pass0 (ad_cons (ed_var 0 rfl) (ad_cons (ed_var 1 rfl) ad_nil)) ⟨p, y, q, rfl, hy, hp, hq, rfl⟩) ed_int (rd_eq rfl)) o_eq) (.inl rfl)

theorem sc_lt : FnScope ["self", "other"] ["self", "other"] (defScope s_lt) := ⟨rfl, rfl, rfl, by decide +kernel, rfl, by decide +kernel, by decide +kernel⟩
theorem ok_lt {f fA fO : Addr} {fd fdA fdO : FuncData} (F : Fun K "__lt__" "Fraction.__lt__" s_lt f fd) (T : FrTxt K mg C) (FN : FnOk P w K mg base CX0 1 fA fdA ["thing"] (spD K 1 (R_isn C))) (mA : mg "_is_number" = some (.ref fA)) (kA : PySem.W.keepIn K (.ref fA) = true) (bA : Binds K fdA ["thing"] [])
    (FO : FnOk P w K mg base CX0 4 fO fdO ["fraction", "number"] (spD K 2 (R_ord C))) (mO : mg "_order" = some (.ref fO)) (kO : PySem.W.keepIn K (.ref fO) = true) (bO : Binds K fdO ["fraction", "number"] []) :
    FnOk P w K mg base CX0 5 f fd ["self", "other"] (spD K 2 (R_cmp C fun p q => decide (p < q))) := by
  refine fn_D F sc_lt (by decide) fun cdv A outer s H E ds d hr hl hR => ?_
  obtain ⟨p, y, q, rfl, hy, hp, hq, rfl⟩ := hR
  refine z_ifF (td_not (k := true) (td_val (ed_call FN (hr.mono (by decide)) mA kA bA pass0 (ad_cons (ed_var 1 rfl) ad_nil) ⟨⟨y, q, rfl, hy⟩, rfl⟩))) ?_
  exact z_ret (ed_is (ed_cmp op_lt (ed_call FO hr mO kO bO pass0 (ad_cons (ed_var 0 rfl) (ad_cons (ed_var 1 rfl) ad_nil)) ⟨p, y, q, rfl, hy, hp, hq, rfl⟩) ed_int rd_I0) o_lt) (.inl rfl)

theorem sc_le : FnScope ["self", "other"] ["self", "other"] (defScope s_le) := ⟨rfl, rfl, rfl, by decide +kernel, rfl, by decide +kernel, by decide +kernel⟩
theorem ok_le {f fA fO : Addr} {fd fdA fdO : FuncData} (F : Fun K "__le__" "Fraction.__le__" s_le f fd) (T : FrTxt K mg C) (FN : FnOk P w K mg base CX0 1 fA fdA ["thing"] (spD K 1 (R_isn C))) (mA : mg "_is_number" = some (.ref fA)) (kA : PySem.W.keepIn K (.ref fA) = true) (bA : Binds K fdA ["thing"] [])
    (FO : FnOk P w K mg base CX0 4 fO fdO ["fraction", "number"] (spD K 2 (R_ord C))) (mO : mg "_order" = some (.ref fO)) (kO : PySem.W.keepIn K (.ref fO) = true) (bO : Binds K fdO ["fraction", "number"] []) :
    FnOk P w K mg base CX0 5 f fd ["self", "other"] (spD K 2 (R_cmp C fun p q => decide (p ≤ q))) := by
  refine fn_D F sc_le (by decide) fun cdv A outer s H E ds d hr hl hR => ?_
  obtain ⟨p, y, q, rfl, hy, hp, hq, rfl⟩ := hR
  refine z_ifF (td_not (k := true) (td_val (ed_call FN (hr.mono (by decide)) mA kA bA pass0 (ad_cons (ed_var 1 rfl) ad_nil) ⟨⟨y, q, rfl, hy⟩, rfl⟩))) ?_
  exact z_ret (ed_is (ed_cmp op_le (ed_call FO hr mO kO bO pass0 (ad_cons (ed_var 0 rfl) (ad_cons (ed_var 1 rfl) ad_nil)) ⟨p, y, q, rfl, hy, hp, hq, rfl⟩) ed_int rd_I0) o_le) (.inl rfl)

theorem sc_gt : FnScope ["self", "other"] ["self", "other"] (defScope s_gt) := ⟨rfl, rfl, rfl, by decide +kernel, rfl, by decide +kernel, by decide +kernel⟩
theorem ok_gt {f fA fO : Addr} {fd fdA fdO : FuncData} (F : Fun K "__gt__" "Fraction.__gt__" s_gt f fd) (T : FrTxt K mg C) (FN : FnOk P w K mg base CX0 1 fA fdA ["thing"] (spD K 1 (R_isn C))) (mA : mg "_is_number" = some (.ref fA)) (kA : PySem.W.keepIn K (.ref fA) = true) (bA : Binds K fdA ["thing"] [])
    (FO : FnOk P w K mg base CX0 4 fO fdO ["fraction", "number"] (spD K 2 (R_ord C))) (mO : mg "_order" = some (.ref fO)) (kO : PySem.W.keepIn K (.ref fO) = true) (bO : Binds K fdO ["fraction", "number"] []) :
    FnOk P w K mg base CX0 5 f fd ["self", "other"] (spD K 2 (R_cmp C fun p q => decide (q < p))) := by
  refine fn_D F sc_gt (by decide) fun cdv A outer s H E ds d hr hl hR => ?_
  obtain ⟨p, y, q, rfl, hy, hp, hq, rfl⟩ := hR
  refine z_ifF (td_not (k := true) (td_val (ed_call FN (hr.mono (by decide)) mA kA bA pass0 (ad_cons (ed_var 1 rfl) ad_nil) ⟨⟨y, q, rfl, hy⟩, rfl⟩))) ?_
  exact z_ret (ed_is (ed_cmp op_gt (ed_call FO hr mO kO bO pass0 (ad_cons (ed_var 0 rfl) (ad_cons (ed_var 1 rfl) ad_nil)) ⟨p, y, q, rfl, hy, hp, hq, rfl⟩) ed_int rd_I0) o_gt) (.inl rfl)

theorem sc_ge : FnScope ["self", "other"] ["self", "other"] (defScope s_ge) := ⟨rfl, rfl, rfl, by decide +kernel, rfl, by decide +kernel, by decide +kernel⟩
theorem ok_ge {f fA fO : Addr} {fd fdA fdO : FuncData} (F : Fun K "__ge__" "Fraction.__ge__" s_ge f fd) (T : FrTxt K mg C) (FN : FnOk P w K mg base CX0 1 fA fdA ["thing"] (spD K 1 (R_isn C))) (mA : mg "_is_number" = some (.ref fA)) (kA : PySem.W.keepIn K (.ref fA) = true) (bA : Binds K fdA ["thing"] [])
    (FO : FnOk P w K mg base CX0 4 fO fdO ["fraction", "number"] (spD K 2 (R_ord C))) (mO : mg "_order" = some (.ref fO)) (kO : PySem.W.keepIn K (.ref fO) = true) (bO : Binds K fdO ["fraction", "number"] []) :
    FnOk P w K mg base CX0 5 f fd ["self", "other"] (spD K 2 (R_cmp C fun p q => decide (q ≤ p))) := by
  refine fn_D F sc_ge (by decide) fun cdv A outer s H E ds d hr hl hR => ?_
  obtain ⟨p, y, q, rfl, hy, hp, hq, rfl⟩ := hR
  refine z_ifF (td_not (k := true) (td_val (ed_call FN (hr.mono (by decide)) mA kA bA pass0 (ad_cons (ed_var 1 rfl) ad_nil) ⟨⟨y, q, rfl, hy⟩, rfl⟩))) ?_
  exact z_ret (ed_is (ed_cmp op_ge (ed_call FO hr mO kO bO pass0 (ad_cons (ed_var 0 rfl) (ad_cons (ed_var 1 rfl) ad_nil)) ⟨p, y, q, rfl, hy, hp, hq, rfl⟩) ed_int rd_I0) o_ge) (.inl rfl)

theorem sc_ne : FnScope ["self", "other"] ["self", "other"] (defScope s_ne) := ⟨rfl, rfl, rfl, by decide +kernel, rfl, by decide +kernel, by decide +kernel⟩
theorem ok_ne {f fE : Addr} {fd fdE : FuncData} (F : Fun K "__ne__" "Fraction.__ne__" s_ne f fd) (T : FrTxt K mg C) (ME : CmpM K C "__eq__" fE) (FE : FnOk P w K mg base CX0 5 fE fdE ["self", "other"] (spD K 2 (R_cmp C fun p q => decide (p = q)))) (bE : Binds K fdE ["self", "other"] []) :
    FnOk P w K mg base CX0 6 f fd ["self", "other"] (spD K 2 (R_cmp C fun p q => !decide (p = q))) := by
  refine fn_D F sc_ne (by decide) fun cdv A outer s H E ds d hr hl hR => ?_
  obtain ⟨p, y, q, rfl, hy, hp, hq, rfl⟩ := hR
  rcases id hy with rfl | ⟨n, rfl, rfl⟩
  · exact z_ret (ed_not (ed_cmp (cmp_own (fun _ _ => rfl) ME FE hr bE pass0) (ed_var 0 rfl) (ed_var 1 rfl) (rd_own ⟨p, _, q, rfl, hy, hp, hq, rfl⟩))) (.inl rfl)
  · exact z_ret (ed_not (ed_cmp (cmp_ownI (fun _ _ => rfl) ME T.sub1 FE hr bE pass0) (ed_var 0 rfl) (ed_var 1 rfl) (rd_ownI ⟨p, _, _, rfl, hy, hp, hq, rfl⟩))) (.inl rfl)

/-! ### the law's own helpers -/
theorem sc_cell : FnScope ["_law_script", "_law_k"] ["_law_script", "_law_k"] (defScope s_cell) := ⟨rfl, rfl, rfl, by decide +kernel, rfl, by decide +kernel, by decide +kernel⟩
theorem ok_cell {f : Addr} {fd : FuncData} (F : Fun K "_law_cell" "_law_cell" s_cell f fd) (mL : mg "len" = none) : FnOk P w K mg base CX0 1 f fd ["_law_script", "_law_k"] (spD K 2 R_cell) := by
  refine fn_D F sc_cell (by decide) fun cdv A outer s H E ds d hr hl hR => ?_
  obtain ⟨ns, k, rfl, rfl⟩ := hR
  refine z_ifR (b := decide ((k : Int) < ((ns.map iD).length : Int))) (td_cmp op_lt (ed_var 1 rfl) (ed_len mL (ed_var 0 rfl)) rd_I0) (fun hk => ?_) (fun hk => ?_)
  · have hk' : k < ns.length := by
      have := of_decide_eq_true hk
      rw [List.length_map] at this
      omega
    refine z_ret (ed_ix (d := iD (ns.getD k 0)) (ed_var 0 rfl) (ed_var 1 rfl) (at_nat ?_)) ⟨(fun _ z => by cases z), .inl rfl⟩
    rw [List.getElem?_map, List.getElem?_eq_getElem hk', List.getD_eq_getElem?_getD, List.getElem?_eq_getElem hk']
    rfl
  · have hk' : ¬ k < ns.length := by
      have := of_decide_eq_false hk
      rw [List.length_map] at this
      omega
    rw [show ns.getD k 0 = 0 by rw [List.getD_eq_getElem?_getD, List.getElem?_eq_none (by omega)]; rfl]
    exact z_ret ed_int (.inl rfl)
/-- _law_number -/
def lawMod (c : Int) : Int := if c % 3 = 0 then 12 else if c % 3 = 1 then 1000 else 10 ^ 60
def lawNum (x c : Int) : Int := if c / 3 % 2 = 1 then -(x % lawMod c) else x % lawMod c
def R_num : List D → D → Prop := fun ds d => ∃ x c : Int, ds = [iD x, iD c] ∧ d = iD (lawNum x c)
theorem lawMod_pos (c : Int) : 0 < lawMod c := by
  unfold lawMod
  split
  · decide
  · split <;> decide
theorem lawMod_le (c : Int) : lawMod c ≤ 10 ^ 60 := by
  unfold lawMod
  split
  · decide
  · split <;> decide
theorem lawNum_lt (x c : Int) : (lawNum x c).natAbs < 10 ^ 60 := by
  have h1 := Int.emod_nonneg x (show lawMod c ≠ 0 from fun h => by have := lawMod_pos c; omega)
  have h2 := Int.emod_lt_of_pos x (lawMod_pos c)
  have h3 := lawMod_le c
  unfold lawNum
  generalize x % lawMod c = r at *
  have h4 : r < 10 ^ 60 := Int.lt_of_lt_of_le h2 h3
  have h5 : r.natAbs < 10 ^ 60 := by omega
  split <;> omega
theorem sc_num : FnScope ["_law_cell_here", "_law_choice", "_law_number_here"] ["_law_cell_here", "_law_choice"] (defScope s_num) := ⟨rfl, rfl, rfl, by decide +kernel, rfl, by decide +kernel, by decide +kernel⟩
theorem ok_num {f : Addr} {fd : FuncData} (F : Fun K "_law_number" "_law_number" s_num f fd) (tI : mg "int" = none) : FnOk P w K mg base CX0 1 f fd ["_law_cell_here", "_law_choice"] (spD K 2 R_num) := by
  refine fn_D F sc_num (by decide) fun cdv A outer s H E ds d hr hl hR => ?_
  obtain ⟨x, c, rfl, rfl⟩ := hR
  have hat : atI [iD 12, iD 1000, iD (10 ^ (60 : Int).toNat)] (c % 3) = some (iD (lawMod c)) := by
    have h1 := Int.emod_nonneg c (show (3 : Int) ≠ 0 by decide)
    have h2 := Int.emod_lt_of_pos c (show (0 : Int) < 3 by decide)
    unfold lawMod
    generalize c % 3 = r at *
    obtain rfl | rfl | rfl : r = 0 ∨ r = 1 ∨ r = 2 := by omega
    · rfl
    · rfl
    · rfl
  refine z_asg 2 (ed_op op_mod (ed_toInt tI (ed_var 0 rfl)) (ed_ix (ed_lst (ad_cons ed_int (ad_cons ed_int (ad_cons (ed_op op_pow ed_int ed_int (rd_I ⟨by decide, by decide, by decide⟩)) ad_nil)))) (ed_op op_mod (ed_var 1 rfl) ed_int (rd_I (by decide))) hat) (rd_I (lawMod_pos c))) sc_num.nd ?_
  refine z_ifR (b := decide (V.int (c / 3 % 2) = V.int 1)) (td_cmp op_eq (ed_op op_mod (ed_op op_fdiv (ed_var 1 rfl) ed_int (rd_I ⟨by decide, by decide⟩)) ed_int (rd_I (by decide))) ed_int (rd_eq rfl)) (fun hk => ?_) (fun hk => ?_)
  · have hk' := V.int.inj (of_decide_eq_true hk)
    refine z_ret (ed_un un_neg (ed_var 2 rfl) ud_neg) ⟨(fun _ z => by cases z), .inl ?_⟩
    unfold lawNum
    rw [if_pos hk']
  · have hk' : ¬ (c / 3 % 2 = 1) := fun q => of_decide_eq_false hk (by rw [q])
    refine z_ret (ed_var 2 rfl) (.inl ?_)
    unfold lawNum
    rw [if_neg hk']
/-- _law_signs -/
def R_sgn (C : Addr) : List D → D → Prop := fun ds d => ∃ x y p q z, ds = [x, y, iD z] ∧ PairV C x y p q ∧ Sz 4000 p ∧ Sz 4000 q ∧ (z < 0 ↔ p < q) ∧ (0 < z ↔ q < p) ∧ d = bD true
theorem sc_sgn : FnScope ["_law_left", "_law_right", "_law_difference", "_law_asked", "_law_expected", "_law_k"] ["_law_left", "_law_right", "_law_difference"] (defScope s_sgn) := ⟨rfl, rfl, rfl, by decide +kernel, rfl, by decide +kernel, by decide +kernel⟩
def sixB (p q : Rat) : List Bool := [cmpB .Lt p q, cmpB .LtE p q, cmpB .Eq p q, cmpB .NotEq p q, cmpB .Gt p q, cmpB .GtE p q]
theorem six_exp {z : Int} {p q : Rat} (h1 : z < 0 ↔ p < q) (h2 : 0 < z ↔ q < p) : [bD (decide (z < 0)), bD (decide (z ≤ 0)), bD (decide (V.int z = V.int 0)), bD (!decide (V.int z = V.int 0)), bD (decide (0 < z)), bD (decide (0 ≤ z))] = (sixB p q).map bD := by
  have e1 : decide (z < 0) = decide (p < q) := decide_eq_decide.mpr h1
  have e2 : decide (0 < z) = decide (q < p) := decide_eq_decide.mpr h2
  have e3 : decide (z ≤ 0) = decide (p ≤ q) := decide_eq_decide.mpr (by rw [← Rat.not_lt, ← h2]; omega)
  have e4 : decide (0 ≤ z) = decide (q ≤ p) := decide_eq_decide.mpr (by rw [← Rat.not_lt, ← h1]; omega)
  have e5 : decide (V.int z = V.int 0) = decide (p = q) := decide_eq_decide.mpr ⟨fun h => by
    have h' := V.int.inj h
    exact Rat.le_antisymm (Rat.not_lt.mp (fun k => by have := h2.mpr k; omega)) (Rat.not_lt.mp (fun k => by have := h1.mpr k; omega)), fun h => by
    subst h
    have n1 : ¬ z < 0 := fun k => Rat.lt_irrefl (h1.mp k)
    have n2 : ¬ 0 < z := fun k => Rat.lt_irrefl (h2.mp k)
    rw [show z = 0 by omega]⟩
  show [bD (decide (z < 0)), bD (decide (z ≤ 0)), bD (decide (V.int z = V.int 0)), bD (!decide (V.int z = V.int 0)), bD (decide (0 < z)), bD (decide (0 ≤ z))] = [bD (decide (p < q)), bD (decide (p ≤ q)), bD (decide (p = q)), bD (!decide (p = q)), bD (decide (q < p)), bD (decide (q ≤ p))]
  rw [e1, e2, e3, e4, e5]
theorem kit_bool : PySem.W.kitOne K (.type "bool") (.type "bool") = some true := kit_ty (by decide +kernel)
theorem ok_sgn {f : Addr} {fd : FuncData} (F : Fun K "_law_signs" "_law_signs" s_sgn f fd) (T : FrTxt K mg C) (HC : ∀ op, six op = true → CmpOk P w K mg base C op) (mR : mg "range" = none) (mB : mg "bool" = none) : FnOk P w K mg base CX0 7 f fd ["_law_left", "_law_right", "_law_difference"] (spD K 3 (R_sgn C)) := by
  refine fn_D F sc_sgn (by decide) fun cdv A outer s H E ds d hr hl hR => ?_
  obtain ⟨x, y, p, q, z, rfl, hxy, hp, hq, h1, h2, rfl⟩ := hR
  refine z_asg 3 (d := .lst ((sixB p q).map bD)) (ed_lst (ad_cons (ed_cmpN T HC rfl hr (ed_var 0 rfl) (ed_var 1 rfl) hxy hp hq) (ad_cons (ed_cmpN T HC rfl hr (ed_var 0 rfl) (ed_var 1 rfl) hxy hp hq) (ad_cons (ed_cmpN T HC rfl hr (ed_var 0 rfl) (ed_var 1 rfl) hxy hp hq)
    (ad_cons (ed_cmpN T HC rfl hr (ed_var 0 rfl) (ed_var 1 rfl) hxy hp hq) (ad_cons (ed_cmpN T HC rfl hr (ed_var 0 rfl) (ed_var 1 rfl) hxy hp hq) (ad_cons (ed_cmpN T HC rfl hr (ed_var 0 rfl) (ed_var 1 rfl) hxy hp hq) ad_nil))))))) sc_sgn.nd ?_
  refine z_asg 4 (d := .lst ((sixB p q).map bD)) (ed_is (ed_lst (ad_cons (ed_cmp op_lt (ed_var 2 rfl) ed_int rd_I0) (ad_cons (ed_cmp op_le (ed_var 2 rfl) ed_int rd_I0) (ad_cons (ed_cmp op_eq (ed_var 2 rfl) ed_int (rd_eq rfl)) (ad_cons (ed_cmp op_ne (ed_var 2 rfl) ed_int (rd_ne rfl))
    (ad_cons (ed_cmp op_gt (ed_var 2 rfl) ed_int rd_I0) (ad_cons (ed_cmp op_ge (ed_var 2 rfl) ed_int rd_I0) ad_nil))))))) (congrArg D.lst (six_exp h1 h2))) sc_sgn.nd ?_
  refine z_forR 5 (n := 6) (fun _ Γ' => ∃ o, Γ' = [some x, some y, some (iD z), some (.lst ((sixB p q).map bD)), some (.lst ((sixB p q).map bD)), o]) rfl mR ed_int sc_sgn.nd (by decide) ⟨none, rfl⟩ ?_ ?_
  · rintro j Γ' hj ⟨o, rfl⟩
    have hj' : j < (sixB p q).length := hj
    have hat : atI ((sixB p q).map bD) (j : Int) = some (bD (sixB p q)[j]) := at_nat (by rw [List.getElem?_map, List.getElem?_eq_getElem hj']; rfl)
    refine z_ifF ((wd_orF (td_not (k := true) (td_val (ed_isi T.isi (ed_ix (ed_var 3 rfl) (ed_var 5 rfl) hat) (ed_bltn (v := .ty "bool") mB (by decide +kernel) rfl) (.ty "bool") (.bl _) kit_bool))) (wd_or1 (td_cmp (k := false) op_ne (ed_ix (ed_var 3 rfl) (ed_var 5 rfl) hat) (ed_ix (ed_var 4 rfl) (ed_var 5 rfl) hat) ?_))).td) ?_
    · have h := rd_ne (K := K) (x := V.bl (sixB p q)[j]) (y := V.bl (sixB p q)[j]) rfl
      rw [decide_eq_true (rfl : V.bl (sixB p q)[j] = V.bl (sixB p q)[j])] at h
      exact h
    · exact ss_nil (.inl ⟨_, .inl rfl, some (iD (j : Int)), rfl⟩)
  · rintro Γ' ⟨o, rfl⟩
    exact z_ret ed_bl (.inl rfl)

/-! ### the law -/
theorem sc_law : FnScope ["_law_script", "_law_choice", "_law_a", "_law_b", "_law_c", "_law_d", "_law_way", "_law_n", "_law_near", "_law_x", "_law_y"] ["_law_script"] (defScope s_law) := ⟨rfl, rfl, rfl, by decide +kernel, rfl, by decide +kernel, by decide +kernel⟩
theorem ab_eq (i : Int) : (if i < 0 then -i else i) = (i.natAbs : Int) := by split <;> omega
theorem p60 : (10 : Nat) ^ 60 < 2 ^ 200 := by decide
/-- Fraction(a, b) is small where a and b are -/
theorem sz_div {a b : Int} {n : Nat} (hb : b ≠ 0) (h1 : a.natAbs < 2 ^ n) (h2 : b.natAbs < 2 ^ n) : Sz n (Rat.divInt a b) := ⟨Nat.lt_of_le_of_lt (num_le a b) h1, Nat.lt_of_le_of_lt (den_le hb) h2⟩
theorem sz_int {a : Int} {n : Nat} (h1 : a.natAbs < 2 ^ n) (h0 : 0 < n) : Sz n (a : Rat) := ⟨h1, Nat.one_lt_two_pow (by omega)⟩
theorem ok_law {f fC fN fS fI : Addr} {fd fdC fdN fdS fdI : FuncData} (F : Fun K "law" "law" s_law f fd) (T : FrTxt K mg C)
    (FC : FnOk P w K mg base CX0 1 fC fdC ["_law_script", "_law_k"] (spD K 2 R_cell)) (mC : mg "_law_cell" = some (.ref fC)) (kC : PySem.W.keepIn K (.ref fC) = true) (bC : Binds K fdC ["_law_script", "_law_k"] [])
    (FN : FnOk P w K mg base CX0 1 fN fdN ["_law_cell_here", "_law_choice"] (spD K 2 R_num)) (mN : mg "_law_number" = some (.ref fN)) (kN : PySem.W.keepIn K (.ref fN) = true) (bN : Binds K fdN ["_law_cell_here", "_law_choice"] [])
    (FS : FnOk P w K mg base CX0 7 fS fdS ["_law_left", "_law_right", "_law_difference"] (spD K 3 (R_sgn C))) (mS : mg "_law_signs" = some (.ref fS)) (kS : PySem.W.keepIn K (.ref fS) = true) (bS : Binds K fdS ["_law_left", "_law_right", "_law_difference"] [])
    (M : Mk K C fI) (FI : FnOk P w K mg base CX0 1 fI fdI ["self", "top", "bottom"] (spInit C)) (bI : Binds K fdI ["self", "top", "bottom"] []) (mAb : mg "abs" = none) :
    FnOk P w K mg base CX0 8 f fd ["_law_script"] (spD K 1 R_law) := by
  refine fn_D F sc_law (by decide) fun cdv A outer s H E ds d hr hl hR => ?_
  obtain ⟨ns, rfl, hlen, rfl⟩ := hR
  have hr1 : Room 1 _ := hr.mono (by decide)
  have hr2 : Room 2 _ := hr.mono (by decide)
  obtain ⟨ch, hch, hch0⟩ : ∃ ch, ch = ns.getD 0 0 % (10 : Int) ^ (9 : Int).toNat ∧ 0 ≤ ch := ⟨_, rfl, Int.emod_nonneg _ (by decide)⟩
  refine z_asg 1 (d := iD ch) (ed_is (ed_op op_mod (ed_toInt T.tInt (ed_call FC hr1 mC kC bC pass0 (ad_cons (ed_var 0 rfl) (ad_cons ed_int ad_nil)) ⟨ns, 0, rfl, rfl⟩)) (ed_op op_pow ed_int ed_int (rd_I ⟨by decide, by decide, by decide⟩)) (rd_I (by decide))) (by rw [hch])) sc_law.nd ?_
  obtain ⟨a, ha, ha1⟩ : ∃ a, a = lawNum (ns.getD 1 0) ch ∧ a.natAbs < 10 ^ 60 := ⟨_, rfl, lawNum_lt _ _⟩
  refine z_asg 2 (d := iD a) (ed_is (ed_call FN hr1 mN kN bN pass0 (ad_cons (ed_call FC hr1 mC kC bC pass0 (ad_cons (ed_var 0 rfl) (ad_cons ed_int ad_nil)) ⟨ns, 1, rfl, rfl⟩) (ad_cons (ed_var 1 rfl) ad_nil)) ⟨_, _, rfl, rfl⟩) (by rw [ha])) sc_law.nd ?_
  obtain ⟨b, hb, hb0, hb1⟩ : ∃ b : Int, b = 1 + ((lawNum (ns.getD 2 0) (ch / 6)).natAbs : Int) ∧ 0 < b ∧ b.natAbs ≤ 10 ^ 60 := ⟨_, rfl, by omega, by have := lawNum_lt (ns.getD 2 0) (ch / 6); omega⟩
  refine z_asg 3 (d := iD b) (ed_is (ed_op op_add ed_int (ed_abs mAb (ed_call FN hr1 mN kN bN pass0 (ad_cons (ed_call FC hr1 mC kC bC pass0 (ad_cons (ed_var 0 rfl) (ad_cons ed_int ad_nil)) ⟨ns, 2, rfl, rfl⟩) (ad_cons (ed_op op_fdiv (ed_var 1 rfl) ed_int (rd_I ⟨by decide, by decide⟩)) ad_nil)) ⟨_, _, rfl, rfl⟩)) rd_I0) (by rw [hb, ab_eq])) sc_law.nd ?_
  obtain ⟨c, hc, hc1⟩ : ∃ c, c = lawNum (ns.getD 3 0) (ch / 12) ∧ c.natAbs < 10 ^ 60 := ⟨_, rfl, lawNum_lt _ _⟩
  refine z_asg 4 (d := iD c) (ed_is (ed_call FN hr1 mN kN bN pass0 (ad_cons (ed_call FC hr1 mC kC bC pass0 (ad_cons (ed_var 0 rfl) (ad_cons ed_int ad_nil)) ⟨ns, 3, rfl, rfl⟩) (ad_cons (ed_op op_fdiv (ed_var 1 rfl) ed_int (rd_I ⟨by decide, by decide⟩)) ad_nil)) ⟨_, _, rfl, rfl⟩) (by rw [hc])) sc_law.nd ?_
  obtain ⟨e, he, he0, he1⟩ : ∃ e : Int, e = 1 + ((lawNum (ns.getD 4 0) (ch / 72)).natAbs : Int) ∧ 0 < e ∧ e.natAbs ≤ 10 ^ 60 := ⟨_, rfl, by omega, by have := lawNum_lt (ns.getD 4 0) (ch / 72); omega⟩
  refine z_asg 5 (d := iD e) (ed_is (ed_op op_add ed_int (ed_abs mAb (ed_call FN hr1 mN kN bN pass0 (ad_cons (ed_call FC hr1 mC kC bC pass0 (ad_cons (ed_var 0 rfl) (ad_cons ed_int ad_nil)) ⟨ns, 4, rfl, rfl⟩) (ad_cons (ed_op op_fdiv (ed_var 1 rfl) ed_int (rd_I ⟨by decide, by decide⟩)) ad_nil)) ⟨_, _, rfl, rfl⟩)) rd_I0) (by rw [he, ab_eq])) sc_law.nd ?_
  obtain ⟨wy, hwy⟩ : ∃ wy, wy = ch / 216 % 4 := ⟨_, rfl⟩
  refine z_asg 6 (d := iD wy) (ed_is (ed_op op_mod (ed_op op_fdiv (ed_var 1 rfl) ed_int (rd_I ⟨by decide, by decide⟩)) ed_int (rd_I (by decide))) (by rw [hwy])) sc_law.nd ?_
  -- the three ways
  have a2 : a.natAbs < 2 ^ 200 := Nat.lt_trans ha1 p60
  have b2 : b.natAbs < 2 ^ 200 := Nat.lt_of_le_of_lt hb1 p60
  have e2 : e.natAbs < 2 ^ 200 := Nat.lt_of_le_of_lt he1 p60
  have wm2 : ∀ {i j : Int} {n m : Nat}, i.natAbs < 2 ^ n → j.natAbs < 2 ^ m → n ≤ 1000 → m ≤ 1000 → CMulW i j := fun hi hj hn hm => wide_mul (Nat.lt_of_lt_of_le hi (Nat.pow_le_pow_right (by decide) hn)) (Nat.lt_of_lt_of_le hj (Nat.pow_le_pow_right (by decide) hm)) (a := 1000) (b := 1000) (by decide) (by decide) (by decide)
  have mul2 : ∀ {i j : Int} {n m : Nat}, i.natAbs < 2 ^ n → j.natAbs < 2 ^ m → (i * j).natAbs < 2 ^ (n + m) := fun hi hj => wide_lt hi hj
  have off : ∀ {i : Int} {n : Nat} (t : Int), i.natAbs < 2 ^ n → t.natAbs ≤ 1 → (i + t).natAbs < 2 ^ (n + 1) := fun t h ht => by
    have := Nat.pow_succ (n := 2) (m := ‹Nat›)
    omega
  have hc2 : c.natAbs < 2 ^ 202 := Nat.lt_trans hc1 (Nat.lt_trans p60 (Nat.pow_lt_pow_right (by decide) (by decide)))
  have he2 := e2
  clear hc hc1 he he1 e2
  refine z_if (k := decide (V.int wy = V.int 1)) (fun Γ' => ∃ c' e' : Int, 0 < e' ∧ c'.natAbs < 2 ^ 402 ∧ e'.natAbs < 2 ^ 400 ∧ Γ' = [some (.lst (ns.map iD)), some (iD ch), some (iD a), some (iD b), some (iD c'), some (iD e'), some (iD wy), none, none, none, none])
    (td_cmp op_eq (ed_var 6 rfl) ed_int (rd_eq rfl)) (fun _ => ?_) (fun _ => ss_nil ⟨_, rfl, c, e, he0, Nat.lt_of_lt_of_le hc2 (Nat.pow_le_pow_right (by decide) (by decide)), Nat.lt_of_lt_of_le he2 (Nat.pow_le_pow_right (by decide) (by decide)), rfl⟩) ?_
  · refine z_asg 4 (d := iD (a * e)) (ed_op op_mulW (ed_var 2 rfl) (ed_var 5 rfl) (rd_I (wm2 a2 he2 (by decide) (by decide)))) sc_law.nd ?_
    refine z_asg 5 (d := iD (b * e)) (ed_op op_mulW (ed_var 3 rfl) (ed_var 5 rfl) (rd_I (wm2 b2 he2 (by decide) (by decide)))) sc_law.nd (ss_nil ⟨_, rfl, a * e, b * e, Int.mul_pos hb0 he0, Nat.lt_of_lt_of_le (mul2 a2 he2) (Nat.pow_le_pow_right (by decide) (by decide)), Nat.lt_of_lt_of_le (mul2 b2 he2) (Nat.pow_le_pow_right (by decide) (by decide)), rfl⟩)
  clear he0 hc2 he2
  rintro Γ' ⟨c, e, he0, hc2, he2, rfl⟩
  refine z_if (k := decide (V.int wy = V.int 2)) (fun Γ' => ∃ c' e' : Int, 0 < e' ∧ c'.natAbs < 2 ^ 602 ∧ e'.natAbs < 2 ^ 600 ∧ Γ' = [some (.lst (ns.map iD)), some (iD ch), some (iD a), some (iD b), some (iD c'), some (iD e'), some (iD wy), none, none, none, none])
    (td_cmp op_eq (ed_var 6 rfl) ed_int (rd_eq rfl)) (fun _ => ?_) (fun _ => ss_nil ⟨_, rfl, c, e, he0, Nat.lt_of_lt_of_le hc2 (Nat.pow_le_pow_right (by decide) (by decide)), Nat.lt_of_lt_of_le he2 (Nat.pow_le_pow_right (by decide) (by decide)), rfl⟩) ?_
  · refine z_asg 4 (d := iD (a * e + 1)) (ed_op op_add (ed_op op_mulW (ed_var 2 rfl) (ed_var 5 rfl) (rd_I (wm2 a2 he2 (by decide) (by decide)))) ed_int rd_I0) sc_law.nd ?_
    refine z_asg 5 (d := iD (b * e)) (ed_op op_mulW (ed_var 3 rfl) (ed_var 5 rfl) (rd_I (wm2 b2 he2 (by decide) (by decide)))) sc_law.nd (ss_nil ⟨_, rfl, a * e + 1, b * e, Int.mul_pos hb0 he0, Nat.lt_of_lt_of_le (off 1 (mul2 a2 he2) (by decide)) (Nat.pow_le_pow_right (by decide) (by decide)), Nat.lt_of_lt_of_le (mul2 b2 he2) (Nat.pow_le_pow_right (by decide) (by decide)), rfl⟩)
  clear he0 hc2 he2
  rintro Γ' ⟨c, e, he0, hc2, he2, rfl⟩
  refine z_if (k := decide (V.int wy = V.int 3)) (fun Γ' => ∃ c' e' : Int, 0 < e' ∧ c'.natAbs < 2 ^ 802 ∧ e'.natAbs < 2 ^ 800 ∧ Γ' = [some (.lst (ns.map iD)), some (iD ch), some (iD a), some (iD b), some (iD c'), some (iD e'), some (iD wy), none, none, none, none])
    (td_cmp op_eq (ed_var 6 rfl) ed_int (rd_eq rfl)) (fun _ => ?_) (fun _ => ss_nil ⟨_, rfl, c, e, he0, Nat.lt_of_lt_of_le hc2 (Nat.pow_le_pow_right (by decide) (by decide)), Nat.lt_of_lt_of_le he2 (Nat.pow_le_pow_right (by decide) (by decide)), rfl⟩) ?_
  · refine z_asg 4 (d := iD (a * e - 1)) (ed_op op_sub (ed_op op_mulW (ed_var 2 rfl) (ed_var 5 rfl) (rd_I (wm2 a2 he2 (by decide) (by decide)))) ed_int rd_I0) sc_law.nd ?_
    refine z_asg 5 (d := iD (b * e)) (ed_op op_mulW (ed_var 3 rfl) (ed_var 5 rfl) (rd_I (wm2 b2 he2 (by decide) (by decide)))) sc_law.nd (ss_nil ⟨_, rfl, a * e - 1, b * e, Int.mul_pos hb0 he0, Nat.lt_of_lt_of_le (off (-1) (mul2 a2 he2) (by decide)) (Nat.pow_le_pow_right (by decide) (by decide)), Nat.lt_of_lt_of_le (mul2 b2 he2) (Nat.pow_le_pow_right (by decide) (by decide)), rfl⟩)
  clear he0 hc2 he2
  rintro Γ' ⟨c, e, he0, hc2, he2, rfl⟩

  obtain ⟨n, hn, hn1⟩ : ∃ n, n = lawNum (ns.getD 5 0) (ch / 864) ∧ n.natAbs < 2 ^ 202 := ⟨_, rfl, Nat.lt_trans (lawNum_lt _ _) (Nat.lt_trans p60 (Nat.pow_lt_pow_right (by decide) (by decide)))⟩
  refine z_asg 7 (d := iD n) (ed_is (ed_call FN hr1 mN kN bN pass0 (ad_cons (ed_call FC hr1 mC kC bC pass0 (ad_cons (ed_var 0 rfl) (ad_cons ed_int ad_nil)) ⟨ns, 5, rfl, rfl⟩) (ad_cons (ed_op op_fdiv (ed_var 1 rfl) ed_int (rd_I ⟨by decide, by decide⟩)) ad_nil)) ⟨_, _, rfl, rfl⟩) (by rw [hn])) sc_law.nd ?_
  obtain ⟨nr, hnr, hnr0, hnr1⟩ : ∃ nr : Int, nr = ch / 5184 % 3 ∧ 0 ≤ nr ∧ nr < 3 := ⟨_, rfl, Int.emod_nonneg _ (by decide), Int.emod_lt_of_pos _ (by decide)⟩
  refine z_asg 8 (d := iD nr) (ed_is (ed_op op_mod (ed_op op_fdiv (ed_var 1 rfl) ed_int (rd_I ⟨by decide, by decide⟩)) ed_int (rd_I (by decide))) (by rw [hnr])) sc_law.nd ?_
  clear hn
  refine z_if (k := decide (0 < nr)) (fun Γ' => ∃ n : Int, n.natAbs < 2 ^ 202 ∧ Γ' = [some (.lst (ns.map iD)), some (iD ch), some (iD a), some (iD b), some (iD c), some (iD e), some (iD wy), some (iD n), some (iD nr), none, none])
    (td_cmp op_gt (ed_var 8 rfl) ed_int rd_I0) (fun _ => ?_) (fun _ => ss_nil ⟨_, rfl, n, hn1, rfl⟩) ?_
  · refine z_asg 7 (d := iD (a / b + nr - 1)) (ed_op op_sub (ed_op op_add (ed_op op_fdivW (ed_var 2 rfl) (ed_var 3 rfl) (rd_I (wide_div hb0 b2 (by decide) (by decide)))) (ed_var 8 rfl) rd_I0) ed_int rd_I0) sc_law.nd (ss_nil ⟨_, rfl, _, ?_, rfl⟩)
    have h1 : (a / b).natAbs ≤ a.natAbs := Int.natAbs_ediv_le_natAbs _ _
    have h2 : (2 : Nat) ^ 202 = 4 * 2 ^ 200 := by decide
    have h3 : (1 : Nat) ≤ 2 ^ 200 := by decide
    omega
  clear hn1
  rintro Γ' ⟨n, hn1, rfl⟩
  have zb : ∀ {i : Int} {k : Nat}, i.natAbs < 2 ^ k → k ≤ 4000 → i.natAbs < 2 ^ 4000 := fun h hk => Nat.lt_of_lt_of_le h (Nat.pow_le_pow_right (by decide) hk)
  have b4 := zb b2 (by decide)
  have e4 := zb he2 (by decide)
  have p4 : Sz 4000 (Rat.divInt a b) := sz_div (by omega) (zb a2 (by decide)) b4
  have q4 : Sz 4000 (Rat.divInt c e) := sz_div (by omega) (zb hc2 (by decide)) e4
  have n4 : Sz 4000 (n : Rat) := sz_int (zb hn1 (by decide)) (by decide)
  have b8 : b.natAbs < 2 ^ 8900 := Nat.lt_of_lt_of_le b2 (Nat.pow_le_pow_right (by decide) (by decide))
  have e8 : e.natAbs < 2 ^ 8900 := Nat.lt_of_lt_of_le he2 (Nat.pow_le_pow_right (by decide) (by decide))
  refine z_asg 9 (d := fr C (Rat.divInt a b)) (ed_mk M FI hr2 T.mgC bI pass0 (ad_cons (ed_var 2 rfl) (ad_cons (ed_var 3 rfl) ad_nil)) (by omega) b8) sc_law.nd ?_
  refine z_asg 10 (d := fr C (Rat.divInt c e)) (ed_mk M FI hr2 T.mgC bI pass0 (ad_cons (ed_var 4 rfl) (ad_cons (ed_var 5 rfl) ad_nil)) (by omega) e8) sc_law.nd ?_
  have hr7 : Room 7 _ := hr.mono (by decide)
  have ae : CMulW a e := wm2 a2 he2 (by decide) (by decide)
  have cb : CMulW c b := wm2 hc2 b2 (by decide) (by decide)
  have nb : CMulW n b := wm2 hn1 b2 (by decide) (by decide)
  have ne : CMulW n e := wm2 hn1 he2 (by decide) (by decide)
  have s1 := q_sgn (a := a) (c := c) hb0 he0
  have s2 := q_sgn (a := c) (c := a) he0 hb0
  have s3 := q_sgn (a := a) (c := n) hb0 (show (0 : Int) < 1 by decide)
  have s4 := q_sgn (a := n) (c := a) (show (0 : Int) < 1 by decide) hb0
  have s5 := q_sgn (a := n) (c := c) (show (0 : Int) < 1 by decide) he0
  rw [Int.mul_one, ← q_int] at s3 s4 s5
  refine z_ifF (wd_orF (td_not (k := true) (td_val (ed_call FS hr7 mS kS bS pass0 (ad_cons (ed_var 9 rfl) (ad_cons (ed_var 10 rfl) (ad_cons (ed_op op_sub (ed_op op_mulW (ed_var 2 rfl) (ed_var 5 rfl) (rd_I ae)) (ed_op op_mulW (ed_var 4 rfl) (ed_var 3 rfl) (rd_I cb)) rd_I0) ad_nil))) ⟨_, _, _, _, _, rfl, .inl ⟨rfl, .inl rfl⟩, p4, q4, s1.1, s1.2, rfl⟩)))
    (wd_or1 (td_not (k := true) (td_val (ed_call FS hr7 mS kS bS pass0 (ad_cons (ed_var 10 rfl) (ad_cons (ed_var 9 rfl) (ad_cons (ed_op op_sub (ed_op op_mulW (ed_var 4 rfl) (ed_var 3 rfl) (rd_I cb)) (ed_op op_mulW (ed_var 2 rfl) (ed_var 5 rfl) (rd_I ae)) rd_I0) ad_nil))) ⟨_, _, _, _, _, rfl, .inl ⟨rfl, .inl rfl⟩, q4, p4, s2.1, s2.2, rfl⟩))))).td ?_
  have i1 : ∀ p : Rat, ((0 : Int) < 0 ↔ p < p) := fun p => ⟨fun h => absurd h (by decide), fun h => absurd h Rat.lt_irrefl⟩
  refine z_ifF (wd_orF (td_not (k := true) (td_val (ed_call FS hr7 mS kS bS pass0 (ad_cons (ed_var 9 rfl) (ad_cons (ed_var 9 rfl) (ad_cons ed_int ad_nil))) ⟨_, _, _, _, _, rfl, .inl ⟨rfl, .inl rfl⟩, p4, p4, i1 _, i1 _, rfl⟩)))
    (wd_or1 (td_not (k := true) (td_val (ed_call FS hr7 mS kS bS pass0 (ad_cons (ed_var 9 rfl) (ad_cons (ed_mk M FI hr2 T.mgC bI pass0 (ad_cons (ed_var 2 rfl) (ad_cons (ed_var 3 rfl) ad_nil)) (by omega) b8) (ad_cons ed_int ad_nil))) ⟨_, _, _, _, _, rfl, .inl ⟨rfl, .inl rfl⟩, p4, p4, i1 _, i1 _, rfl⟩))))).td ?_
  refine z_ret (ed_andT (ed_call FS hr7 mS kS bS pass0 (ad_cons (ed_var 9 rfl) (ad_cons (ed_var 7 rfl) (ad_cons (ed_op op_sub (ed_var 2 rfl) (ed_op op_mulW (ed_var 7 rfl) (ed_var 3 rfl) (rd_I nb)) rd_I0) ad_nil))) ⟨_, _, _, _, _, rfl, .inl ⟨rfl, .inr ⟨n, rfl, rfl⟩⟩, p4, n4, s3.1, s3.2, rfl⟩)
    (ed_andT (ed_call FS hr7 mS kS bS pass0 (ad_cons (ed_var 7 rfl) (ad_cons (ed_var 9 rfl) (ad_cons (ed_op op_sub (ed_op op_mulW (ed_var 7 rfl) (ed_var 3 rfl) (rd_I nb)) (ed_var 2 rfl) rd_I0) ad_nil))) ⟨_, _, _, _, _, rfl, .inr ⟨rfl, .inr ⟨n, rfl, rfl⟩⟩, n4, p4, s4.1, s4.2, rfl⟩)
    (ed_one (ed_call FS hr7 mS kS bS pass0 (ad_cons (ed_var 7 rfl) (ad_cons (ed_var 10 rfl) (ad_cons (ed_op op_sub (ed_op op_mulW (ed_var 7 rfl) (ed_var 5 rfl) (rd_I ne)) (ed_var 4 rfl) rd_I0) ad_nil))) ⟨_, _, _, _, _, rfl, .inr ⟨rfl, .inr ⟨n, rfl, rfl⟩⟩, n4, q4, s5.1, s5.2, rfl⟩)))) (.inl rfl)
end
/-! ### what the top has written, the head -/
theorem all_mk {l : PySem.W.OpenLaw} {w : World} {K : PySem.W.Frag} {h : Heap} {mg : Str → Option Value} {fa : Addr} (X : K.In h) (G : h.Ns mainGlobals mg) (hfa : mg "law" = some (.ref fa))
    {f_init f_eq f_ne f_lt f_le f_gt f_ge f_asf f_isn f_ord f_cell f_num f_sgn f_law C : Addr}
    {T_init : Addr} {ocT_init : Value} {odT_init : Option Addr} {nT_init : Nat} {slT_init : Array (Option Value)} {tk_init_0 : Tok}
    {od_init an_init : Option Addr} {sl_init : Array (Option Value)} {oc_init kV_init dc_init pm_init cd_init ct_init : Value}
    {od_eq an_eq : Option Addr} {sl_eq : Array (Option Value)} {oc_eq kV_eq dc_eq pm_eq cd_eq ct_eq : Value}
    {od_ne an_ne : Option Addr} {sl_ne : Array (Option Value)} {oc_ne kV_ne dc_ne pm_ne cd_ne ct_ne : Value}
    {od_lt an_lt : Option Addr} {sl_lt : Array (Option Value)} {oc_lt kV_lt dc_lt pm_lt cd_lt ct_lt : Value}
    {od_le an_le : Option Addr} {sl_le : Array (Option Value)} {oc_le kV_le dc_le pm_le cd_le ct_le : Value}
    {od_gt an_gt : Option Addr} {sl_gt : Array (Option Value)} {oc_gt kV_gt dc_gt pm_gt cd_gt ct_gt : Value}
    {od_ge an_ge : Option Addr} {sl_ge : Array (Option Value)} {oc_ge kV_ge dc_ge pm_ge cd_ge ct_ge : Value}
    {od_asf an_asf : Option Addr} {sl_asf : Array (Option Value)} {oc_asf kV_asf dc_asf pm_asf cd_asf ct_asf : Value}
    {od_isn an_isn : Option Addr} {sl_isn : Array (Option Value)} {oc_isn kV_isn dc_isn pm_isn cd_isn ct_isn : Value}
    {od_ord an_ord : Option Addr} {sl_ord : Array (Option Value)} {oc_ord kV_ord dc_ord pm_ord cd_ord ct_ord : Value}
    {od_cell an_cell : Option Addr} {sl_cell : Array (Option Value)} {oc_cell kV_cell dc_cell pm_cell cd_cell ct_cell : Value}
    {od_num an_num : Option Addr} {sl_num : Array (Option Value)} {oc_num kV_num dc_num pm_num cd_num ct_num : Value}
    {od_sgn an_sgn : Option Addr} {sl_sgn : Array (Option Value)} {oc_sgn kV_sgn dc_sgn pm_sgn cd_sgn ct_sgn : Value}
    {od_law an_law : Option Addr} {sl_law : Array (Option Value)} {oc_law kV_law dc_law pm_law cd_law ct_law : Value}
    (aC : PySem.W.nsIn K mainGlobals "Fraction" = some (some (.ref C)))
    (a_init : PySem.W.findIn K (.ref C) "__init__" = some (some (.ref f_init)))
    (i_init : PySem.W.isFn K (.ref f_init) = true)
    (l_init : K.lookup f_init = some ⟨oc_init, od_init, .func (PySem.W.fnOf "__init__" "Fraction.__init__" (defArgs s_init) (defBody s_init) (defScope s_init) (.ref T_init) kV_init dc_init pm_init an_init cd_init ct_init), sl_init⟩)
    (d_init : K.lookup T_init = some ⟨ocT_init, odT_init, .seq #[.int 1 tk_init_0] nT_init, slT_init⟩)
    (c_init : PySem.W.codeIn K cd_init "Fraction.__init__" = true)
    (k_init : PySem.W.keepIn K (.ref f_init) = true)
    (a_eq : PySem.W.findIn K (.ref C) "__eq__" = some (some (.ref f_eq)))
    (i_eq : PySem.W.isFn K (.ref f_eq) = true)
    (l_eq : K.lookup f_eq = some ⟨oc_eq, od_eq, .func (PySem.W.fnOf "__eq__" "Fraction.__eq__" (defArgs s_eq) (defBody s_eq) (defScope s_eq) .none kV_eq dc_eq pm_eq an_eq cd_eq ct_eq), sl_eq⟩)
    (c_eq : PySem.W.codeIn K cd_eq "Fraction.__eq__" = true)
    (k_eq : PySem.W.keepIn K (.ref f_eq) = true)
    (a_ne : PySem.W.findIn K (.ref C) "__ne__" = some (some (.ref f_ne)))
    (i_ne : PySem.W.isFn K (.ref f_ne) = true)
    (l_ne : K.lookup f_ne = some ⟨oc_ne, od_ne, .func (PySem.W.fnOf "__ne__" "Fraction.__ne__" (defArgs s_ne) (defBody s_ne) (defScope s_ne) .none kV_ne dc_ne pm_ne an_ne cd_ne ct_ne), sl_ne⟩)
    (c_ne : PySem.W.codeIn K cd_ne "Fraction.__ne__" = true)
    (k_ne : PySem.W.keepIn K (.ref f_ne) = true)
    (a_lt : PySem.W.findIn K (.ref C) "__lt__" = some (some (.ref f_lt)))
    (i_lt : PySem.W.isFn K (.ref f_lt) = true)
    (l_lt : K.lookup f_lt = some ⟨oc_lt, od_lt, .func (PySem.W.fnOf "__lt__" "Fraction.__lt__" (defArgs s_lt) (defBody s_lt) (defScope s_lt) .none kV_lt dc_lt pm_lt an_lt cd_lt ct_lt), sl_lt⟩)
    (c_lt : PySem.W.codeIn K cd_lt "Fraction.__lt__" = true)
    (k_lt : PySem.W.keepIn K (.ref f_lt) = true)
    (a_le : PySem.W.findIn K (.ref C) "__le__" = some (some (.ref f_le)))
    (i_le : PySem.W.isFn K (.ref f_le) = true)
    (l_le : K.lookup f_le = some ⟨oc_le, od_le, .func (PySem.W.fnOf "__le__" "Fraction.__le__" (defArgs s_le) (defBody s_le) (defScope s_le) .none kV_le dc_le pm_le an_le cd_le ct_le), sl_le⟩)
    (c_le : PySem.W.codeIn K cd_le "Fraction.__le__" = true)
    (k_le : PySem.W.keepIn K (.ref f_le) = true)
    (a_gt : PySem.W.findIn K (.ref C) "__gt__" = some (some (.ref f_gt)))
    (i_gt : PySem.W.isFn K (.ref f_gt) = true)
    (l_gt : K.lookup f_gt = some ⟨oc_gt, od_gt, .func (PySem.W.fnOf "__gt__" "Fraction.__gt__" (defArgs s_gt) (defBody s_gt) (defScope s_gt) .none kV_gt dc_gt pm_gt an_gt cd_gt ct_gt), sl_gt⟩)
    (c_gt : PySem.W.codeIn K cd_gt "Fraction.__gt__" = true)
    (k_gt : PySem.W.keepIn K (.ref f_gt) = true)
    (a_ge : PySem.W.findIn K (.ref C) "__ge__" = some (some (.ref f_ge)))
    (i_ge : PySem.W.isFn K (.ref f_ge) = true)
    (l_ge : K.lookup f_ge = some ⟨oc_ge, od_ge, .func (PySem.W.fnOf "__ge__" "Fraction.__ge__" (defArgs s_ge) (defBody s_ge) (defScope s_ge) .none kV_ge dc_ge pm_ge an_ge cd_ge ct_ge), sl_ge⟩)
    (c_ge : PySem.W.codeIn K cd_ge "Fraction.__ge__" = true)
    (k_ge : PySem.W.keepIn K (.ref f_ge) = true)
    (a_asf : PySem.W.nsIn K mainGlobals "as_fraction" = some (some (.ref f_asf)))
    (l_asf : K.lookup f_asf = some ⟨oc_asf, od_asf, .func (PySem.W.fnOf "as_fraction" "as_fraction" (defArgs s_asf) (defBody s_asf) (defScope s_asf) .none kV_asf dc_asf pm_asf an_asf cd_asf ct_asf), sl_asf⟩)
    (c_asf : PySem.W.codeIn K cd_asf "as_fraction" = true)
    (k_asf : PySem.W.keepIn K (.ref f_asf) = true)
    (a_isn : PySem.W.nsIn K mainGlobals "_is_number" = some (some (.ref f_isn)))
    (l_isn : K.lookup f_isn = some ⟨oc_isn, od_isn, .func (PySem.W.fnOf "_is_number" "_is_number" (defArgs s_isn) (defBody s_isn) (defScope s_isn) .none kV_isn dc_isn pm_isn an_isn cd_isn ct_isn), sl_isn⟩)
    (c_isn : PySem.W.codeIn K cd_isn "_is_number" = true)
    (k_isn : PySem.W.keepIn K (.ref f_isn) = true)
    (a_ord : PySem.W.nsIn K mainGlobals "_order" = some (some (.ref f_ord)))
    (l_ord : K.lookup f_ord = some ⟨oc_ord, od_ord, .func (PySem.W.fnOf "_order" "_order" (defArgs s_ord) (defBody s_ord) (defScope s_ord) .none kV_ord dc_ord pm_ord an_ord cd_ord ct_ord), sl_ord⟩)
    (c_ord : PySem.W.codeIn K cd_ord "_order" = true)
    (k_ord : PySem.W.keepIn K (.ref f_ord) = true)
    (a_cell : PySem.W.nsIn K mainGlobals "_law_cell" = some (some (.ref f_cell)))
    (l_cell : K.lookup f_cell = some ⟨oc_cell, od_cell, .func (PySem.W.fnOf "_law_cell" "_law_cell" (defArgs s_cell) (defBody s_cell) (defScope s_cell) .none kV_cell dc_cell pm_cell an_cell cd_cell ct_cell), sl_cell⟩)
    (c_cell : PySem.W.codeIn K cd_cell "_law_cell" = true)
    (k_cell : PySem.W.keepIn K (.ref f_cell) = true)
    (a_num : PySem.W.nsIn K mainGlobals "_law_number" = some (some (.ref f_num)))
    (l_num : K.lookup f_num = some ⟨oc_num, od_num, .func (PySem.W.fnOf "_law_number" "_law_number" (defArgs s_num) (defBody s_num) (defScope s_num) .none kV_num dc_num pm_num an_num cd_num ct_num), sl_num⟩)
    (c_num : PySem.W.codeIn K cd_num "_law_number" = true)
    (k_num : PySem.W.keepIn K (.ref f_num) = true)
    (a_sgn : PySem.W.nsIn K mainGlobals "_law_signs" = some (some (.ref f_sgn)))
    (l_sgn : K.lookup f_sgn = some ⟨oc_sgn, od_sgn, .func (PySem.W.fnOf "_law_signs" "_law_signs" (defArgs s_sgn) (defBody s_sgn) (defScope s_sgn) .none kV_sgn dc_sgn pm_sgn an_sgn cd_sgn ct_sgn), sl_sgn⟩)
    (c_sgn : PySem.W.codeIn K cd_sgn "_law_signs" = true)
    (k_sgn : PySem.W.keepIn K (.ref f_sgn) = true)
    (a_law : PySem.W.nsIn K mainGlobals "law" = some (some (.ref f_law)))
    (l_law : K.lookup f_law = some ⟨oc_law, od_law, .func (PySem.W.fnOf "law" "law" (defArgs s_law) (defBody s_law) (defScope s_law) .none kV_law dc_law pm_law an_law cd_law ct_law), sl_law⟩)
    (c_law : PySem.W.codeIn K cd_law "law" = true)
    (k_law : PySem.W.keepIn K (.ref f_law) = true)
    (pg : PySem.W.plainGet K C Str.empty = true)
    (hd : PySem.W.hasDictIn K C = true)
    (po : PySem.W.plainOver K C = true)
    (sa : PySem.W.findIn K (.ref C) "__setattr__" = some (some (.builtin "object.__setattr__")))
    (mk : PySem.W.makesIn K C = true)
    (kc : PySem.W.keepIn K (.ref C) = true)
    (nT : PySem.W.findIn K (.ref C) "top" = some none)
    (nB : PySem.W.findIn K (.ref C) "bottom" = some none)
    (ca : PySem.W.findIn K (.ref C) "__class__" = some (some (.builtin "object.__class__")))
    (cn : PySem.W.specialIn K (.builtin "object.__class__") "__get__" = some (some (.builtin "getset_descriptor.__get__")))
    (ct : PySem.W.takesIn K (.builtin "object.__class__") = some true)
    (cm : PySem.W.mroIn K C (.type "object") = some true)
    (ic : PySem.W.isClsIn K C = true)
    (tyC : PySem.W.typeIn K (.ref C) = some (.type "type"))
    (sub1 : PySem.W.subIn K (.type "int") (.ref C) = some false)
    (sub2 : PySem.W.subIn K (.ref C) (.type "int") = some false)
    (gg : PySem.W.nsIn K mainGlobals "gcd" = some (some (.builtin "math.gcd")))
    (z_isinstance : PySem.W.nsIn K mainGlobals "isinstance" = some none)
    (z_int : PySem.W.nsIn K mainGlobals "int" = some none)
    (z_len : PySem.W.nsIn K mainGlobals "len" = some none)
    (z_abs : PySem.W.nsIn K mainGlobals "abs" = some none)
    (z_range : PySem.W.nsIn K mainGlobals "range" = some none)
    (z_bool : PySem.W.nsIn K mainGlobals "bool" = some none)
    : ∃ fd : FuncData, (∀ (s : Shared) (v : Value), BindsTo s fd ⟨[v], []⟩ [("_law_script", v)]) ∧ ∀ base : Heap, K.In base → base.Ns mainGlobals mg → FnOk l.prog w K mg base CX0 8 fa fd ["_law_script"] (spD K 1 R_law) := by
  have e := hfa.symm.trans (PySem.W.mg_of X G a_law)
  cases e
  have F_init : FunD K "__init__" "Fraction.__init__" (defArgs s_init) (defBody s_init) (defScope s_init) [V.int 1] [] f_init _ := ⟨⟨_, _, _, _, _, _, _, _, _, _, rfl, l_init, c_init, .inr ⟨(by simp), _, _, [.int 1 tk_init_0], _, rfl, d_init, rfl, (.cons ⟨_, rfl⟩ .nil)⟩, .inl rfl⟩, k_init⟩
  obtain ⟨du_init, hdu_init, b1_init⟩ := F_init.binds1 (ps := ["self", "top", "bottom"]) 2 0 (by simp) rfl fun _ _ _ _ _ _ _ us its hl hi => match us, its, hl, hi with | [_, _], [_], _, _ => ⟨_, rfl, rfl⟩
  obtain ⟨dz_init, hdz_init, b_init⟩ := F_init.binds1 (ps := ["self", "top", "bottom"]) 3 1 (by simp) rfl fun _ _ _ _ _ _ _ us its hl hi => match us, its, hl, hi with | [_, _, _], [_], _, _ => ⟨_, rfl, rfl⟩
  cases hdz_init
  have F_eq := fun_mk (st := s_eq) l_eq c_eq k_eq
  have b_eq := F_eq.binds (ps := ["self", "other"]) fun _ _ _ _ _ _ us hl => match us, hl with | [_, _], _ => rfl
  have F_ne := fun_mk (st := s_ne) l_ne c_ne k_ne
  have b_ne := F_ne.binds (ps := ["self", "other"]) fun _ _ _ _ _ _ us hl => match us, hl with | [_, _], _ => rfl
  have F_lt := fun_mk (st := s_lt) l_lt c_lt k_lt
  have b_lt := F_lt.binds (ps := ["self", "other"]) fun _ _ _ _ _ _ us hl => match us, hl with | [_, _], _ => rfl
  have F_le := fun_mk (st := s_le) l_le c_le k_le
  have b_le := F_le.binds (ps := ["self", "other"]) fun _ _ _ _ _ _ us hl => match us, hl with | [_, _], _ => rfl
  have F_gt := fun_mk (st := s_gt) l_gt c_gt k_gt
  have b_gt := F_gt.binds (ps := ["self", "other"]) fun _ _ _ _ _ _ us hl => match us, hl with | [_, _], _ => rfl
  have F_ge := fun_mk (st := s_ge) l_ge c_ge k_ge
  have b_ge := F_ge.binds (ps := ["self", "other"]) fun _ _ _ _ _ _ us hl => match us, hl with | [_, _], _ => rfl
  have F_asf := fun_mk (st := s_asf) l_asf c_asf k_asf
  have b_asf := F_asf.binds (ps := ["number"]) fun _ _ _ _ _ _ us hl => match us, hl with | [_], _ => rfl
  have m_asf := PySem.W.mg_of X G a_asf
  have F_isn := fun_mk (st := s_isn) l_isn c_isn k_isn
  have b_isn := F_isn.binds (ps := ["thing"]) fun _ _ _ _ _ _ us hl => match us, hl with | [_], _ => rfl
  have m_isn := PySem.W.mg_of X G a_isn
  have F_ord := fun_mk (st := s_ord) l_ord c_ord k_ord
  have b_ord := F_ord.binds (ps := ["fraction", "number"]) fun _ _ _ _ _ _ us hl => match us, hl with | [_, _], _ => rfl
  have m_ord := PySem.W.mg_of X G a_ord
  have F_cell := fun_mk (st := s_cell) l_cell c_cell k_cell
  have b_cell := F_cell.binds (ps := ["_law_script", "_law_k"]) fun _ _ _ _ _ _ us hl => match us, hl with | [_, _], _ => rfl
  have m_cell := PySem.W.mg_of X G a_cell
  have F_num := fun_mk (st := s_num) l_num c_num k_num
  have b_num := F_num.binds (ps := ["_law_cell_here", "_law_choice"]) fun _ _ _ _ _ _ us hl => match us, hl with | [_, _], _ => rfl
  have m_num := PySem.W.mg_of X G a_num
  have F_sgn := fun_mk (st := s_sgn) l_sgn c_sgn k_sgn
  have b_sgn := F_sgn.binds (ps := ["_law_left", "_law_right", "_law_difference"]) fun _ _ _ _ _ _ us hl => match us, hl with | [_, _, _], _ => rfl
  have m_sgn := PySem.W.mg_of X G a_sgn
  have F_law := fun_mk (st := s_law) l_law c_law k_law
  have T : FrTxt K mg C := ⟨⟨pg, hd, po, sa⟩, nT, nB, PySem.W.mg_of X G aC, ca, cn, ct, cm, kit_self, kit_sub ic tyC sub1 (ty_ne _ _), sub1, sub2, PySem.W.mg_none_of X G z_isinstance, PySem.W.mg_none_of X G z_int, PySem.W.mg_of X G gg⟩
  have M : Mk K C f_init := ⟨mk, a_init, i_init, kc⟩
  refine ⟨PySem.W.fnOf "law" "law" (defArgs s_law) (defBody s_law) (defScope s_law) .none kV_law dc_law pm_law an_law cd_law ct_law, fun s v => .of_eq rfl, fun base _ _ => ?_⟩
  have GI : FnOk l.prog w K mg base CX0 1 f_init _ ["self", "top", "bottom"] (spInit C) := ok_init F_init T
  have GN := ok_isn (P := l.prog) (w := w) (base := base) F_isn T
  have GA := ok_asf (P := l.prog) (w := w) (base := base) F_asf T M GI b1_init hdu_init
  have GO := ok_ord (P := l.prog) (w := w) (base := base) F_ord T GA m_asf k_asf b_asf
  have GE := ok_eq F_eq T GN m_isn k_isn b_isn GO m_ord k_ord b_ord
  have HC : ∀ op, six op = true → CmpOk l.prog w K mg base C op := fun op h => by
    cases op
    case Eq => exact ⟨_, _, _, ⟨a_eq, i_eq⟩, GE.mono (by decide), b_eq⟩
    case NotEq => exact ⟨_, _, _, ⟨a_ne, i_ne⟩, ok_ne F_ne T ⟨a_eq, i_eq⟩ GE b_eq, b_ne⟩
    case Lt => exact ⟨_, _, _, ⟨a_lt, i_lt⟩, (ok_lt F_lt T GN m_isn k_isn b_isn GO m_ord k_ord b_ord).mono (by decide), b_lt⟩
    case LtE => exact ⟨_, _, _, ⟨a_le, i_le⟩, (ok_le F_le T GN m_isn k_isn b_isn GO m_ord k_ord b_ord).mono (by decide), b_le⟩
    case Gt => exact ⟨_, _, _, ⟨a_gt, i_gt⟩, (ok_gt F_gt T GN m_isn k_isn b_isn GO m_ord k_ord b_ord).mono (by decide), b_gt⟩
    case GtE => exact ⟨_, _, _, ⟨a_ge, i_ge⟩, (ok_ge F_ge T GN m_isn k_isn b_isn GO m_ord k_ord b_ord).mono (by decide), b_ge⟩
    all_goals cases h
  have GC := ok_cell (P := l.prog) (w := w) (mg := mg) (base := base) F_cell (PySem.W.mg_none_of X G z_len)
  have GU := ok_num (P := l.prog) (w := w) (mg := mg) (base := base) F_num T.tInt
  have GS := ok_sgn (P := l.prog) (w := w) (base := base) F_sgn T HC (PySem.W.mg_none_of X G z_range) (PySem.W.mg_none_of X G z_bool)
  exact ok_law F_law T GC m_cell k_cell b_cell GU m_num k_num b_num GS m_sgn k_sgn b_sgn M GI b_init (PySem.W.mg_none_of X G z_abs)
theorem walk {l : PySem.W.OpenLaw} {q : Program} {loose : List Str} {XP : (Str → Option Value) → Heap → Prop} {YP : World → Heap → Prop} {d : DefRec} {K : Params → PySem.W.Frag} (hn : l.most = some 63) (hdf : d.params.defaults = [])
    (hY : ∀ (w : World) (h : Heap), YP w h → (K w.params).In h)
    (F : ∀ (w : World) (mg : Str → Option Value) (fa : Addr) (h : Heap), (K w.params).In h → h.Ns mainGlobals mg → mg d.name = some (.ref fa) →
      ∃ fd : FuncData, (∀ (s : Shared) (u : Value), BindsTo s fd ⟨[u], []⟩ [("_law_script", u)]) ∧ ∀ base : Heap, (K w.params).In base → base.Ns mainGlobals mg → FnOk l.prog w (K w.params) mg base CX0 8 fa fd ["_law_script"] (spD (K w.params) 1 R_law)) :
    PySem.W.WalkO q loose XP YP l.row.toRowW d [] (fun f vs => PySem.call f vs) :=
  L2.walk_of (n := 63) (k := 8) (x := "_law_script") (CX := fun _ => CX0) (sp := fun w => spD (K w.params) 1 R_law) hn (by decide) hdf ⟨rfl, by decide, by decide⟩ hY F (fun _ _ a ns hl _ hS => sp_law hl hS fun _ => rfl) fun _ _ _ _ _ z => z
end Law

open PySem PySem.W PyProof.Rows in
set_option maxRecDepth 100000 in
set_option maxHeartbeats 0 in
theorem PySem.Challenge.cw_tracerline_k03_order_holds : PySem.Challenge.rw_tracerline_k03_order.Holds := by
  w_on; o_law; k_head; (case hw => w_witness2)
  k_fill
  refine Law.walk (l := PySem.Challenge.rw_tracerline_k03_order) rfl rfl (fun w h Y => PySem.W.kIn_of Y) ?F
  case F =>
    intro w mg fa h KX G hmg
    refine' Law.all_mk KX G hmg ?aC ?a_init ?i_init ?l_init ?d_init ?c_init ?k_init ?a_eq ?i_eq ?l_eq ?c_eq ?k_eq ?a_ne ?i_ne ?l_ne ?c_ne ?k_ne ?a_lt ?i_lt ?l_lt ?c_lt ?k_lt ?a_le ?i_le ?l_le ?c_le ?k_le ?a_gt ?i_gt ?l_gt ?c_gt ?k_gt ?a_ge ?i_ge ?l_ge ?c_ge ?k_ge ?a_asf ?l_asf ?c_asf ?k_asf ?a_isn ?l_isn ?c_isn ?k_isn ?a_ord ?l_ord ?c_ord ?k_ord ?a_cell ?l_cell ?c_cell ?k_cell ?a_num ?l_num ?c_num ?k_num ?a_sgn ?l_sgn ?c_sgn ?k_sgn ?a_law ?l_law ?c_law ?k_law ?pg ?hd ?po ?sa ?mk ?kc ?nT ?nB ?ca ?cn ?ct ?cm ?ic ?tyC ?sub1 ?sub2 ?gg ?z_isinstance ?z_int ?z_len ?z_abs ?z_range ?z_bool
    (case aC => k_is)
    (case a_init => k_is)
    (case i_init => k_is)
    (case l_init => k_is)
    (case d_init => k_is)
    (case c_init => k_is)
    (case k_init => k_is)
    (case a_eq => k_is)
    (case i_eq => k_is)
    (case l_eq => k_is)
    (case c_eq => k_is)
    (case k_eq => k_is)
    (case a_ne => k_is)
    (case i_ne => k_is)
    (case l_ne => k_is)
    (case c_ne => k_is)
    (case k_ne => k_is)
    (case a_lt => k_is)
    (case i_lt => k_is)
    (case l_lt => k_is)
    (case c_lt => k_is)
    (case k_lt => k_is)
    (case a_le => k_is)
    (case i_le => k_is)
    (case l_le => k_is)
    (case c_le => k_is)
    (case k_le => k_is)
    (case a_gt => k_is)
    (case i_gt => k_is)
    (case l_gt => k_is)
    (case c_gt => k_is)
    (case k_gt => k_is)
    (case a_ge => k_is)
    (case i_ge => k_is)
    (case l_ge => k_is)
    (case c_ge => k_is)
    (case k_ge => k_is)
    (case a_asf => k_is)
    (case l_asf => k_is)
    (case c_asf => k_is)
    (case k_asf => k_is)
    (case a_isn => k_is)
    (case l_isn => k_is)
    (case c_isn => k_is)
    (case k_isn => k_is)
    (case a_ord => k_is)
    (case l_ord => k_is)
    (case c_ord => k_is)
    (case k_ord => k_is)
    (case a_cell => k_is)
    (case l_cell => k_is)
    (case c_cell => k_is)
    (case k_cell => k_is)
    (case a_num => k_is)
    (case l_num => k_is)
    (case c_num => k_is)
    (case k_num => k_is)
    (case a_sgn => k_is)
    (case l_sgn => k_is)
    (case c_sgn => k_is)
    (case k_sgn => k_is)
    (case a_law => k_is)
    (case l_law => k_is)
    (case c_law => k_is)
    (case k_law => k_is)
    (case pg => k_is)
    (case hd => k_is)
    (case po => k_is)
    (case sa => k_is)
    (case mk => k_is)
    (case kc => k_is)
    (case nT => k_is)
    (case nB => k_is)
    (case ca => k_is)
    (case cn => k_is)
    (case ct => k_is)
    (case cm => k_is)
    (case ic => k_is)
    (case tyC => k_is)
    (case sub1 => k_is)
    (case sub2 => k_is)
    (case gg => k_is)
    (case z_isinstance => k_is)
    (case z_int => k_is)
    (case z_len => k_is)
    (case z_abs => k_is)
    (case z_range => k_is)
    (case z_bool => k_is)
