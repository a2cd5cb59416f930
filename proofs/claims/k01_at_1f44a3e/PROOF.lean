import PyProof.Rows.All
import Wide.All
import OpenK.AllK
import Wide.FinOn
import KE.KOpsOwn
import HandS.ForMost
import HandS.ForExc
import HandS.Evl
import HandS.IsInst
import HandS.Gcd
import HandS.Wide
import HandS.OwnEq
import HandS.SlotsOwn
import HandS.Defaults
import HandS.TryOnly
import HandS.ExcOwn
import HandS.ExcIs
import HandS.MakeKw
import HandS.MakeKwOnly
import PySem.Challenge.RW_tracerline_k01_lowest_terms
set_option Elab.async false
set_option linter.all false
set_option maxRecDepth 100000
set_option maxHeartbeats 4000000
set_option exponentiation.threshold 10000
namespace Trk
open PySem PySem.W PySem.Calls PyProof.Rows
section
variable {prog : Program} {w : World} {A : Around} {E : Value → Shared → Prop} {s : Shared} {K : Frag} {x C dx L f : Addr} {h₀ : Heap} {m : Str → Option Value} {ox : Obj} {od : Option Obj} {n : Int} {t : Tok} {Q : Value → Shared → Prop}

section
variable {M : Model} {R : Fin → Shared → Prop} (ho : s.heap.get? x = some (instObj C dx)) (h : R (.done (.ret .notImplemented)) s)
include ho h
theorem add_no : wpAny M A (Builtin.«int.__add__» ⟨[.int n t, .ref x], []⟩) R E s := by
  obtain ⟨hp, g, d, tk, os⟩ := s
  wp_walk using wpAny_load ho
  exact h
theorem sub_no : wpAny M A (Builtin.«int.__sub__» ⟨[.int n t, .ref x], []⟩) R E s := by
  obtain ⟨hp, g, d, tk, os⟩ := s
  wp_walk using wpAny_load ho
  exact h
theorem mul_no : wpAny M A (Builtin.«int.__mul__» ⟨[.int n t, .ref x], []⟩) R E s := by
  obtain ⟨hp, g, d, tk, os⟩ := s
  wp_walk using wpAny_load ho
  exact h
theorem eq_no : wpAny M A (Builtin.«int.__eq__» ⟨[.int n t, .ref x], []⟩) R E s := by
  obtain ⟨hp, g, d, tk, os⟩ := s
  wp_walk using wpAny_load ho
  exact h
theorem ne_no : wpAny M A (Builtin.«int.__ne__» ⟨[.int n t, .ref x], []⟩) R E s := by
  obtain ⟨hp, g, d, tk, os⟩ := s
  wp_walk using wpAny_load ho
  exact h
theorem lt_no : wpAny M A (Builtin.«int.__lt__» ⟨[.int n t, .ref x], []⟩) R E s := by
  obtain ⟨hp, g, d, tk, os⟩ := s
  wp_walk using wpAny_load ho
  exact h
theorem le_no : wpAny M A (Builtin.«int.__le__» ⟨[.int n t, .ref x], []⟩) R E s := by
  obtain ⟨hp, g, d, tk, os⟩ := s
  wp_walk using wpAny_load ho
  exact h
theorem gt_no : wpAny M A (Builtin.«int.__gt__» ⟨[.int n t, .ref x], []⟩) R E s := by
  obtain ⟨hp, g, d, tk, os⟩ := s
  wp_walk using wpAny_load ho
  exact h
theorem ge_no : wpAny M A (Builtin.«int.__ge__» ⟨[.int n t, .ref x], []⟩) R E s := by
  obtain ⟨hp, g, d, tk, os⟩ := s
  wp_walk using wpAny_load ho
  exact h
end

/-- the slots of int that the four signs use -/
structure IntSlot (nm id : String) (B : Builtin) : Prop where
  slot : Slot "int" (PySem.dunder nm) id
  entry : entryFor table id = some B
  args : ∀ a b : Value, argsOk id ⟨[a, b], []⟩
  no : ∀ (M : Model) (A : Around) (E : Value → Shared → Prop) (s : Shared) (x C dx : Addr) (n : Int) (t : Tok) (R : Fin → Shared → Prop), s.heap.get? x = some (instObj C dx) → R (.done (.ret .notImplemented)) s → wpAny M A (B ⟨[.int n t, .ref x], []⟩) R E s
theorem sAdd : IntSlot "add" "int.__add__" Builtin.«int.__add__» := ⟨F.slot_int_add, F.entry_int_add, F.args_int_add_2, fun _ _ _ _ _ _ _ _ _ _ h q => add_no h q⟩
theorem sSub : IntSlot "sub" "int.__sub__" Builtin.«int.__sub__» := ⟨F.slot_int_sub, F.entry_int_sub, F.args_int_sub_2, fun _ _ _ _ _ _ _ _ _ _ h q => sub_no h q⟩
theorem sMul : IntSlot "mul" "int.__mul__" Builtin.«int.__mul__» := ⟨F.slot_int_mul, F.entry_int_mul, F.args_int_mul_2, fun _ _ _ _ _ _ _ _ _ _ h q => mul_no h q⟩

theorem int_try {nm id : String} {B : Builtin} {R : Option Value → Shared → Prop} (S : IntSlot nm id B) (ho : s.heap.get? x = some (instObj C dx)) (h : R none s) : wpAny (model prog w) A (tryMethod (.int n t) (PySem.dunder nm) (.ref x)) R E s :=
  wpAny_tryMethod_declines (typeIs_int s n t) S.slot (wpAny_call_entry S.slot (typeIs_int s n t) S.entry (S.no _ _ _ _ _ _ _ _ _ _ ho ⟨_, rfl, rfl, h⟩) (S.args _ _))

theorem rbinT {op : Operator} {id : String} {B : Builtin} {fo ro : Option Value} {g : Addr} (S : IntSlot op.info.2 id B) (F : Fr h₀ L s.heap m) (X₀ : K.In h₀) (I : InstAt s.heap x (instObj C dx) C od) (hc : selfFirst K C = true)
    (hs : findIn K (.ref C) (PySem.dunder op.info.2) = some (some (.ref g)))
    (hr : findIn K (.ref C) (dunderR op.info.2) = some (some (.ref f))) (hf : isFn K (.ref f) = true)
    (h1 : findIn K (.type "int") (PySem.dunder op.info.2) = some fo) (h2 : findIn K (.type "int") (dunderR op.info.2) = some ro) (hl : ((fo.isSome && !isSeqSlot fo) || (ro.isSome && !isSeqSlot ro)) = true)
    (hsub : subIn K (.ref C) (.type "int") = some false)
    (h : wpAny (model prog w) A (call (.ref f) [.ref x, .int n t]) (PySem.W.CmpBack Q) E s) : wpAny (model prog w) A (binaryOp op (.int n t) (.ref x)) Q E s := by
  have X := X₀.keeps F.keep
  obtain ⟨cd, rest, hcd, hm⟩ := ksp_first hc
  have two := ksp_try X I hr hf h
  have ho : s.heap.get? x = some (instObj C dx) := I.1
  rcases hi : op.info with ⟨sym, nm'⟩
  rw [hi] at hs hr h1 h2 S two
  dsimp only at hs hr h1 h2 S two
  obtain ⟨hh, gg, d, tt, os⟩ := s
  have L1 : Looks (model prog w) hh (typeOf (.ref x)) (.ref C) := I.type
  have L2 : Looks (model prog w) hh (typeOf (.int n t)) (.type "int") := Looks.of_pure rfl
  have L3 : Looks (model prog w) hh (fillsNumberSlot (.ref C) nm') true := fills_K X hcd hm hs
  have L4 : Looks (model prog w) hh (fillsNumberSlot (.type "int") nm') true := hl ▸ ksp_fillsT X h1 h2
  have L5 : Looks (model prog w) hh (isSubtype (.ref C) (.type "int")) false := looks_subIn X hsub
  have L7 : Looks (model prog w) hh (numberSlotInPython (.type "int") nm') false := Looks.of_pure rfl
  have hne : (Value.type "int" == Value.ref C) = false := Bool.eq_false_iff.mpr fun q => by cases beq_iff_eq.mp q
  simp only [binaryOp, hi]
  refine wpAny_holding (wpAny_bind ?_)
  unfold binaryOp1
  refine wpAny_bind (L2.at (wpAny_bind (L1.at (wpAny_bind (L4.at ?_)))))
  simp only [hne, Bool.false_eq_true, if_false]
  refine wpAny_bind (L3.at ?_)
  simp only [Bool.and_self, if_true]
  refine wpAny_bind (L5.at ?_)
  ksp_lk
  refine int_try S ho ?_
  ksp_lk
  refine wpAny_mono two (fun r s' hr' => ?_) fun _ _ e => e
  obtain ⟨v, rfl, hq⟩ := hr'
  ksp_lk
  exact hq

structure CmpSlot (op : CmpOp) (id : String) (B : Builtin) : Prop where
  slot : Slot "int" (cmpInfo op).2.1 id
  entry : entryFor table id = some B
  args : ∀ a b : Value, argsOk id ⟨[a, b], []⟩
  no : ∀ (M : Model) (A : Around) (E : Value → Shared → Prop) (s : Shared) (x C dx : Addr) (n : Int) (t : Tok) (R : Fin → Shared → Prop), s.heap.get? x = some (instObj C dx) → R (.done (.ret .notImplemented)) s → wpAny M A (B ⟨[.int n t, .ref x], []⟩) R E s
theorem cEq : CmpSlot .Eq "int.__eq__" Builtin.«int.__eq__» := ⟨F.slot_int_eq, F.entry_int_eq, F.args_int_eq_2, fun _ _ _ _ _ _ _ _ _ _ h q => eq_no h q⟩
theorem cNe : CmpSlot .NotEq "int.__ne__" Builtin.«int.__ne__» := ⟨F.slot_int_ne, F.entry_int_ne, F.args_int_ne_2, fun _ _ _ _ _ _ _ _ _ _ h q => ne_no h q⟩
theorem cLt : CmpSlot .Lt "int.__lt__" Builtin.«int.__lt__» := ⟨F.slot_int_lt, F.entry_int_lt, F.args_int_lt_2, fun _ _ _ _ _ _ _ _ _ _ h q => lt_no h q⟩
theorem cLe : CmpSlot .LtE "int.__le__" Builtin.«int.__le__» := ⟨F.slot_int_le, F.entry_int_le, F.args_int_le_2, fun _ _ _ _ _ _ _ _ _ _ h q => le_no h q⟩
theorem cGt : CmpSlot .Gt "int.__gt__" Builtin.«int.__gt__» := ⟨F.slot_int_gt, F.entry_int_gt, F.args_int_gt_2, fun _ _ _ _ _ _ _ _ _ _ h q => gt_no h q⟩
theorem cGe : CmpSlot .GtE "int.__ge__" Builtin.«int.__ge__» := ⟨F.slot_int_ge, F.entry_int_ge, F.args_int_ge_2, fun _ _ _ _ _ _ _ _ _ _ h q => ge_no h q⟩

theorem int_cmp {op : CmpOp} {id : String} {B : Builtin} {R : Option Value → Shared → Prop} (S : CmpSlot op id B) (ho : s.heap.get? x = some (instObj C dx)) (h : R none s) : wpAny (model prog w) A (tryCompare (.int n t) (cmpInfo op).2.1 (.ref x)) R E s :=
  wpAny_tryCompare_declines (typeIs_int s n t) S.slot (wpAny_call_entry S.slot (typeIs_int s n t) S.entry (S.no _ _ _ _ _ _ _ _ _ _ ho ⟨_, rfl, rfl, h⟩) (S.args _ _))

theorem rcmpT {op : CmpOp} {id : String} {B : Builtin} (S : CmpSlot op id B) (hu : A.units < cLine) (F : Fr h₀ L s.heap m) (X₀ : K.In h₀) (I : InstAt s.heap x (instObj C dx) C od)
    (hs : findIn K (.ref C) (cmpInfo op).2.2 = some (some (.ref f))) (hf : isFn K (.ref f) = true) (hsub : subIn K (.ref C) (.type "int") = some false)
    (h : wpAny (model prog w) A (call (.ref f) [.ref x, .int n t]) (PySem.W.CmpBack Q) E s) : wpAny (model prog w) A (richCompare op (.int n t) (.ref x)) Q E s := by
  have X := X₀.keeps F.keep
  have ho : s.heap.get? x = some (instObj C dx) := I.1
  have one : wpAny (model prog w) A (tryCompare (.ref x) (cmpInfo op).2.2 (.int n t)) (fun r s' => ∃ v, r = some v ∧ Q v s') E s := by
    unfold tryCompare
    refine wpAny_bind (ifBound_K X I hs hf (wpAny_mono h (fun v s' hv => ?_) fun _ _ e => e))
    cases v <;> first | exact hv.elim | exact wpAny_pure ⟨_, rfl, hv⟩
  have two := int_cmp (prog := prog) (w := w) (A := A) (E := E) (n := n) (t := t) (R := fun r s' => r = none ∧ s' = s) S ho ⟨rfl, rfl⟩
  have hne : (Value.type "int" != Value.ref C) = true := by
    have e : (Value.type "int" == Value.ref C) = false := Bool.eq_false_iff.mpr fun q => by cases beq_iff_eq.mp q
    show (!(Value.type "int" == Value.ref C)) = true
    rw [e]
    rfl
  have hob : oneThing? op (.int n t) (.ref x) = none := by rfl
  unfold richCompare
  simp only [hob]
  refine wpAny_holding (wpAny_bind (wpAny_cRoomFor hu ?_))
  refine wpAny_bind ((Looks.of_pure (M := model prog w) (h := s.heap) (t := typeOf (.int n t)) (r := .type "int") rfl).here (wpAny_bind (I.type.here ?_)))
  rw [if_pos hne]
  refine wpAny_bind ((looks_subIn X hsub).here ?_)
  simp only [Bool.false_eq_true, if_false]
  refine wpAny_bind (wpAny_mono two (fun r s' z => ?_) fun _ _ e => e)
  obtain ⟨rfl, rfl⟩ := z
  dsimp only
  simp only [Bool.not_false, if_true]
  refine wpAny_bind (wpAny_mono one (fun r s' z => ?_) fun _ _ e => e)
  obtain ⟨v, rfl, hq⟩ := z
  exact wpAny_pure hq
end
end Trk

namespace Trk
open PySem L2 Evl

/-! ### what a value is, whatever its address -/
inductive D where
  | v (x : V)
  | obj (C : Addr) (fs : List (Str × D))
  | lst (xs : List D)
  | tup (xs : List D)
mutual
def Den (K : PySem.W.Frag) (H : Hp) : D → V → Prop
  | .v x, y => y = x
  | .obj C fs, y => ∃ a dx gs, y = .ref a ∧ H a = some (.ins C dx gs) ∧ DenF K H fs gs
  | .lst xs, y => ∃ a ys, y = .ref a ∧ SqL K H a ys ∧ DenL K H xs ys
  | .tup xs, y => ∃ a ys, y = .ref a ∧ SqT K H a ys ∧ DenL K H xs ys
def DenL (K : PySem.W.Frag) (H : Hp) : List D → List V → Prop
  | [], ys => ys = []
  | x :: xs, ys => ∃ z zs, ys = z :: zs ∧ Den K H x z ∧ DenL K H xs zs
def DenF (K : PySem.W.Frag) (H : Hp) : List (Str × D) → List (Str × V) → Prop
  | [], ys => ys = []
  | (f, x) :: xs, ys => ∃ z zs, ys = (f, z) :: zs ∧ Den K H x z ∧ DenF K H xs zs
end
section
variable {K : PySem.W.Frag} {H H' : Hp}
mutual
theorem Den.mono (e : Ex H H') : ∀ {d : D} {y : V}, Den K H d y → Den K H' d y
  | .v x, y, h => by
    simp only [Den] at h ⊢
    exact h
  | .obj C fs, y, h => by
    simp only [Den] at h ⊢
    obtain ⟨a, dx, gs, h1, h2, h3⟩ := h
    exact ⟨a, dx, gs, h1, e _ _ h2, DenF.mono e h3⟩
  | .lst xs, y, h => by
    simp only [Den] at h ⊢
    obtain ⟨a, ys, h1, h2, h3⟩ := h
    exact ⟨a, ys, h1, ex_l e h2, DenL.mono e h3⟩
  | .tup xs, y, h => by
    simp only [Den] at h ⊢
    obtain ⟨a, ys, h1, h2, h3⟩ := h
    exact ⟨a, ys, h1, ex_t e h2, DenL.mono e h3⟩
theorem DenL.mono (e : Ex H H') : ∀ {ds : List D} {ys : List V}, DenL K H ds ys → DenL K H' ds ys
  | [], ys, h => by
    simp only [DenL] at h ⊢
    exact h
  | x :: xs, ys, h => by
    simp only [DenL] at h ⊢
    obtain ⟨z, zs, h1, h2, h3⟩ := h
    exact ⟨z, zs, h1, Den.mono e h2, DenL.mono e h3⟩
theorem DenF.mono (e : Ex H H') : ∀ {ds : List (Str × D)} {ys : List (Str × V)}, DenF K H ds ys → DenF K H' ds ys
  | [], ys, h => by
    simp only [DenF] at h ⊢
    exact h
  | (f, x) :: xs, ys, h => by
    simp only [DenF] at h ⊢
    obtain ⟨z, zs, h1, h2, h3⟩ := h
    exact ⟨z, zs, h1, Den.mono e h2, DenF.mono e h3⟩
end
theorem den_v {x y : V} : Den K H (.v x) y ↔ y = x := by simp only [Den]
theorem DenL.cons {d : D} {ds : List D} {x : V} {xs : List V} (h : Den K H d x) (t : DenL K H ds xs) : DenL K H (d :: ds) (x :: xs) := by
  simp only [DenL]
  exact ⟨x, xs, rfl, h, t⟩
theorem DenL.nil : DenL K H [] [] := by simp only [DenL]
theorem DenL.len : ∀ {ds : List D} {ys : List V}, DenL K H ds ys → ds.length = ys.length
  | [], ys, h => by
    simp only [DenL] at h
    subst h
    rfl
  | x :: xs, ys, h => by
    simp only [DenL] at h
    obtain ⟨z, zs, h1, h2, h3⟩ := h
    rw [h1, List.length_cons, List.length_cons, DenL.len h3]
theorem DenL.get : ∀ {ds : List D} {ys : List V} {i : Nat} {d : D}, DenL K H ds ys → ds[i]? = some d → ∃ y, ys[i]? = some y ∧ Den K H d y
  | [], ys, i, d, h, e => by simp at e
  | x :: xs, ys, 0, d, h, e => by
    simp only [DenL] at h
    obtain ⟨z, zs, h1, h2, h3⟩ := h
    subst h1
    simp at e
    subst e
    exact ⟨z, by simp, h2⟩
  | x :: xs, ys, i + 1, d, h, e => by
    simp only [DenL] at h
    obtain ⟨z, zs, h1, h2, h3⟩ := h
    subst h1
    obtain ⟨y, h4, h5⟩ := DenL.get (i := i) (d := d) h3 (by simpa using e)
    exact ⟨y, by simpa using h4, h5⟩
theorem denL_two {d e : D} {ys : List V} (h : DenL K H [d, e] ys) : ∃ x y, ys = [x, y] ∧ Den K H d x ∧ Den K H e y := by
  simp only [DenL] at h
  obtain ⟨x, _, rfl, h1, y, _, rfl, h2, rfl⟩ := h
  exact ⟨x, y, rfl, h1, h2⟩
theorem denL_one {d : D} {ys : List V} (h : DenL K H [d] ys) : ∃ x, ys = [x] ∧ Den K H d x := by
  simp only [DenL] at h
  obtain ⟨x, _, rfl, h1, rfl⟩ := h
  exact ⟨x, rfl, h1⟩
end

/-! ### slots -/
abbrev Gm := List (Option D)
def Ctx (K : PySem.W.Frag) (H : Hp) (Γ : Gm) (σ : L2.St) : Prop := ∀ (i : Nat) (d : D), Γ[i]? = some (some d) → ∃ v, σ[i]? = some (some v) ∧ Den K H d v
theorem Ctx.mono {K : PySem.W.Frag} {H H' : Hp} {Γ : Gm} {σ : L2.St} (e : Ex H H') (c : Ctx K H Γ σ) : Ctx K H' Γ σ := fun i d h => by
  obtain ⟨v, h1, h2⟩ := c i d h
  exact ⟨v, h1, h2.mono e⟩
theorem Ctx.set {K : PySem.W.Frag} {H : Hp} {Γ : Gm} {σ : L2.St} {i : Nat} {d : D} {v : V} (c : Ctx K H Γ σ) (hi : i < σ.length) (h : Den K H d v) : Ctx K H (Γ.set i (some d)) (σ.set i (some v)) := fun j d' e => by
  by_cases hj : i = j
  · subst hj
    rw [List.getElem?_set] at e
    simp only [if_true] at e
    split at e
    · cases Option.some.inj (Option.some.inj e)
      exact ⟨v, List.getElem?_set_self hi, h⟩
    · cases e
  · rw [List.getElem?_set_ne hj] at e
    obtain ⟨w, h1, h2⟩ := c j d' e
    exact ⟨w, by rw [List.getElem?_set_ne hj]; exact h1, h2⟩

/-! ### the judgements -/
section
variable (X : Cx)
def ED (e : Expr) (Γ : Gm) (d : D) : Prop := ∃ t, PE X e t ∧ ∀ σ H, Ctx X.K H Γ σ → ∀ Q : VK, (∀ v H', Ex H H' → Den X.K H' d v → Q v H') → t σ H Q
def TD (e : Expr) (Γ : Gm) (b : Bool) : Prop := ∃ t, PT X e t ∧ ∀ σ H, Ctx X.K H Γ σ → ∀ Q : Bool → Hp → Prop, (∀ H', Ex H H' → Q b H') → t σ H Q
def WD (e : Expr) (Γ : Gm) (b : Bool) : Prop := ∃ t, PW X e t ∧ ∀ σ H, Ctx X.K H Γ σ → ∀ Q : Bool → Hp → Prop, (∀ H', Ex H H' → Q b H') → t σ H Q
def AD (es : List Expr) (Γ : Gm) (ds : List D) : Prop := ∃ t, PA X es t ∧ ∀ σ H, Ctx X.K H Γ σ → ∀ Q : List V → Hp → Prop, (∀ vs H', Ex H H' → DenL X.K H' ds vs → Q vs H') → t σ H Q
end
inductive Out where
  | nx (Γ : Gm)
  | rt (d : D)
  | bk (Γ : Gm)
  | ct (Γ : Gm)
  | ex (cls : Value) (fs : List (Str × D)) (Γ : Gm)
/-- what X takes of an exception -/
def W0 (X : Cx) : WX := fun cls d σ H => ∀ u s', XE X (fun c d' σ' H' => c = cls ∧ d' = d ∧ σ' = σ ∧ H' = H) u s' → X.xe u s'
theorem tk0 {X : Cx} : L2.Takes X (W0 X) := fun u s' ⟨a, B, sI, pins, σ, H, cls, d, e, I, nb, up, sky, na, os, ag, w⟩ => w u s' ⟨a, B, sI, pins, σ, H, cls, d, e, I, nb, up, sky, na, os, ag, rfl, rfl, rfl, rfl⟩
theorem w0_of {X : Cx} {W : WX} {cls : Value} {d : Option Addr} {σ : L2.St} {H : Hp} (tk : L2.Takes X W) (h : W cls d σ H) : W0 X cls d σ H := fun u s' ⟨a, B, sI, pins, σ', H', cls', d', e, I, nb, up, sky, na, os, ag, h1, h2, h3, h4⟩ => by
  subst h1; subst h2; subst h3; subst h4
  exact tk u s' ⟨a, B, sI, pins, _, _, _, _, e, I, nb, up, sky, na, os, ag, h⟩
/-- what the exception bears -/
def DenX (K : PySem.W.Frag) (H : Hp) (d : Option Addr) (fs : List (Str × D)) : Prop := (fs = [] ∧ d = none) ∨ ∃ dd gs, fs ≠ [] ∧ d = some dd ∧ H dd = some (.xd gs) ∧ DenF K H fs gs
theorem DenX.mono {K : PySem.W.Frag} {H H' : Hp} {d : Option Addr} {fs : List (Str × D)} (e : Ex H H') (h : DenX K H d fs) : DenX K H' d fs := by
  rcases h with h | ⟨dd, gs, h0, h1, h2, h3⟩
  · exact .inl h
  · exact .inr ⟨dd, gs, h0, h1, e _ _ h2, h3.mono e⟩
/-- where the ends take what Φ says -/
structure Tk (X : Cx) (H : Hp) (Φ : Out → Prop) (E : Ends) : Prop where
  nx : ∀ Γ σ H', Φ (.nx Γ) → Ex H H' → σ.length = X.N.length → Ctx X.K H' Γ σ → E.nx σ H'
  rt : ∀ d v H', Φ (.rt d) → Ex H H' → Den X.K H' d v → E.rt v H'
  bk : ∀ Γ σ H', Φ (.bk Γ) → Ex H H' → σ.length = X.N.length → Ctx X.K H' Γ σ → E.bk σ H'
  ct : ∀ Γ σ H', Φ (.ct Γ) → Ex H H' → σ.length = X.N.length → Ctx X.K H' Γ σ → E.ct σ H'
  ex : ∀ cls fs Γ d σ H', Φ (.ex cls fs Γ) → Ex H H' → σ.length = X.N.length → Ctx X.K H' Γ σ → DenX X.K H' d fs → W0 X cls d σ H'
theorem Tk.mono {X : Cx} {H H' : Hp} {Φ : Out → Prop} {E : Ends} (e : Ex H H') (t : Tk X H Φ E) : Tk X H' Φ E :=
  ⟨fun Γ σ H2 h e2 => t.nx Γ σ H2 h (e.trans e2), fun d v H2 h e2 => t.rt d v H2 h (e.trans e2), fun Γ σ H2 h e2 => t.bk Γ σ H2 h (e.trans e2), fun Γ σ H2 h e2 => t.ct Γ σ H2 h (e.trans e2), fun c fs Γ d σ H2 h e2 => t.ex c fs Γ d σ H2 h (e.trans e2)⟩
section
variable (X : Cx)
def SD (st : Stmt) (Γ : Gm) (Φ : Out → Prop) : Prop := ∃ t, PS X st t ∧ ∀ σ H, σ.length = X.N.length → Ctx X.K H Γ σ → ∀ E : Ends, Tk X H Φ E → t E σ H
def SsD (st : List Stmt) (Γ : Gm) (Φ : Out → Prop) : Prop := ∃ t, PSs X st t ∧ ∀ σ H, σ.length = X.N.length → Ctx X.K H Γ σ → ∀ E : Ends, Tk X H Φ E → t E σ H
end

section
variable {X : Cx} {Γ : Gm} {d d1 d2 : D} {e a b c : Expr} {es : List Expr} {pos : Pos} {st : Stmt} {sts rest : List Stmt} {Φ Ψ : Out → Prop}

/-! ### expressions -/
theorem ed_var (i : Nat) {x : Str} (h : Γ[i]? = some (some d)) (hN : X.N[i]? = some x := by rfl) (hv : Vis X.env.scope x := by first | exact Or.inl rfl | exact Or.inr (Or.inl rfl) | exact Or.inr (Or.inr rfl)) (hd : (x == ("__debug__" : Str)) = false := by decide)
    (hcd : (x == ("__classdict__" : Str)) = false := by decide) : ED X (.Name x pos) Γ d := by
  refine ⟨_, pe_var hN hv hd hcd, fun σ H C Q q => ?_⟩
  obtain ⟨v, h1, h2⟩ := C i d h
  exact ⟨v, h1, q v H (Ex.refl H) h2⟩
theorem ed_int {n : Int} {j : Nat} : ED X (.Constant (.int n) j pos) Γ (.v (.int n)) := ⟨_, pe_int, fun σ H C Q q => q _ H (Ex.refl H) (den_v.mpr rfl)⟩
theorem ed_bl {n : Bool} {j : Nat} : ED X (.Constant (.bool n) j pos) Γ (.v (.bl n)) := ⟨_, pe_bl, fun σ H C Q q => q _ H (Ex.refl H) (den_v.mpr rfl)⟩
theorem ed_non {j : Nat} : ED X (.Constant .none j pos) Γ (.v .non) := ⟨_, pe_non, fun σ H C Q q => q _ H (Ex.refl H) (den_v.mpr rfl)⟩
theorem ed_str {x : Str} {j : Nat} : ED X (.Constant (.str x) j pos) Γ (.v (.str x)) := ⟨_, pe_str, fun σ H C Q q => q _ H (Ex.refl H) (den_v.mpr rfl)⟩
theorem ed_is (h : ED X e Γ d1) (q : d1 = d) : ED X e Γ d := q ▸ h

/-- what an operation by values gives -/
def RD (K : PySem.W.Frag) (r : R2) (d1 d2 d : D) : Prop := ∀ x y H, Den K H d1 x → Den K H d2 y → ∀ Q : VK, (∀ v H', Ex H H' → Den K H' d v → Q v H') → r x y H Q
def UD (K : PySem.W.Frag) (r : V → Hp → VK → Prop) (d1 d : D) : Prop := ∀ x H, Den K H d1 x → ∀ Q : VK, (∀ v H', Ex H H' → Den K H' d v → Q v H') → r x H Q
def CD (K : PySem.W.Frag) (r : List V → Hp → VK → Prop) (ds : List D) (d : D) : Prop := ∀ xs H, DenL K H ds xs → ∀ Q : VK, (∀ v H', Ex H H' → Den K H' d v → Q v H') → r xs H Q
theorem ed_op {op : Operator} {r : R2} (ho : OpR X (binaryOp op) r) (ha : ED X a Γ d1) (hb : ED X b Γ d2) (hr : RD X.K r d1 d2 d) : ED X (.BinOp a op b pos) Γ d := by
  obtain ⟨ta, pa, qa⟩ := ha
  obtain ⟨tb, pb, qb⟩ := hb
  refine ⟨_, pe_op ho pa pb, fun σ H C Q q => qa σ H C _ fun x H1 e1 h1 => qb σ H1 (C.mono e1) _ fun y H2 e2 h2 => hr x y H2 (h1.mono e2) h2 _ fun v H3 e3 h3 => q v H3 ((e1.trans e2).trans e3) h3⟩
theorem ed_cmp {op : CmpOp} {r : R2} (ho : OpR X (compareOp op) r) (ha : ED X a Γ d1) (hb : ED X b Γ d2) (hr : RD X.K r d1 d2 d) (hm : behindInMarks op b = false := by exact nomark _) : ED X (.Compare a [op] [b] pos) Γ d := by
  obtain ⟨ta, pa, qa⟩ := ha
  obtain ⟨tb, pb, qb⟩ := hb
  refine ⟨_, pe_cmpR ho pa pb hm, fun σ H C Q q => qa σ H C _ fun x H1 e1 h1 => qb σ H1 (C.mono e1) _ fun y H2 e2 h2 => hr x y H2 (h1.mono e2) h2 _ fun v H3 e3 h3 => q v H3 ((e1.trans e2).trans e3) h3⟩
theorem td_cmp {op : CmpOp} {r : R2} {k : Bool} (ho : OpR X (compareOp op) r) (ha : ED X a Γ d1) (hb : ED X b Γ d2) (hr : RD X.K r d1 d2 (.v (.bl k))) (hm : behindInMarks op b = false := by exact nomark _) : TD X (.Compare a [op] [b] pos) Γ k := by
  obtain ⟨ta, pa, qa⟩ := ha
  obtain ⟨tb, pb, qb⟩ := hb
  refine ⟨_, pt_cmpR ho pa pb hm, fun σ H C Q q => qa σ H C _ fun x H1 e1 h1 => qb σ H1 (C.mono e1) _ fun y H2 e2 h2 => hr x y H2 (h1.mono e2) h2 _ fun v H3 e3 h3 => ⟨k, den_v.mp h3, q H3 ((e1.trans e2).trans e3)⟩⟩
theorem ed_un {op : UnaryOp} {r : V → Hp → VK → Prop} (ho : UnR X (unaryOp op) r) (ha : ED X a Γ d1) (hr : UD X.K r d1 d) : ED X (.UnaryOp op a pos) Γ d := by
  obtain ⟨ta, pa, qa⟩ := ha
  exact ⟨_, pe_un ho pa, fun σ H C Q q => qa σ H C _ fun x H1 e1 h1 => hr x H1 h1 _ fun v H3 e3 h3 => q v H3 (e1.trans e3) h3⟩

section
variable {K : PySem.W.Frag} {i j : Int}
theorem rd_I0 {g : Int → Int → V} : RD K (rI0 g) (.v (.int i)) (.v (.int j)) (.v (g i j)) := fun x y H h1 h2 Q q => ⟨i, j, den_v.mp h1, den_v.mp h2, q _ H (Ex.refl H) (den_v.mpr rfl)⟩
theorem rd_I {C : Int → Int → Prop} {g : Int → Int → V} (hc : C i j) : RD K (rI C g) (.v (.int i)) (.v (.int j)) (.v (g i j)) := fun x y H h1 h2 Q q => ⟨i, j, den_v.mp h1, den_v.mp h2, hc, q _ H (Ex.refl H) (den_v.mpr rfl)⟩
theorem ud_neg : UD K (rU fun i => .int (-i)) (.v (.int i)) (.v (.int (-i))) := fun x H h1 Q q => ⟨i, den_v.mp h1, q _ H (Ex.refl H) (den_v.mpr rfl)⟩
theorem rd_eq {x y : V} (h : scal x y = true) : RD K rEq (.v x) (.v y) (.v (.bl (decide (x = y)))) := fun a b H h1 h2 Q q => by
  rw [den_v.mp h1, den_v.mp h2]
  exact ⟨h, q _ H (Ex.refl H) (den_v.mpr rfl)⟩
theorem rd_ne {x y : V} (h : scal x y = true) : RD K rNe (.v x) (.v y) (.v (.bl (!decide (x = y)))) := fun a b H h1 h2 Q q => by
  rw [den_v.mp h1, den_v.mp h2]
  exact ⟨h, q _ H (Ex.refl H) (den_v.mpr rfl)⟩
end

/-! ### tests -/
theorem td_val {b : Bool} (h : ED X e Γ (.v (.bl b))) (he : ∀ whole, isTrue e X.env whole = (do let v ← whole; standAt e.pos; holding [v] (truthy v)) := by intro _; rfl) : TD X e Γ b := by
  obtain ⟨t, p, q⟩ := h
  exact ⟨_, pt_val p he, fun σ H C Q k => q σ H C _ fun v H1 e1 h1 => ⟨b, den_v.mp h1, k H1 e1⟩⟩
theorem td_not {k : Bool} (h : TD X a Γ k) : TD X (.UnaryOp .Not a pos) Γ (!k) := by
  obtain ⟨t, p, q⟩ := h
  exact ⟨_, pt_not p, fun σ H C Q r => q σ H C _ fun H1 e1 => r H1 e1⟩
theorem wd_and1 {k : Bool} (h : TD X a Γ k) : WD X (.BoolOp .And [a] pos) Γ k := by
  obtain ⟨t, p, q⟩ := h
  exact ⟨_, pw_and1 p, q⟩
theorem wd_or1 {k : Bool} (h : TD X a Γ k) : WD X (.BoolOp .Or [a] pos) Γ k := by
  obtain ⟨t, p, q⟩ := h
  exact ⟨_, pw_or1 p, q⟩
theorem pw_never : PW X e (fun _ _ _ => False) := ⟨fun _ _ _ _ _ _ _ h => h.elim⟩
theorem pt_never : PT X e (fun _ _ _ => False) := ⟨fun _ _ _ _ _ _ h => h.elim⟩
theorem pe_never : PE X e (fun _ _ _ => False) := ⟨fun _ _ _ _ _ _ h => h.elim⟩
theorem pss_nv : PSs X sts (fun _ _ _ => False) := ⟨fun _ _ _ _ _ _ h => h.elim⟩
theorem ps_nv : PS X st (fun _ _ _ => False) := ⟨fun _ _ _ _ _ _ h => h.elim⟩
/-- a and ..: a False -/
theorem wd_andF (h : TD X a Γ false) : WD X (.BoolOp .And (a :: b :: es) pos) Γ false := by
  obtain ⟨t, p, q⟩ := h
  exact ⟨_, pw_and p pw_never, fun σ H C Q r => q σ H C _ fun H1 e1 => r H1 e1⟩
theorem wd_andT {k : Bool} (h : TD X a Γ true) (h2 : WD X (.BoolOp .And (b :: es) pos) Γ k) : WD X (.BoolOp .And (a :: b :: es) pos) Γ k := by
  obtain ⟨t, p, q⟩ := h
  obtain ⟨t2, p2, q2⟩ := h2
  exact ⟨_, pw_and p p2, fun σ H C Q r => q σ H C _ fun H1 e1 => q2 σ H1 (C.mono e1) Q fun H2 e2 => r H2 (e1.trans e2)⟩
theorem wd_orT (h : TD X a Γ true) : WD X (.BoolOp .Or (a :: b :: es) pos) Γ true := by
  obtain ⟨t, p, q⟩ := h
  exact ⟨_, pw_or p pw_never, fun σ H C Q r => q σ H C _ fun H1 e1 => r H1 e1⟩
theorem wd_orF {k : Bool} (h : TD X a Γ false) (h2 : WD X (.BoolOp .Or (b :: es) pos) Γ k) : WD X (.BoolOp .Or (a :: b :: es) pos) Γ k := by
  obtain ⟨t, p, q⟩ := h
  obtain ⟨t2, p2, q2⟩ := h2
  exact ⟨_, pw_or p p2, fun σ H C Q r => q σ H C _ fun H1 e1 => q2 σ H1 (C.mono e1) Q fun H2 e2 => r H2 (e1.trans e2)⟩
theorem WD.td {k : Bool} (h : WD X e Γ k) : TD X e Γ k := by
  obtain ⟨t, p, q⟩ := h
  exact ⟨t, p.pt, q⟩
/-- and, or, not as values -/
theorem ed_not {k : Bool} (h : ED X a Γ (.v (.bl k))) : ED X (.UnaryOp .Not a pos) Γ (.v (.bl (!k))) := by
  obtain ⟨t, p, q⟩ := h
  exact ⟨_, pe_not p, fun σ H C Q r => q σ H C _ fun v H1 e1 h1 => ⟨k, den_v.mp h1, r _ H1 e1 (den_v.mpr rfl)⟩⟩
theorem ed_one {op} (h : ED X a Γ d) : ED X (.BoolOp op [a] pos) Γ d := by
  obtain ⟨t, p, q⟩ := h
  exact ⟨_, pe_one p, q⟩
theorem ed_andT {d : D} (h : ED X a Γ (.v (.bl true))) (h2 : ED X (.BoolOp .And (b :: es) pos) Γ d) : ED X (.BoolOp .And (a :: b :: es) pos) Γ d := by
  obtain ⟨t, p, q⟩ := h
  obtain ⟨t2, p2, q2⟩ := h2
  exact ⟨_, pe_and p p2, fun σ H C Q r => q σ H C _ fun v H1 e1 h1 => ⟨true, den_v.mp h1, q2 σ H1 (C.mono e1) Q fun w H2 e2 h3 => r w H2 (e1.trans e2) h3⟩⟩
theorem ed_andF (h : ED X a Γ (.v (.bl false))) : ED X (.BoolOp .And (a :: b :: es) pos) Γ (.v (.bl false)) := by
  obtain ⟨t, p, q⟩ := h
  exact ⟨_, pe_and p pe_never, fun σ H C Q r => q σ H C _ fun v H1 e1 h1 => ⟨false, den_v.mp h1, r _ H1 e1 (den_v.mpr rfl)⟩⟩
theorem ed_orF {d : D} (h : ED X a Γ (.v (.bl false))) (h2 : ED X (.BoolOp .Or (b :: es) pos) Γ d) : ED X (.BoolOp .Or (a :: b :: es) pos) Γ d := by
  obtain ⟨t, p, q⟩ := h
  obtain ⟨t2, p2, q2⟩ := h2
  exact ⟨_, pe_or p p2, fun σ H C Q r => q σ H C _ fun v H1 e1 h1 => ⟨false, den_v.mp h1, q2 σ H1 (C.mono e1) Q fun w H2 e2 h3 => r w H2 (e1.trans e2) h3⟩⟩
theorem ed_orT (h : ED X a Γ (.v (.bl true))) : ED X (.BoolOp .Or (a :: b :: es) pos) Γ (.v (.bl true)) := by
  obtain ⟨t, p, q⟩ := h
  exact ⟨_, pe_or p pe_never, fun σ H C Q r => q σ H C _ fun v H1 e1 h1 => ⟨true, den_v.mp h1, r _ H1 e1 (den_v.mpr rfl)⟩⟩

/-! ### arguments, displays, calls -/
theorem ad_nil : AD X [] Γ [] := ⟨_, pa_nil, fun σ H C Q r => r [] H (Ex.refl H) DenL.nil⟩
theorem ad_cons {ds : List D} (h : ED X e Γ d) (h2 : AD X es Γ ds) (hs : starEach (e :: es) X.env = (false, eval e X.env) :: starEach es X.env := by rfl) : AD X (e :: es) Γ (d :: ds) := by
  obtain ⟨t, p, q⟩ := h
  obtain ⟨t2, p2, q2⟩ := h2
  exact ⟨_, pa_cons p p2 hs, fun σ H C Q r => q σ H C _ fun v H1 e1 h1 => q2 σ H1 (C.mono e1) _ fun vs H2 e2 h2 => r _ H2 (e1.trans e2) (DenL.cons (h1.mono e2) h2)⟩
theorem ed_lst {ds : List D} (h : AD X es Γ ds) (hl : ds.length ≤ 100000 := by exact Nat.le_of_ble_eq_true rfl) : ED X (.List es pos) Γ (.lst ds) := by
  obtain ⟨t, p, q⟩ := h
  refine ⟨_, pe_lst p, fun σ H C Q r => q σ H C _ fun vs H1 e1 h1 => ⟨by rw [← h1.len]; exact sz_of hl, fun l hn => ?_⟩⟩
  refine r (.ref l) _ (e1.trans (Ex.new hn)) ?_
  simp only [Den]
  exact ⟨l, vs, rfl, sq_of upd_same, h1.mono (Ex.new hn)⟩
theorem ed_tup {ds : List D} {x1} (h : AD X es Γ ds) (hl : ds.length ≤ 100000 := by exact Nat.le_of_ble_eq_true rfl) : ED X (.Tuple es x1 pos) Γ (.tup ds) := by
  obtain ⟨t, p, q⟩ := h
  refine ⟨_, pe_tup p, fun σ H C Q r => q σ H C _ fun vs H1 e1 h1 => ⟨by rw [← h1.len]; exact sz_of hl, fun l hn => ?_⟩⟩
  refine r (.ref l) _ (e1.trans (Ex.new hn)) ?_
  simp only [Den]
  exact ⟨l, vs, rfl, st_of upd_same, h1.mono (Ex.new hn)⟩
/-- the promise of a def that only makes things: from such arguments such a result -/
def spD (K : PySem.W.Frag) (n : Nat) (R : List D → D → Prop) : Sp := fun vs H Q _ => ∃ ds d, ds.length = n ∧ DenL K H ds vs ∧ R ds d ∧ ∀ v H', Ex H H' → Den K H' d v → Q v H'
theorem spD_len {K : PySem.W.Frag} {n : Nat} {R : List D → D → Prop} {vs : List V} {H : Hp} {Q : VK} {E : XK} (h : spD K n R vs H Q E) : vs.length = n := by
  obtain ⟨ds, d, h1, h2, _⟩ := h
  rw [← h2.len, h1]
theorem ed_call {CX : CXT} {k n : Nat} {f : Addr} {fd : FuncData} {ps : List Str} {R : List D → D → Prop} {E : XK} {x : Str} {p : Pos} {ds : List D} (F : FnOk X.prog X.w X.K X.mg X.base CX k f fd ps (spD X.K n R)) (hr : Room k X.A) (hm : X.mg x = some (.ref f))
    (hk : PySem.W.keepIn X.K (.ref f) = true) (hb : Binds X.K fd ps []) (hx : Passes CX X E) (ha : AD X (e :: es) Γ ds) (hR : R ds d) (hn : ds.length = n := by rfl) (hg : Gl X x := by rfl) (hdb : (x == ("__debug__" : Str)) = false := by decide)
    (he : starEach (e :: es) X.env = (false, eval e X.env) :: starEach es X.env := by rfl) (hpl : (backTo pos (starEach es X.env)).any (·.1) = false := by rfl) : ED X (.Call (.Name x p) (e :: es) [] pos) Γ d := by
  obtain ⟨t, p, q⟩ := ha
  refine ⟨_, pe_call F hr hg hm hk hb .nil hx p hdb he hpl, fun σ H C Q r => q σ H C _ fun vs H1 e1 h1 => ?_⟩
  rw [List.append_nil]
  exact ⟨ds, d, hn, h1, hR, fun v H' e2 h2 => r v H' (e1.trans e2) h2⟩
/-- a built-in called by its name -/
theorem ed_callB {r : List V → Hp → VK → Prop} {id : String} {x : Str} {p : Pos} {ds : List D} (hc : CallR X (.builtin id) r) (hm : X.mg x = none) (hv : bootBuiltins x = some (.builtin id)) (ha : AD X (e :: es) Γ ds) (hr : CD X.K r ds d) (hg : Gl X x := by rfl)
    (hn : x ≠ "__name__" := by decide) (hdb : (x == ("__debug__" : Str)) = false := by decide) (he : starEach (e :: es) X.env = (false, eval e X.env) :: starEach es X.env := by rfl) (hpl : (backTo pos (starEach es X.env)).any (·.1) = false := by rfl) :
    ED X (.Call (.Name x p) (e :: es) [] pos) Γ d := by
  obtain ⟨t, p, q⟩ := ha
  exact ⟨_, pe_callB hc hg hm hv p hn hdb he hpl, fun σ H C Q k => q σ H C _ fun vs H1 e1 h1 => hr vs H1 h1 Q fun v H' e2 h2 => k v H' (e1.trans e2) h2⟩
theorem ed_callTy {r : List V → Hp → VK → Prop} {T : String} {x : Str} {p : Pos} {ds : List D} (hc : CallR X (.type T) r) (hm : X.mg x = none) (hv : bootBuiltins x = some (.type T)) (ha : AD X (e :: es) Γ ds) (hr : CD X.K r ds d) (hg : Gl X x := by rfl)
    (hn : x ≠ "__name__" := by decide) (hdb : (x == ("__debug__" : Str)) = false := by decide) (he : starEach (e :: es) X.env = (false, eval e X.env) :: starEach es X.env := by rfl) (hpl : (backTo pos (starEach es X.env)).any (·.1) = false := by rfl) :
    ED X (.Call (.Name x p) (e :: es) [] pos) Γ d := by
  obtain ⟨t, p, q⟩ := ha
  exact ⟨_, pe_callTy hc hg hm hv p hn hdb he hpl, fun σ H C Q k => q σ H C _ fun vs H1 e1 h1 => hr vs H1 h1 Q fun v H' e2 h2 => k v H' (e1.trans e2) h2⟩
theorem lookup_put {β : Type} (f g : Str) (y : β) (fs : List (Str × β)) : ((f, y) :: fs).lookup g = if g = f then some y else fs.lookup g := by
  by_cases h : g = f
  · subst h
    simp [List.lookup]
  · have e : (g == f) = false := by simpa using h
    rw [if_neg h]
    simp [List.lookup, e]
/-- o.f -/
theorem ed_fld {C : Addr} {fs : List (Str × D)} {f : Str} {p : Pos} (h : ED X e Γ (.obj C fs)) (hc : Cls X.K C) (hn : NoAttr X.K C f) (hl : fs.lookup f = some d) (hb : attributeBase e f X.env (eval e X.env) = eval e X.env := by rfl) : ED X (.Attribute e f p) Γ d := by
  obtain ⟨t, p, q⟩ := h
  refine ⟨_, pe_fld p hb, fun σ H C Q k => q σ H C _ fun v H1 e1 h1 => ?_⟩
  simp only [Den] at h1
  obtain ⟨a, dx, gs, rfl, h2, h3⟩ := h1
  have key : ∀ {fs : List (Str × D)} {gs : List (Str × V)}, DenF X.K H1 fs gs → fs.lookup f = some d → ∃ y, gs.lookup f = some y ∧ Den X.K H1 d y := by
    intro fs
    induction fs with
    | nil =>
      intro gs _ h
      cases h
    | cons p r ih =>
      intro gs hF hl
      obtain ⟨g, x⟩ := p
      simp only [DenF] at hF
      obtain ⟨z, zs, rfl, hz, hzs⟩ := hF
      rw [lookup_put] at hl ⊢
      by_cases hfg : f = g
      · rw [if_pos hfg] at hl ⊢
        cases hl
        exact ⟨z, rfl, hz⟩
      · rw [if_neg hfg] at hl ⊢
        exact ih hzs hl
  obtain ⟨y, h4, h5⟩ := key h3 hl
  exact ⟨a, _, dx, gs, y, rfl, h2, hc, hn, h4, k y H1 e1 h5⟩

/-! ### statements -/
theorem ss_nil (h : Φ (.nx Γ)) : SsD X [] Γ Φ := ⟨_, pss_nil, fun σ H hl C E T => T.nx Γ σ H h (Ex.refl H) hl C⟩
theorem Tk.imp {H : Hp} {E : Ends} (h : ∀ o, Ψ o → Φ o) (t : Tk X H Φ E) : Tk X H Ψ E :=
  ⟨fun Γ σ H2 z => t.nx Γ σ H2 (h _ z), fun d v H2 z => t.rt d v H2 (h _ z), fun Γ σ H2 z => t.bk Γ σ H2 (h _ z), fun Γ σ H2 z => t.ct Γ σ H2 (h _ z), fun c fs Γ d σ H2 z => t.ex c fs Γ d σ H2 (h _ z)⟩
/-- a statement, then the rest -/
theorem ss_seq (h : SD X st Γ Ψ) (hn : ∀ Γ', Ψ (.nx Γ') → SsD X sts Γ' Φ) (ho : ∀ o, (∀ Γ', o ≠ .nx Γ') → Ψ o → Φ o) : SsD X (st :: sts) Γ Φ := by
  obtain ⟨t, p, q⟩ := h
  by_cases hs : ∃ Γ', Ψ (.nx Γ')
  · let u : TS := fun E σ H => ∃ Γ', Ψ (.nx Γ') ∧ σ.length = X.N.length ∧ Ctx X.K H Γ' σ ∧ Tk X H Φ E
    have pu : PSs X sts u := ⟨fun pins s σ H E I ⟨Γ', h1, h2, h3, h4⟩ => by
      obtain ⟨t', p', q'⟩ := hn Γ' h1
      exact p'.run pins s σ H E I (q' σ H h2 h3 E h4)⟩
    refine ⟨_, pss_cons p pu, fun σ H hl C E T => q σ H hl C _ ⟨fun Γ' σ' H' h1 e1 h2 h3 => ⟨Γ', h1, h2, h3, T.mono e1⟩, fun d v H' h1 => T.rt d v H' (ho _ (fun _ z => by cases z) h1), fun Γ' σ' H' h1 => T.bk Γ' σ' H' (ho _ (fun _ z => by cases z) h1), fun Γ' σ' H' h1 => T.ct Γ' σ' H' (ho _ (fun _ z => by cases z) h1), fun c fs Γ' d σ' H' h1 => T.ex c fs Γ' d σ' H' (ho _ (fun _ z => by cases z) h1)⟩⟩
  · refine ⟨_, pss_cons p pss_nv, fun σ H hl C E T => q σ H hl C _ ⟨fun Γ' σ' H' h1 e1 h2 h3 => absurd ⟨Γ', h1⟩ hs, fun d v H' h1 => T.rt d v H' (ho _ (fun _ z => by cases z) h1), fun Γ' σ' H' h1 => T.bk Γ' σ' H' (ho _ (fun _ z => by cases z) h1), fun Γ' σ' H' h1 => T.ct Γ' σ' H' (ho _ (fun _ z => by cases z) h1), fun c fs Γ' d σ' H' h1 => T.ex c fs Γ' d σ' H' (ho _ (fun _ z => by cases z) h1)⟩⟩
theorem sd_asg (i : Nat) {x : Str} {pos' : Pos} (he : ED X e Γ d) (hd : X.N.Nodup) (h : Φ (.nx (Γ.set i (some d)))) (hN : X.N[i]? = some x := by rfl) (hx : Loc X.env.scope x := by first | exact Or.inl rfl | exact Or.inr rfl)
    (hs : swapsWith e (some (.Name x pos')) pos.line X.env = pure false := by rfl) (hf : X.fn x = true ∨ X.env.scope.names.lookup x = some .local := by first | exact .inl rfl | exact .inr rfl) : SD X (.Assign [.Name x pos'] e pos) Γ Φ := by
  obtain ⟨t, p, q⟩ := he
  refine ⟨_, ps_set (i := i) hd hN hx p hs hf, fun σ H hl C E T => q σ H C _ fun v H1 e1 h1 => ?_⟩
  have hi : i < σ.length := by
    rw [hl]
    exact (List.getElem?_eq_some_iff.mp hN).1
  exact T.nx _ _ H1 h e1 (by rw [List.length_set]; exact hl) ((C.mono e1).set hi h1)
theorem sd_ret (he : ED X e Γ d) (h : Φ (.rt d)) : SD X (.Return (some e) pos) Γ Φ := by
  obtain ⟨t, p, q⟩ := he
  exact ⟨_, ps_ret p, fun σ H hl C E T => q σ H C _ fun v H1 e1 h1 => T.rt d v H1 h e1 h1⟩
theorem sd_if {k : Bool} {sa sb : List Stmt} (hc : TD X c Γ k) (ha : k = true → SsD X sa Γ Φ) (hb : k = false → SsD X sb Γ Φ) : SD X (.If c sa sb pos) Γ Φ := by
  obtain ⟨t, p, q⟩ := hc
  cases k with
  | true =>
    obtain ⟨ta, pa, qa⟩ := ha rfl
    exact ⟨_, ps_if p pa pss_nv, fun σ H hl C E T => q σ H C _ fun H1 e1 => qa σ H1 hl (C.mono e1) E (T.mono e1)⟩
  | false =>
    obtain ⟨tb, pb, qb⟩ := hb rfl
    exact ⟨_, ps_if p pss_nv pb, fun σ H hl C E T => q σ H C _ fun H1 e1 => qb σ H1 hl (C.mono e1) E (T.mono e1)⟩
theorem sd_expr (he : ED X e Γ d) (h : Φ (.nx Γ)) (hs : swapsWith e none pos.line X.env = pure false := by rfl) : SD X (.Expr e pos) Γ Φ := by
  obtain ⟨t, p, q⟩ := he
  exact ⟨_, ps_expr p hs, fun σ H hl C E T => q σ H C _ fun v H1 e1 h1 => T.nx Γ σ H1 h e1 hl (C.mono e1)⟩
/-! ### the short ways -/
theorem z_asg (i : Nat) {x : Str} {pos' : Pos} (he : ED X e Γ d) (hd : X.N.Nodup) (k : SsD X sts (Γ.set i (some d)) Φ) (hN : X.N[i]? = some x := by rfl) (hx : Loc X.env.scope x := by first | exact Or.inl rfl | exact Or.inr rfl)
    (hs : swapsWith e (some (.Name x pos')) pos.line X.env = pure false := by rfl) (hf : X.fn x = true ∨ X.env.scope.names.lookup x = some .local := by first | exact .inl rfl | exact .inr rfl) : SsD X (.Assign [.Name x pos'] e pos :: sts) Γ Φ :=
  ss_seq (Ψ := fun o => o = .nx (Γ.set i (some d))) (sd_asg i he hd rfl hN hx hs hf) (fun Γ' h => by
    cases h
    exact k) fun o h1 h2 => absurd h2 (h1 _)
theorem z_ret (he : ED X e Γ d) (h : Φ (.rt d)) : SsD X (.Return (some e) pos :: sts) Γ Φ :=
  ss_seq (Ψ := fun o => o = .rt d) (sd_ret he rfl) (fun Γ' h => by cases h) fun o h1 h2 => by
    rw [h2]
    exact h
/-- an if whose test is false, no else -/
theorem z_ifF {sa : List Stmt} (hc : TD X c Γ false) (k : SsD X sts Γ Φ) : SsD X (.If c sa [] pos :: sts) Γ Φ :=
  ss_seq (Ψ := fun o => o = .nx Γ) (sd_if hc (fun z => by cases z) fun _ => ss_nil rfl) (fun Γ' h => by
    cases h
    exact k) fun o h1 h2 => absurd h2 (h1 _)
/-- an if whose body leaves, or not -/
theorem z_ifR {b : Bool} {sa : List Stmt} (hc : TD X c Γ b) (h : b = true → SsD X sa Γ (fun o => (∀ Γ', o ≠ .nx Γ') ∧ Φ o)) (k : b = false → SsD X sts Γ Φ) : SsD X (.If c sa [] pos :: sts) Γ Φ :=
  ss_seq (Ψ := fun o => (b = true ∧ (∀ Γ', o ≠ .nx Γ') ∧ Φ o) ∨ (b = false ∧ o = .nx Γ))
    (sd_if hc (fun z => by
      obtain ⟨t, p, q⟩ := h z
      exact ⟨t, p, fun σ H hl C E T => q σ H hl C E (T.imp fun o w => .inl ⟨z, w⟩)⟩) fun z => ss_nil (.inr ⟨z, rfl⟩))
    (fun Γ' h => by
      rcases h with ⟨_, h, _⟩ | ⟨z, h⟩
      · exact absurd rfl (h Γ')
      · cases h
        exact k z) fun o h1 h2 => by
    rcases h2 with ⟨_, _, h⟩ | ⟨_, h⟩
    · exact h
    · exact absurd h (h1 _)
theorem SsD.imp (h : SsD X sts Γ Ψ) (hi : ∀ o, Ψ o → Φ o) : SsD X sts Γ Φ := by
  obtain ⟨t, p, q⟩ := h
  exact ⟨t, p, fun σ H hl C E T => q σ H hl C E (T.imp hi)⟩
theorem SD.imp (h : SD X st Γ Ψ) (hi : ∀ o, Ψ o → Φ o) : SD X st Γ Φ := by
  obtain ⟨t, p, q⟩ := h
  exact ⟨t, p, fun σ H hl C E T => q σ H hl C E (T.imp hi)⟩
end

/-! ### a def whose body only makes things -/
theorem start_ctx {K : PySem.W.Frag} {H : Hp} {N : List Str} {ds : List D} {vs : List V} (h : DenL K H ds vs) : Ctx K H (ds.map some ++ List.replicate (N.length - ds.length) none) (L2.start N vs) := fun i d e => by
  unfold L2.start
  have hl := h.len
  by_cases hi : i < ds.length
  · rw [List.getElem?_append_left (by rw [List.length_map]; exact hi), List.getElem?_map] at e
    cases q : ds[i]? with
    | none =>
      rw [q] at e
      cases e
    | some d' =>
      rw [q] at e
      cases e
      obtain ⟨y, h1, h2⟩ := h.get q
      refine ⟨y, ?_, h2⟩
      rw [List.getElem?_append_left (by rw [List.length_map, ← hl]; exact hi), List.getElem?_map, h1]
      rfl
  · rw [List.getElem?_append_right (by rw [List.length_map]; omega), List.getElem?_replicate] at e
    split at e <;> cases e
theorem fn_D {P : Program} {w : World} {K : PySem.W.Frag} {mg : Str → Option Value} {base : Heap} {x qual : Str} {st : Stmt} {f : Addr} {fd : FuncData} {N ps : List Str} {k : Nat} {R : List D → D → Prop} (F : Fun K x qual st f fd) (S : FnScope N ps (defScope st))
    (hN : ps.length ≤ N.length)
    (h : ∀ (cdv : Value) (A : Around) (outer : List Env) (s : Shared) (H : Hp) (E : XK) (ds : List D) (d : D), Room k (A.deeper (PyProof.Rows.envOfC qual (defScope st) s.heap.objs.size f cdv)) → ds.length = ps.length → R ds d →
      SsD (cxOf CX0 P w K mg base N qual (defScope st) f cdv A outer s H E).nox (defBody st) (ds.map some ++ List.replicate (N.length - ds.length) none) (fun o => o = .rt d ∨ (d = .v .non ∧ ∃ Γ, o = .nx Γ))) :
    FnOk P w K mg base CX0 (k + 1) f fd ps (spD K ps.length R) := by
  refine F.ok S (fun vs H Q E h => spD_len h) fun cdv A outer s H vs Q E hr hsp => ?_
  obtain ⟨ds, d, h1, h2, h3, h4⟩ := hsp
  obtain ⟨t, p, q⟩ := h cdv A outer s H E ds d hr h1 h3
  refine ⟨t, p, q (L2.start N vs) H ?_ (start_ctx h2) _ ⟨fun Γ σ H' z e1 _ _ => ?_, fun d' v H' z e1 hv => ?_, fun Γ σ H' z => ?_, fun Γ σ H' z => ?_, fun c fs Γ d σ H' z => ?_⟩⟩
  · show (L2.start N vs).length = N.length
    unfold L2.start
    rw [List.length_append, List.length_map, List.length_replicate, ← h2.len, h1]
    omega
  · rcases z with z | ⟨z, _⟩
    · cases z
    · subst z
      exact h4 _ H' e1 (den_v.mpr rfl)
  · rcases z with z | ⟨_, _, z⟩
    · cases z
      exact h4 v H' e1 hv
    · cases z
  · rcases z with z | ⟨_, _, z⟩ <;> cases z
  · rcases z with z | ⟨_, _, z⟩ <;> cases z
  · rcases z with z | ⟨_, _, z⟩ <;> cases z
end Trk

namespace Trk
open PySem L2 Evl

/-- a sign's own methods: f for C op .., g for int op C -/
structure NumOp (K : PySem.W.Frag) (C : Addr) (op : Operator) (f g : Addr) : Prop where
  first : PySem.W.selfFirst K C = true
  find : PySem.W.findIn K (.ref C) (PySem.dunder op.info.2) = some (some (.ref f))
  fn : PySem.W.isFn K (.ref f) = true
  rfind : PySem.W.findIn K (.ref C) (dunderR op.info.2) = some (some (.ref g))
  rfn : PySem.W.isFn K (.ref g) = true
  sub1 : PySem.W.subIn K (.type "int") (.ref C) = some false
  sub2 : PySem.W.subIn K (.ref C) (.type "int") = some false
structure CmpM (K : PySem.W.Frag) (C : Addr) (name : Str) (f : Addr) : Prop where
  find : PySem.W.findIn K (.ref C) name = some (some (.ref f))
  fn : PySem.W.isFn K (.ref f) = true
section
variable {X : Cx} {CX : CXT} {k : Nat} {C f g : Addr} {fd : FuncData} {ps : List Str} {sp : Sp} {E : XK} {op : Operator}
theorem back_of {pins : List (Addr × Obj)} {σ : L2.St} {H : Hp} {s : Shared} {Q : VK} {us : List Value} {vs : List V} (F : FnOk X.prog X.w X.K X.mg X.base CX k f fd ps sp) (hr : Room k X.A) (hb : Binds X.K fd ps []) (hx : Passes CX X E)
    (I : Inv X pins σ H s) (r : Vals vs us) (h : sp vs H Q E) : wpAny (model X.prog X.w) X.A (call (.ref f) us) (PySem.W.CmpBack (EP X pins σ Q)) X.xe s :=
  thn (run_fn F hr hb .nil hx I r (by rw [List.append_nil]; exact h)) fun u s' q => by
    have q' := q
    obtain ⟨v, H', I', rv, _⟩ := q'
    exact SlX.cmpback rv q
theorem vals_rr (a b : Addr) : Vals [V.ref a, V.ref b] [Value.ref a, Value.ref b] := .cons (show RelV (V.ref a) (Value.ref a) from rfl) (.cons (show RelV (V.ref b) (Value.ref b) from rfl) .nil)
theorem vals_ri (a : Addr) (n : Int) (t : Tok) : Vals [V.ref a, V.int n] [Value.ref a, Value.int n t] := .cons (show RelV (V.ref a) (Value.ref a) from rfl) (.cons (show RelV (V.int n) (Value.int n t) from ⟨t, rfl⟩) .nil)
/-- both of the class -/
def rOwn (C : Addr) (sp : Sp) (E : XK) : R2 := fun x y H Q => ∃ a b dx dy fs gs, x = .ref a ∧ y = .ref b ∧ H a = some (.ins C dx fs) ∧ H b = some (.ins C dy gs) ∧ sp [x, y] H Q E
/-- an int on the right -/
def rOwnI (C : Addr) (sp : Sp) (E : XK) : R2 := fun x y H Q => ∃ a dx fs n, x = .ref a ∧ y = .int n ∧ H a = some (.ins C dx fs) ∧ sp [x, y] H Q E
/-- an int on the left -/
def rIOwn (C : Addr) (sp : Sp) (E : XK) : R2 := fun x y H Q => ∃ b dx fs n, x = .int n ∧ y = .ref b ∧ H b = some (.ins C dx fs) ∧ sp [y, x] H Q E
theorem op_own (M : NumOp X.K C op f g) (F : FnOk X.prog X.w X.K X.mg X.base CX k f fd ps sp) (hr : Room k X.A) (hb : Binds X.K fd ps []) (hx : Passes CX X E) : OpR X (binaryOp op) (rOwn C sp E) := by
  intro pins s σ H x y v u Q I rx ry h
  obtain ⟨a, b, dx, dy, fs, gs, rfl, rfl, ha, hb', hsp⟩ := h
  cases rx
  cases ry
  obtain ⟨mA, J, _⟩ := ins_get I.hok ha
  obtain ⟨mB, J', _⟩ := ins_get I.hok hb'
  obtain ⟨od, J, _⟩ := J.look
  obtain ⟨od', J', _⟩ := J'.look
  obtain ⟨m, hF⟩ := I.fr
  exact PySem.W.binop_K hF I.ok.mod.kin J J'.type M.first M.find M.fn (back_of F hr hb hx I (vals_rr a b) hsp)
theorem op_ownI {fo ro : Option Value} (M : NumOp X.K C op f g) (h1 : PySem.W.findIn X.K (.type "int") (PySem.dunder op.info.2) = some fo) (h2 : PySem.W.findIn X.K (.type "int") (dunderR op.info.2) = some ro)
    (F : FnOk X.prog X.w X.K X.mg X.base CX k f fd ps sp) (hr : Room k X.A) (hb : Binds X.K fd ps []) (hx : Passes CX X E) : OpR X (binaryOp op) (rOwnI C sp E) := by
  intro pins s σ H x y v u Q I rx ry h
  obtain ⟨a, dx, fs, n, rfl, rfl, ha, hsp⟩ := h
  cases rx
  obtain ⟨t, rfl⟩ := ry
  obtain ⟨mA, J, _⟩ := ins_get I.hok ha
  obtain ⟨od, J, _⟩ := J.look
  obtain ⟨m, hF⟩ := I.fr
  exact PySem.W.ksp_binT (T := "int") hF I.ok.mod.kin J rfl M.first M.find M.fn M.rfind (.inr ⟨_, rfl⟩) h1 h2 M.sub1 (back_of F hr hb hx I (vals_ri a n t) hsp)
theorem op_iown {fo ro : Option Value} {id : String} {B : Builtin} (S : Trk.IntSlot op.info.2 id B) (M : NumOp X.K C op f g) (h1 : PySem.W.findIn X.K (.type "int") (PySem.dunder op.info.2) = some fo) (h2 : PySem.W.findIn X.K (.type "int") (dunderR op.info.2) = some ro)
    (hl : ((fo.isSome && !isSeqSlot fo) || (ro.isSome && !isSeqSlot ro)) = true)
    (F : FnOk X.prog X.w X.K X.mg X.base CX k g fd ps sp) (hr : Room k X.A) (hb : Binds X.K fd ps []) (hx : Passes CX X E) : OpR X (binaryOp op) (rIOwn C sp E) := by
  intro pins s σ H x y v u Q I rx ry h
  obtain ⟨a, dx, fs, n, rfl, rfl, ha, hsp⟩ := h
  cases ry
  obtain ⟨t, rfl⟩ := rx
  obtain ⟨mA, J, _⟩ := ins_get I.hok ha
  obtain ⟨od, J, _⟩ := J.look
  obtain ⟨m, hF⟩ := I.fr
  exact Trk.rbinT S hF I.ok.mod.kin J M.first M.find M.rfind M.rfn h1 h2 hl M.sub2 (back_of F hr hb hx I (vals_ri a n t) hsp)
/-! ### comparisons -/
variable {cop : CmpOp}
theorem cmp_own (hro : ∀ a b, compareOp cop a b = richCompare cop a b) (M : CmpM X.K C (cmpInfo cop).2.1 f) (F : FnOk X.prog X.w X.K X.mg X.base CX k f fd ps sp) (hr : Room k X.A) (hb : Binds X.K fd ps []) (hx : Passes CX X E) : OpR X (compareOp cop) (rOwn C sp E) := by
  intro pins s σ H x y v u Q I rx ry h
  obtain ⟨a, b, dx, dy, fs, gs, rfl, rfl, ha, hb', hsp⟩ := h
  cases rx
  cases ry
  obtain ⟨mA, J, _⟩ := ins_get I.hok ha
  obtain ⟨mB, J', _⟩ := ins_get I.hok hb'
  obtain ⟨od, J, _⟩ := J.look
  obtain ⟨od', J', _⟩ := J'.look
  obtain ⟨m, hF⟩ := I.fr
  rw [hro]
  exact PySem.W.cmp_K (tb := .ref C) hr.units0 hF I.ok.mod.kin J J'.type (by simp [PySem.W.notFirst]) M.find M.fn (back_of F hr hb hx I (vals_rr a b) hsp)
theorem cmp_ownI (hro : ∀ a b, compareOp cop a b = richCompare cop a b) (M : CmpM X.K C (cmpInfo cop).2.1 f) (hs : PySem.W.subIn X.K (.type "int") (.ref C) = some false) (F : FnOk X.prog X.w X.K X.mg X.base CX k f fd ps sp) (hr : Room k X.A) (hb : Binds X.K fd ps []) (hx : Passes CX X E) : OpR X (compareOp cop) (rOwnI C sp E) := by
  intro pins s σ H x y v u Q I rx ry h
  obtain ⟨a, dx, fs, n, rfl, rfl, ha, hsp⟩ := h
  cases rx
  obtain ⟨t, rfl⟩ := ry
  obtain ⟨mA, J, _⟩ := ins_get I.hok ha
  obtain ⟨od, J, _⟩ := J.look
  obtain ⟨m, hF⟩ := I.fr
  rw [hro]
  exact PySem.W.cmp_K (tb := .type "int") hr.units0 hF I.ok.mod.kin J (PySem.W.Looks.of_pure rfl) (by unfold PySem.W.notFirst; rw [hs]; simp) M.find M.fn (back_of F hr hb hx I (vals_ri a n t) hsp)
/-- an int on the left: the mirrored sign's method -/
theorem cmp_iown {id : String} {B : Builtin} (hro : ∀ a b, compareOp cop a b = richCompare cop a b) (S : Trk.CmpSlot cop id B) (M : CmpM X.K C (cmpInfo cop).2.2 f) (hs : PySem.W.subIn X.K (.ref C) (.type "int") = some false) (F : FnOk X.prog X.w X.K X.mg X.base CX k f fd ps sp) (hr : Room k X.A) (hb : Binds X.K fd ps []) (hx : Passes CX X E) :
    OpR X (compareOp cop) (rIOwn C sp E) := by
  intro pins s σ H x y v u Q I rx ry h
  obtain ⟨a, dx, fs, n, rfl, rfl, ha, hsp⟩ := h
  cases ry
  obtain ⟨t, rfl⟩ := rx
  obtain ⟨mA, J, _⟩ := ins_get I.hok ha
  obtain ⟨od, J, _⟩ := J.look
  obtain ⟨m, hF⟩ := I.fr
  rw [hro]
  exact Trk.rcmpT S hr.units0 hF I.ok.mod.kin J M.find M.fn hs (back_of F hr hb hx I (vals_ri a n t) hsp)
end
section
variable {K : PySem.W.Frag} {C : Addr} {fs gs : List (Str × D)} {R : List D → D → Prop} {E : XK} {d : D} {n : Int}
theorem rd_own (h : R [.obj C fs, .obj C gs] d) : RD K (rOwn C (spD K 2 R) E) (.obj C fs) (.obj C gs) d := fun x y H h1 h2 Q q => by
  have k1 := h1
  have k2 := h2
  simp only [Den] at h1 h2
  obtain ⟨a, dx, fs', rfl, ha, _⟩ := h1
  obtain ⟨b, dy, gs', rfl, hb, _⟩ := h2
  exact ⟨a, b, dx, dy, fs', gs', rfl, rfl, ha, hb, _, d, rfl, DenL.cons k1 (DenL.cons k2 DenL.nil), h, q⟩
theorem rd_ownI (h : R [.obj C fs, .v (.int n)] d) : RD K (rOwnI C (spD K 2 R) E) (.obj C fs) (.v (.int n)) d := fun x y H h1 h2 Q q => by
  have k1 := h1
  have k2 := h2
  simp only [Den] at h1 h2
  obtain ⟨a, dx, fs', rfl, ha, _⟩ := h1
  subst h2
  exact ⟨a, dx, fs', n, rfl, rfl, ha, _, d, rfl, DenL.cons k1 (DenL.cons k2 DenL.nil), h, q⟩
theorem rd_iown (h : R [.obj C fs, .v (.int n)] d) : RD K (rIOwn C (spD K 2 R) E) (.v (.int n)) (.obj C fs) d := fun x y H h1 h2 Q q => by
  have k1 := h1
  have k2 := h2
  simp only [Den] at h1 h2
  obtain ⟨a, dx, fs', rfl, ha, _⟩ := h2
  subst h1
  exact ⟨a, dx, fs', n, rfl, rfl, ha, _, d, rfl, DenL.cons k2 (DenL.cons k1 DenL.nil), h, q⟩
end
/-! ### a negative divisor, of any size -/
def CDivZ (_ j : Int) : Prop := j ≠ 0 ∧ j.natAbs.log2 < 9000
theorem op_fdivZ {X : Cx} : OpR X (binaryOp .FloorDiv) (rI CDivZ fun i j => .int (i.fdiv j)) := opI fun i j _ _ _ _ _ hc q => PyProof.Rows.floordiv_int hc.1 q (.inl (PyProof.noPylong_of_log2 hc.2))
end Trk

namespace Trk
/-! ### what the class Fraction reckons: Rat -/
def cmn (a b : Int) : Int := if b < 0 then -((Nat.gcd a.natAbs b.natAbs : Nat) : Int) else ((Nat.gcd a.natAbs b.natAbs : Nat) : Int)
theorem cmn_ne {a b : Int} (hb : b ≠ 0) : cmn a b ≠ 0 := by
  have h : 0 < Nat.gcd a.natAbs b.natAbs := Nat.gcd_pos_of_pos_right _ (Int.natAbs_pos.mpr hb)
  unfold cmn
  split <;> omega
theorem cmn_le {a b : Int} (hb : b ≠ 0) : (cmn a b).natAbs ≤ b.natAbs := by
  have h : Nat.gcd a.natAbs b.natAbs ≤ b.natAbs := Nat.gcd_le_right _ (Int.natAbs_pos.mpr hb)
  unfold cmn
  split <;> omega
theorem fdiv_exact {g k : Int} (hg : g ≠ 0) : (g * k).fdiv g = k := by
  rw [Int.mul_comm, Int.mul_fdiv_cancel _ hg]
theorem top_eq {a b : Int} (hb : b ≠ 0) : a.fdiv (cmn a b) = (Rat.divInt a b).num := by
  have hg : 0 < Nat.gcd a.natAbs b.natAbs := Nat.gcd_pos_of_pos_right _ (Int.natAbs_pos.mpr hb)
  obtain ⟨k, hk⟩ : ((Nat.gcd a.natAbs b.natAbs : Nat) : Int) ∣ a := Int.ofNat_dvd_left.mpr (Nat.gcd_dvd_left _ _)
  rw [Rat.num_divInt, show Int.gcd b a = Nat.gcd a.natAbs b.natAbs from Nat.gcd_comm _ _]
  unfold cmn
  generalize hG : Nat.gcd a.natAbs b.natAbs = G at *
  by_cases h : b < 0
  · rw [if_pos h, Int.sign_eq_neg_one_of_neg h, hk, show ((G : Int) * k).fdiv (-(G : Int)) = -k from by
      rw [show (G : Int) * k = (-(G : Int)) * (-k) by rw [Int.neg_mul_neg], fdiv_exact (by omega)]]
    rw [show (-1 : Int) * ((G : Int) * k) = (G : Int) * (-k) by rw [Int.neg_one_mul, Int.mul_neg], Int.mul_ediv_cancel_left _ (by omega)]
  · rw [if_neg h, Int.sign_eq_one_of_pos (by omega), hk, fdiv_exact (by omega), Int.one_mul, Int.mul_ediv_cancel_left _ (by omega)]
theorem bottom_eq {a b : Int} (hb : b ≠ 0) : b.fdiv (cmn a b) = ((Rat.divInt a b).den : Int) := by
  have hg : 0 < Nat.gcd a.natAbs b.natAbs := Nat.gcd_pos_of_pos_right _ (Int.natAbs_pos.mpr hb)
  obtain ⟨k, hk⟩ : ((Nat.gcd a.natAbs b.natAbs : Nat) : Int) ∣ b := Int.ofNat_dvd_left.mpr (Nat.gcd_dvd_right _ _)
  rw [Rat.den_divInt, if_neg hb, show Int.gcd b a = Nat.gcd a.natAbs b.natAbs from Nat.gcd_comm _ _]
  unfold cmn
  generalize hG : Nat.gcd a.natAbs b.natAbs = G at *
  have hn : b.natAbs / G = k.natAbs := by
    rw [hk, Int.natAbs_mul, Int.natAbs_natCast, Nat.mul_div_cancel_left _ hg]
  rw [hn]
  by_cases h : b < 0
  · have hk0 : k < 0 := by
      rcases Int.lt_or_le k 0 with z | z
      · exact z
      · have := Int.mul_nonneg (show (0 : Int) ≤ (G : Int) by omega) z
        omega
    rw [if_pos h]
    conv => lhs; rw [hk]
    rw [show (G : Int) * k = (-(G : Int)) * (-k) by rw [Int.neg_mul_neg], fdiv_exact (by omega)]
    omega
  · have hk0 : 0 ≤ k := by
      rcases Int.lt_or_le k 0 with z | z
      · have := Int.mul_neg_of_pos_of_neg (show (0 : Int) < (G : Int) by omega) z
        omega
      · exact z
    rw [if_neg h]
    conv => lhs; rw [hk]
    rw [fdiv_exact (by omega)]
    omega
/-- no greater than what it was made of -/
theorem num_le (a b : Int) : (Rat.divInt a b).num.natAbs ≤ a.natAbs := by
  rw [Rat.num_divInt]
  have h1 : (b.sign * a).natAbs ≤ a.natAbs := by
    rw [Int.natAbs_mul]
    rcases Int.sign_trichotomy b with h | h | h <;> rw [h] <;> simp
  refine Nat.le_trans ?_ h1
  exact Int.natAbs_ediv_le_natAbs _ _
theorem den_le {a b : Int} (hb : b ≠ 0) : (Rat.divInt a b).den ≤ b.natAbs := by
  rw [Rat.den_divInt, if_neg hb]
  exact Nat.div_le_self _ _
/-- sizes -/
def Sz (n : Nat) (q : Rat) : Prop := q.num.natAbs < 2 ^ n ∧ q.den < 2 ^ n
end Trk
namespace Trk
theorem q_mul {a b : Int} (hb : b ≠ 0) : Rat.divInt a b * (b : Rat) = (a : Rat) := by
  rw [Rat.divInt_eq_div]
  exact Rat.div_mul_cancel (by simpa using hb)
theorem q_lt {a b c e : Int} (hb : 0 < b) (he : 0 < e) : Rat.divInt a b < Rat.divInt c e ↔ a * e < c * b := by
  have h1 : (0 : Rat) < ((b * e : Int) : Rat) := Rat.intCast_pos.mpr (Int.mul_pos hb he)
  have e1 : Rat.divInt a b * ((b * e : Int) : Rat) = ((a * e : Int) : Rat) := by
    rw [Rat.intCast_mul, ← Rat.mul_assoc, q_mul (by omega), ← Rat.intCast_mul]
  have e2 : Rat.divInt c e * ((b * e : Int) : Rat) = ((c * b : Int) : Rat) := by
    rw [Int.mul_comm b e, Rat.intCast_mul, ← Rat.mul_assoc, q_mul (by omega), ← Rat.intCast_mul]
  rw [← Rat.mul_lt_mul_right h1, e1, e2, Rat.intCast_lt_intCast]
theorem q_int (n : Int) : (n : Rat) = Rat.divInt n 1 := (Rat.num_divInt_den (n : Rat)).symm
/-- the sign of a difference -/
theorem q_sgn {a b c e : Int} (hb : 0 < b) (he : 0 < e) : (a * e - c * b < 0 ↔ Rat.divInt a b < Rat.divInt c e) ∧ (0 < a * e - c * b ↔ Rat.divInt c e < Rat.divInt a b) := by
  rw [q_lt hb he, q_lt he hb]
  exact ⟨by omega, by omega⟩
end Trk

namespace Trk
open PySem L2 Evl

abbrev fr (C : Addr) (q : Rat) : D := .obj C [("top", .v (.int q.num)), ("bottom", .v (.int (q.den : Int)))]
abbrev iD (n : Int) : D := .v (.int n)
abbrev bD (b : Bool) : D := .v (.bl b)
/-- a number: a Fraction, an int -/
def NumV (C : Addr) (y : D) (q : Rat) : Prop := y = fr C q ∨ ∃ n : Int, y = iD n ∧ q = (n : Rat)
theorem den_fr {K : PySem.W.Frag} {H : Hp} {C : Addr} {q : Rat} {v : V} : Den K H (fr C q) v ↔ ∃ a dx, v = .ref a ∧ H a = some (.ins C dx [("top", .int q.num), ("bottom", .int (q.den : Int))]) := by
  simp only [Den, DenF]
  constructor
  · rintro ⟨a, dx, gs, h1, h2, z, zs, h3, h4, z', zs', h5, h6, h7⟩
    subst h4 h6 h7 h5 h3
    exact ⟨a, dx, h1, h2⟩
  · rintro ⟨a, dx, h1, h2⟩
    exact ⟨a, dx, _, h1, h2, _, _, rfl, rfl, _, _, rfl, rfl, rfl⟩

/-- what the written part says of the class Fraction, at C -/
structure FrTxt (K : PySem.W.Frag) (mg : Str → Option Value) (C : Addr) : Prop where
  cl : Cls K C
  nT : NoAttr K C "top"
  nB : NoAttr K C "bottom"
  mgC : mg "Fraction" = some (.ref C)
  ca : PySem.W.findIn K (.ref C) "__class__" = some (some (.builtin "object.__class__"))
  cn : PySem.W.specialIn K (.builtin "object.__class__") "__get__" = some (some (.builtin "getset_descriptor.__get__"))
  ct : PySem.W.takesIn K (.builtin "object.__class__") = some true
  cm : PySem.W.mroIn K C (.type "object") = some true
  kCC : PySem.W.kitOne K (.ref C) (.ref C) = some true
  kIC : PySem.W.kitOne K (.type "int") (.ref C) = some false
  sub1 : PySem.W.subIn K (.type "int") (.ref C) = some false
  sub2 : PySem.W.subIn K (.ref C) (.type "int") = some false
  isi : mg "isinstance" = none
  tInt : mg "int" = none
  gcd : mg "gcd" = some (.builtin "math.gcd")
theorem kit_self {K : PySem.W.Frag} {C : Addr} : PySem.W.kitOne K (.ref C) (.ref C) = some true := by
  unfold PySem.W.kitOne
  rw [if_pos (by simp)]
theorem kit_sub {K : PySem.W.Frag} {C : Addr} {t : Value} {b : Bool} (ic : PySem.W.isClsIn K C = true) (ty : PySem.W.typeIn K (.ref C) = some (.type "type")) (s : PySem.W.subIn K t (.ref C) = some b) (hne : (t == Value.ref C) = false) : PySem.W.kitOne K t (.ref C) = some b := by
  unfold PySem.W.kitOne PySem.W.kitCls
  rw [if_neg (by rw [hne]; exact Bool.false_ne_true)]
  show (if ((PySem.W.clsIn K C).isSome && PySem.W.typeIn K (.ref C) == some (.type "type")) = true then PySem.W.subIn K t (.ref C) else none) = some b
  rw [if_pos (by
    rw [ty]
    have : (PySem.W.clsIn K C).isSome = true := ic
    rw [this]
    simp), s]
theorem ty_ne (n : String) (C : Addr) : (Value.type n == Value.ref C) = false := Bool.eq_false_iff.mpr fun q => by cases beq_iff_eq.mp q
theorem rf_ne {A C : Addr} (h : A ≠ C) : (Value.ref A == Value.ref C) = false := Bool.eq_false_iff.mpr fun q => h (Value.ref.inj (beq_iff_eq.mp q))
section
variable {X : Cx} {Γ : Gm} {d d1 d2 : D} {e a b c : Expr} {es : List Expr} {pos : Pos} {C : Addr}
theorem ed_glob {x : Str} {v : V} {u : Value} (hm : X.mg x = some u) (r : RelV v u) (hg : Gl X x := by rfl) (hd : (x == ("__debug__" : Str)) = false := by decide) : ED X (.Name x pos) Γ (.v v) := ⟨_, pe_glob hg hm r hd, fun σ H C Q q => q _ H (Ex.refl H) (den_v.mpr rfl)⟩
theorem ed_bltn {x : Str} {v : V} {u : Value} (hm : X.mg x = none) (hv : bootBuiltins x = some u) (r : RelV v u) (hg : Gl X x := by rfl) (hn : x ≠ "__name__" := by decide) (hd : (x == ("__debug__" : Str)) = false := by decide) : ED X (.Name x pos) Γ (.v v) := ⟨_, pe_bltn hg hm hv r hn hd, fun σ H C Q q => q _ H (Ex.refl H) (den_v.mpr rfl)⟩
/-- the type that isinstance sees -/
inductive TyD (K : PySem.W.Frag) (mg : Str → Option Value) : D → Value → Prop where
  | int (n : Int) : TyD K mg (iD n) (.type "int")
  | bl (b : Bool) : TyD K mg (bD b) (.type "bool")
  | fr {C : Addr} {q : Rat} (T : FrTxt K mg C) : TyD K mg (fr C q) (.ref C)
theorem TyD.to {K : PySem.W.Frag} {mg : Str → Option Value} {H : Hp} {d : D} {t : Value} {v : V} (h : TyD K mg d t) (hd : Den K H d v) : TyX K H v t := by
  cases h with
  | int n => rw [den_v.mp hd]; exact .base (.int n)
  | bl b => rw [den_v.mp hd]; exact .base (.bl b)
  | fr T =>
    obtain ⟨a, dx, rfl, h⟩ := den_fr.mp hd
    exact .base (.ins h T.cl T.ca T.cn T.ct T.cm)
/-- isinstance(a, c) -/
theorem ed_isi {k : Bool} {u t : Value} {cv : V} {p : Pos} (hm : X.mg "isinstance" = none) (ha : ED X a Γ d) (hc : ED X c Γ (.v cv)) (hcv : ClsV cv u) (ht : TyD X.K X.mg d t) (hk : PySem.W.kitOne X.K t u = some k) (hg : Gl X "isinstance" := by rfl)
    (he : starEach (a :: [c]) X.env = (false, eval a X.env) :: starEach [c] X.env := by rfl) (hs1 : starEach (c :: []) X.env = (false, eval c X.env) :: starEach [] X.env := by rfl) (hpl : (backTo pos (starEach [c] X.env)).any (·.1) = false := by rfl) :
    ED X (.Call (.Name "isinstance" p) [a, c] [] pos) Γ (bD k) := by
  refine ed_callB (d := bD k) (r := rIsi X.K) call_isi hm (by decide +kernel) (ad_cons ha (ad_cons hc ad_nil hs1) he) (fun xs H h Q q => ?_) hg (by decide) (by decide) he hpl
  obtain ⟨x, y, rfl, h1, h2⟩ := denL_two h
  rw [den_v.mp h2]
  exact ⟨x, cv, t, u, k, rfl, hcv, ht.to h1, hk, q _ H (Ex.refl H) (den_v.mpr rfl)⟩
/-- isinstance(a, (c1, c2)) -/
theorem ed_isi2 {k : Bool} {u1 u2 t : Value} {cv1 cv2 : V} {c1 c2 : Expr} {p p2 : Pos} {x1} (hm : X.mg "isinstance" = none) (ha : ED X a Γ d) (hc1 : PE X c1 (tC cv1)) (hc2 : PE X c2 (tC cv2)) (hcv1 : ClsV cv1 u1) (hcv2 : ClsV cv2 u2)
    (ht : TyD X.K X.mg d t) (hk : PySem.W.kitAny X.K t [u1, u2] = some k) (hg : Gl X "isinstance" := by rfl)
    (he : starEach (a :: [.Tuple [c1, c2] x1 p2]) X.env = (false, eval a X.env) :: starEach [.Tuple [c1, c2] x1 p2] X.env := by rfl) (hs1 : starEach (.Tuple [c1, c2] x1 p2 :: []) X.env = (false, eval (.Tuple [c1, c2] x1 p2) X.env) :: starEach [] X.env := by rfl)
    (hs2 : starEach (c1 :: [c2]) X.env = (false, eval c1 X.env) :: starEach [c2] X.env := by rfl) (hs3 : starEach (c2 :: []) X.env = (false, eval c2 X.env) :: starEach [] X.env := by rfl)
    (hpl : (backTo pos (starEach [.Tuple [c1, c2] x1 p2] X.env)).any (·.1) = false := by rfl) :
    ED X (.Call (.Name "isinstance" p) [a, .Tuple [c1, c2] x1 p2] [] pos) Γ (bD k) := by
  obtain ⟨ta, pa, qa⟩ := ha
  refine ⟨_, pe_callB (call_isiT (X := X)) hg hm (by decide +kernel) (pa_cons pa (pa_cons (pe_tup (pa_cons hc1 (pa_cons hc2 pa_nil hs3) hs2)) pa_nil hs1) he) (by decide) (by decide) he hpl, fun σ H Cc Q q => ?_⟩
  refine qa σ H Cc _ fun v H1 e1 h1 => ⟨(by show 2 ≤ sizeLine; decide), fun tp hn => ?_⟩
  exact ⟨v, tp, [cv1, cv2], t, [u1, u2], k, rfl, upd_same, .cons hcv1 (.cons hcv2 .nil), ht.to (h1.mono (Ex.new hn)), hk, q _ _ (e1.trans (Ex.new hn)) (den_v.mpr rfl)⟩

/-! ### Fraction(a, b) -/
def spInit (C : Addr) : Sp := fun vs H Q _ => ∃ (p dx : Addr) (a b : Int), vs = [.ref p, .int a, .int b] ∧ b ≠ 0 ∧ b.natAbs < 2 ^ 8900 ∧ H p = some (.ins C dx []) ∧
  Q .non (upd H p (.ins C dx [("top", .int (Rat.divInt a b).num), ("bottom", .int ((Rat.divInt a b).den : Int))]))
theorem init_new {C : Addr} {Q : VK} {H H1 : Hp} {K : PySem.W.Frag} {E : XK} {i j : Int} {x dx : Addr} (hb : j ≠ 0) (hz : j.natAbs < 2 ^ 8900) (nx : H1 x = none) (ndx : H1 dx = none) (ne : dx ≠ x) (e1 : Ex H H1)
    (q : ∀ v H', Ex H H' → Den K H' (fr C (Rat.divInt i j)) v → Q v H') : spInit C [.ref x, .int i, .int j] (upd (upd H1 dx (.own x)) x (.ins C dx [])) (fun v H2 => v = .non ∧ Q (.ref x) H2) E := by
  refine ⟨x, dx, i, j, rfl, hb, hz, upd_same, rfl, q _ _ (fun b o ho => ?_) (den_fr.mpr ⟨x, dx, rfl, upd_same⟩)⟩
  have h1 : H1 b = some o := e1 b o ho
  rw [upd_ne (ne_of_none h1 nx), upd_ne (ne_of_none h1 nx), upd_ne (ne_of_none h1 ndx)]
  exact h1
theorem ed_mk {CX : CXT} {k : Nat} {f : Addr} {fd : FuncData} {ps : List Str} {E : XK} {p : Pos} {i j : Int} (M : Mk X.K C f) (F : FnOk X.prog X.w X.K X.mg X.base CX k f fd ps (spInit C)) (hr : Room (k + 1) X.A) (hm : X.mg "Fraction" = some (.ref C))
    (hb : Binds X.K fd ps []) (hx : Passes CX X E) (ha : AD X (e :: es) Γ [iD i, iD j]) (h0 : j ≠ 0) (hz : j.natAbs < 2 ^ 8900) (hg : Gl X "Fraction" := by rfl) (he : starEach (e :: es) X.env = (false, eval e X.env) :: starEach es X.env := by rfl)
    (hpl : (backTo pos (starEach es X.env)).any (·.1) = false := by rfl) : ED X (.Call (.Name "Fraction" p) (e :: es) [] pos) Γ (fr C (Rat.divInt i j)) := by
  obtain ⟨t, pp, q⟩ := ha
  refine ⟨_, pe_make M F hr hg hm hb .nil hx pp (by decide) he hpl, fun σ H Cc Q r => q σ H Cc _ fun vs H1 e1 h1 x dx nx ndx ne => ?_⟩
  obtain ⟨x1, x2, rfl, h2, h3⟩ := denL_two h1
  rw [den_v.mp h2, den_v.mp h3]
  exact init_new h0 hz nx ndx ne e1 r
theorem ed_mk1 {CX : CXT} {k : Nat} {f : Addr} {fd : FuncData} {ps : List Str} {E : XK} {p : Pos} {i : Int} {ds : List Value} (M : Mk X.K C f) (F : FnOk X.prog X.w X.K X.mg X.base CX k f fd ps (spInit C)) (hr : Room (k + 1) X.A) (hm : X.mg "Fraction" = some (.ref C))
    (hb : Binds X.K fd ps ds) (hd : Vals [V.int 1] ds) (hx : Passes CX X E) (ha : ED X e Γ (iD i)) (hg : Gl X "Fraction" := by rfl) (he : starEach (e :: []) X.env = (false, eval e X.env) :: starEach [] X.env := by rfl)
    (hpl : (backTo pos (starEach [] X.env)).any (·.1) = false := by rfl) : ED X (.Call (.Name "Fraction" p) [e] [] pos) Γ (fr C (i : Rat)) := by
  obtain ⟨t, pp, q⟩ := ha
  have e0 : (i : Rat) = Rat.divInt i 1 := (Rat.num_divInt_den (i : Rat)).symm
  rw [e0]
  refine ⟨_, pe_make M F hr hg hm hb hd hx (pa_cons pp pa_nil he) (by decide) he hpl, fun σ H Cc Q r => q σ H Cc _ fun v H1 e1 h1 x dx nx ndx ne => ?_⟩
  rw [den_v.mp h1]
  exact init_new (by decide) (Nat.one_lt_two_pow (by decide)) nx ndx ne e1 r
end
/-! ### sizes -/
theorem Sz.num {n : Nat} {q : Rat} (h : Sz n q) : q.num.natAbs < 2 ^ n := h.1
theorem Sz.denI {n : Nat} {q : Rat} (h : Sz n q) : ((q.den : Int)).natAbs < 2 ^ n := h.2
theorem Sz.mono {n m : Nat} {q : Rat} (h : Sz n q) (hm : n ≤ m) : Sz m q := ⟨Nat.lt_of_lt_of_le h.1 (Nat.pow_le_pow_right (by decide) hm), Nat.lt_of_lt_of_le h.2 (Nat.pow_le_pow_right (by decide) hm)⟩
theorem cdivZ_of {i j : Int} (h : j ≠ 0) (hb : j.natAbs < 2 ^ 8900) : CDivZ i j := ⟨h, Nat.lt_of_lt_of_le (PySem.Flt.log2_lt_of (by decide) hb) (by decide)⟩
end Trk

namespace Trk
open PySem L2 Evl
section
variable {X : Cx} {Γ : Gm} {d d1 d2 : D} {e a b c : Expr} {es : List Expr} {pos : Pos} {st : Stmt} {sts body rest : List Stmt} {Φ Ψ : Out → Prop}
/-- what a piece of the text does, by itself -/
def allS (X : Cx) (st : List Stmt) : TS := fun E σ H => ∀ (pins : List (Addr × Obj)) (s : Shared), Inv X pins σ H s → wpAny (model X.prog X.w) X.A (execs st X.env) (SP X pins E) X.xe s
def allT (X : Cx) (c : Expr) : TT := fun σ H Q => ∀ (pins : List (Addr × Obj)) (s : Shared), Inv X pins σ H s → wpAny (model X.prog X.w) X.A (isTrue c X.env (eval c X.env)) (TP X pins σ Q) X.xe s
theorem pss_all : PSs X st' (allS X st') := ⟨fun pins s σ H E I h => h pins s I⟩
theorem pt_all : PT X c (allT X c) := ⟨fun pins s σ H Q I h => h pins s I⟩
theorem SsD.all (h : SsD X sts Γ Φ) {σ : L2.St} {H : Hp} {E : Ends} (hl : σ.length = X.N.length) (C : Ctx X.K H Γ σ) (T : Tk X H Φ E) : allS X sts E σ H := by
  obtain ⟨t, p, q⟩ := h
  exact fun pins s I => p.run pins s σ H E I (q σ H hl C E T)
theorem TD.all {k : Bool} (h : TD X c Γ k) {σ : L2.St} {H : Hp} {Q : Bool → Hp → Prop} (C : Ctx X.K H Γ σ) (q : ∀ H', Ex H H' → Q k H') : allT X c σ H Q := by
  obtain ⟨t, p, r⟩ := h
  exact fun pins s I => p.run pins s σ H Q I (r σ H C Q q)

/-! ### lists read -/
theorem denL_at {K : PySem.W.Frag} {H : Hp} {ds : List D} {ys : List V} {i : Int} (h : DenL K H ds ys) (e : atI ds i = some d) : ∃ y, atI ys i = some y ∧ Den K H d y := by
  unfold atI at e ⊢
  rw [← h.len]
  cases hx : ixN ds.length i with
  | none =>
    rw [hx] at e
    cases e
  | some j =>
    rw [hx] at e
    exact h.get e
theorem ed_ix {ds : List D} {i : Int} (ha : ED X a Γ (.lst ds)) (hb : ED X b Γ (iD i)) (h : atI ds i = some d) (hs : PlainIx b := by exact fun _ _ => rfl) : ED X (.Subscript a b pos) Γ d := by
  obtain ⟨ta, pa, qa⟩ := ha
  obtain ⟨tb, pb, qb⟩ := hb
  refine ⟨_, pe_ix ix_list pa pb hs, fun σ H C Q q => qa σ H C _ fun x H1 e1 h1 => qb σ H1 (C.mono e1) _ fun y H2 e2 h2 => ?_⟩
  have h1' := h1.mono e2
  simp only [Den] at h1'
  obtain ⟨p, ys, rfl, hq, hL⟩ := h1'
  obtain ⟨z, hz, hd⟩ := denL_at hL h
  exact ⟨p, ys, i, z, rfl, den_v.mp h2, hq, hz, q z H2 (e1.trans e2) hd⟩
theorem ed_ixT {ds : List D} {i : Int} (ha : ED X a Γ (.tup ds)) (hb : ED X b Γ (iD i)) (h : atI ds i = some d) (hs : PlainIx b := by exact fun _ _ => rfl) : ED X (.Subscript a b pos) Γ d := by
  obtain ⟨ta, pa, qa⟩ := ha
  obtain ⟨tb, pb, qb⟩ := hb
  refine ⟨_, pe_ix ix_tup pa pb hs, fun σ H C Q q => qa σ H C _ fun x H1 e1 h1 => qb σ H1 (C.mono e1) _ fun y H2 e2 h2 => ?_⟩
  have h1' := h1.mono e2
  simp only [Den] at h1'
  obtain ⟨p, ys, rfl, hq, hL⟩ := h1'
  obtain ⟨z, hz, hd⟩ := denL_at hL h
  exact ⟨p, ys, i, z, rfl, den_v.mp h2, hq, hz, q z H2 (e1.trans e2) hd⟩
theorem ed_len {ds : List D} {p : Pos} (hm : X.mg "len" = none) (ha : ED X a Γ (.lst ds)) (hg : Gl X "len" := by rfl) (he : starEach (a :: []) X.env = (false, eval a X.env) :: starEach [] X.env := by rfl) (hpl : (backTo pos (starEach [] X.env)).any (·.1) = false := by rfl) :
    ED X (.Call (.Name "len" p) [a] [] pos) Γ (iD (ds.length : Int)) := by
  refine ed_callB (d := iD (ds.length : Int)) call_len_seq hm PySem.boot_len (ad_cons ha ad_nil he) (fun xs H h Q q => ?_) hg (by decide) (by decide) he hpl
  obtain ⟨x, rfl, h1⟩ := denL_one h
  simp only [Den] at h1
  obtain ⟨p, ys, rfl, hq, hL⟩ := h1
  refine ⟨p, ys, rfl, .inl hq, ?_⟩
  rw [← hL.len]
  exact q _ H (Ex.refl H) (den_v.mpr rfl)
/-- abs(e), int(e) of an int -/
theorem ed_abs {i : Int} {p : Pos} (hm : X.mg "abs" = none) (ha : ED X a Γ (iD i)) (hg : Gl X "abs" := by rfl) (he : starEach (a :: []) X.env = (false, eval a X.env) :: starEach [] X.env := by rfl) (hpl : (backTo pos (starEach [] X.env)).any (·.1) = false := by rfl) :
    ED X (.Call (.Name "abs" p) [a] [] pos) Γ (iD (if i < 0 then -i else i)) := by
  refine ed_callB (d := iD (if i < 0 then -i else i)) call_abs hm (by decide +kernel) (ad_cons ha ad_nil he) (fun xs H h Q q => ?_) hg (by decide) (by decide) he hpl
  obtain ⟨x, rfl, h1⟩ := denL_one h
  rw [den_v.mp h1]
  exact ⟨i, rfl, q _ H (Ex.refl H) (den_v.mpr rfl)⟩
theorem ed_toInt {i : Int} {p : Pos} (hm : X.mg "int" = none) (ha : ED X a Γ (iD i)) (hg : Gl X "int" := by rfl) (he : starEach (a :: []) X.env = (false, eval a X.env) :: starEach [] X.env := by rfl) (hpl : (backTo pos (starEach [] X.env)).any (·.1) = false := by rfl) :
    ED X (.Call (.Name "int" p) [a] [] pos) Γ (iD i) := by
  refine ed_callTy (d := iD i) call_int1 hm (by decide +kernel) (ad_cons ha ad_nil he) (fun xs H h Q q => ?_) hg (by decide) (by decide) he hpl
  obtain ⟨x, rfl, h1⟩ := denL_one h
  rw [den_v.mp h1]
  exact .inl ⟨i, rfl, q _ H (Ex.refl H) (den_v.mpr rfl)⟩

/-! ### loops -/
/-- for x in range(n) -/
theorem z_forR (i : Nat) {x : Str} {n : Nat} {p1 p2 p3 : Pos} (J : Nat → Gm → Prop) (hc : X.calm = true) (hm : X.mg "range" = none) (ha : ED X e Γ (iD (n : Int))) (hd : X.N.Nodup) (hn : (n : Int) < 2 ^ 62) (h0 : J 0 Γ)
    (hs : ∀ j Γ', j < n → J j Γ' → SsD X body (Γ'.set i (some (iD (j : Int)))) (fun o => (∃ Γ'', (o = .nx Γ'' ∨ o = .ct Γ'') ∧ J (j + 1) Γ'') ∨ (∃ d, o = .rt d ∧ Φ (.rt d)) ∨ (∃ Γ'', o = .bk Γ'' ∧ SsD X sts Γ'' Φ) ∨ ∃ c fs Γ'', o = .ex c fs Γ'' ∧ Φ (.ex c fs Γ'')))
    (k : ∀ Γ', J n Γ' → SsD X sts Γ' Φ) (hp : PassesOwn (model X.prog X.w) X.A X.env X.xe := by exact PassesOwn.never) (hN : X.N[i]? = some x := by rfl) (hx : Loc X.env.scope x := by first | exact Or.inl rfl | exact Or.inr rfl) (hg : Gl X "range" := by rfl)
    (he : starEach [e] X.env = [(false, eval e X.env)] := by rfl) (hse : starEach (e :: []) X.env = (false, eval e X.env) :: starEach [] X.env := by rfl)
    (hf : X.fn x = true ∨ X.env.scope.names.lookup x = some .local := by first | exact .inl rfl | exact .inr rfl)
    (hfs : ∀ x, foldedSetIterable (.Call (.Name "range" p1) [e] [] p2) X.env x = pure x := by intro _; rfl) : SsD X (.For (.Name x p3) (.Call (.Name "range" p1) [e] [] p2) body [] pos :: sts) Γ Φ := by
  obtain ⟨ta, pa, qa⟩ := ha
  refine ⟨_, pss_cons (ps_for hp hc (pi_range1 hg hm (pa_cons pa pa_nil hse) he) (pg_name (i := i) hd hN hx hf) (pss_all (st' := body)) hfs) (pss_all (st' := sts)), fun σ H hl C E T => ?_⟩
  refine qa σ H C _ fun v H1 e1 h1 => ?_
  refine ⟨(n : Int), by rw [den_v.mp h1], by omega, hn, ?_⟩
  rw [Int.toNat_natCast]
  have hi : i < X.N.length := (List.getElem?_eq_some_iff.mp hN).1
  refine for_range (lo := 0) (n := n) (fun j σ' H' => ∃ Γ', J j Γ' ∧ σ'.length = X.N.length ∧ Ctx X.K H' Γ' σ' ∧ Ex H1 H') ⟨Γ, h0, hl, C.mono e1, Ex.refl H1⟩ ?_ ?_
  · rintro j σ' H' hj ⟨Γ', g1, g2, g3, g4⟩
    show allS X body _ (σ'.set i (some (.int ((0 : Int) + (j : Int))))) H'
    rw [Int.zero_add]
    refine (hs j Γ' hj g1).all (by rw [List.length_set]; exact g2) (g3.set (by rw [g2]; exact hi) (den_v.mpr rfl)) ?_
    refine ⟨fun Γ'' σ2 H2 z e2 l2 c2 => ?_, fun d v H2 z e2 hv => ?_, fun Γ'' σ2 H2 z e2 l2 c2 => ?_, fun Γ'' σ2 H2 z e2 l2 c2 => ?_, fun cl fs Γ'' d σ2 H2 z e2 l2 c2 x2 => ?_⟩
    · rcases z with ⟨Γ3, z | z, w⟩ | ⟨_, z, _⟩ | ⟨_, z, _⟩ | ⟨_, _, _, z, _⟩ <;> cases z
      exact ⟨Γ'', w, l2, c2, g4.trans e2⟩
    · rcases z with ⟨Γ3, z | z, w⟩ | ⟨_, z, w⟩ | ⟨_, z, _⟩ | ⟨_, _, _, z, _⟩ <;> cases z
      exact T.rt d v H2 w ((e1.trans g4).trans e2) hv
    · rcases z with ⟨Γ3, z | z, w⟩ | ⟨_, z, w⟩ | ⟨_, z, w⟩ | ⟨_, _, _, z, _⟩ <;> cases z
      exact w.all l2 c2 (T.mono ((e1.trans g4).trans e2))
    · rcases z with ⟨Γ3, z | z, w⟩ | ⟨_, z, w⟩ | ⟨_, z, w⟩ | ⟨_, _, _, z, _⟩ <;> cases z
      exact ⟨Γ'', w, l2, c2, g4.trans e2⟩
    · rcases z with ⟨Γ3, z | z, w⟩ | ⟨_, z, w⟩ | ⟨_, z, w⟩ | ⟨_, _, _, z, w⟩ <;> cases z
      exact T.ex cl fs Γ'' d σ2 H2 w ((e1.trans g4).trans e2) l2 c2 x2
  · rintro σ' H' ⟨Γ', g1, g2, g3, g4⟩
    exact (k Γ' g1).all g2 g3 (T.mono (e1.trans g4))
/-- while -/
theorem z_while (J : Nat → Gm → Prop) (m0 : Nat) (h0 : J m0 Γ)
    (hs : ∀ m Γ', J m Γ' → ∃ k, TD X c Γ' k ∧ (k = true → SsD X body Γ' (fun o => (∃ Γ'' m', (o = .nx Γ'' ∨ o = .ct Γ'') ∧ m' < m ∧ J m' Γ'') ∨ (∃ d, o = .rt d ∧ Φ (.rt d)) ∨ (∃ Γ'', o = .bk Γ'' ∧ SsD X sts Γ'' Φ) ∨ ∃ c fs Γ'', o = .ex c fs Γ'' ∧ Φ (.ex c fs Γ''))) ∧ (k = false → SsD X sts Γ' Φ))
    (hp : PassesOwn (model X.prog X.w) X.A X.env X.xe := by exact PassesOwn.never) : SsD X (.While c body [] pos :: sts) Γ Φ := by
  refine ⟨_, pss_cons (ps_while hp (pt_all (c := c)) (pss_all (st' := body))) (pss_all (st' := sts)), fun σ H hl C E T => ?_⟩
  refine ⟨fun m σ' H' => ∃ Γ', J m Γ' ∧ σ'.length = X.N.length ∧ Ctx X.K H' Γ' σ' ∧ Ex H H', ⟨m0, Γ, h0, hl, C, Ex.refl H⟩, ?_⟩
  rintro m σ' H' ⟨Γ', g1, g2, g3, g4⟩
  obtain ⟨k, ht, hb, hn⟩ := hs m Γ' g1
  refine ht.all g3 fun H2 e2 => ?_
  cases k with
  | false =>
    show allS X sts E σ' H2
    exact (hn rfl).all g2 (g3.mono e2) (T.mono (g4.trans e2))
  | true =>
    show ∃ N : L2.St → Hp → Prop, _
    refine ⟨fun σ3 H3 => ∃ m' Γ3, m' < m ∧ J m' Γ3 ∧ σ3.length = X.N.length ∧ Ctx X.K H3 Γ3 σ3 ∧ Ex H H3, fun σ3 H3 ⟨m', Γ3, q1, q2, q3, q4, q5⟩ => ⟨m', q1, Γ3, q2, q3, q4, q5⟩, ?_⟩
    refine (hb rfl).all g2 (g3.mono e2) ?_
    refine ⟨fun Γ'' σ2 H2 z e3 l2 c2 => ?_, fun d v H2 z e3 hv => ?_, fun Γ'' σ2 H2 z e3 l2 c2 => ?_, fun Γ'' σ2 H2 z e3 l2 c2 => ?_, fun cl fs Γ'' d σ2 H2 z e3 l2 c2 x2 => ?_⟩
    · rcases z with ⟨Γ3, m', z | z, w1, w2⟩ | ⟨_, z, _⟩ | ⟨_, z, _⟩ | ⟨_, _, _, z, _⟩ <;> cases z
      exact ⟨m', Γ'', w1, w2, l2, c2, (g4.trans e2).trans e3⟩
    · rcases z with ⟨Γ3, m', z | z, w⟩ | ⟨_, z, w⟩ | ⟨_, z, _⟩ | ⟨_, _, _, z, _⟩ <;> cases z
      exact T.rt d v _ w ((g4.trans e2).trans e3) hv
    · rcases z with ⟨Γ3, m', z | z, w⟩ | ⟨_, z, w⟩ | ⟨_, z, w⟩ | ⟨_, _, _, z, _⟩ <;> cases z
      exact w.all l2 c2 (T.mono ((g4.trans e2).trans e3))
    · rcases z with ⟨Γ3, m', z | z, w1, w2⟩ | ⟨_, z, w⟩ | ⟨_, z, w⟩ | ⟨_, _, _, z, _⟩ <;> cases z
      exact ⟨m', Γ'', w1, w2, l2, c2, (g4.trans e2).trans e3⟩
    · rcases z with ⟨Γ3, m', z | z, w⟩ | ⟨_, z, w⟩ | ⟨_, z, w⟩ | ⟨_, _, _, z, w⟩ <;> cases z
      exact T.ex cl fs Γ'' d σ2 _ w ((g4.trans e2).trans e3) l2 c2 x2
/-- if c: body, joined behind: from whatever Γ' the two ways leave -/
theorem z_if {k : Bool} {sa sb : List Stmt} (J : Gm → Prop) (hc : TD X c Γ k) (ha : k = true → SsD X sa Γ (fun o => ∃ Γ', o = .nx Γ' ∧ J Γ')) (hb : k = false → SsD X sb Γ (fun o => ∃ Γ', o = .nx Γ' ∧ J Γ')) (h : ∀ Γ', J Γ' → SsD X sts Γ' Φ) : SsD X (.If c sa sb pos :: sts) Γ Φ :=
  ss_seq (Ψ := fun o => ∃ Γ', o = .nx Γ' ∧ J Γ') (sd_if hc ha hb) (fun Γ' ⟨Γ2, e, j⟩ => by
    cases e
    exact h _ j) fun o h1 ⟨Γ2, e, _⟩ => absurd e (h1 _)
end
end Trk

namespace Trk
open PySem L2 Evl
/-! ### comparisons of numbers, of which one at least is a Fraction -/
def R_cmp (C : Addr) (b : Rat → Rat → Bool) : List D → D → Prop := fun ds d => ∃ p y q, ds = [fr C p, y] ∧ NumV C y q ∧ Sz 4000 p ∧ Sz 4000 q ∧ d = bD (b p q)
def cmpB : CmpOp → Rat → Rat → Bool
  | .Eq, p, q => decide (p = q)
  | .NotEq, p, q => !decide (p = q)
  | .Lt, p, q => decide (p < q)
  | .LtE, p, q => decide (p ≤ q)
  | .Gt, p, q => decide (q < p)
  | .GtE, p, q => decide (q ≤ p)
  | _, _, _ => false
def six : CmpOp → Bool
  | .Eq | .NotEq | .Lt | .LtE | .Gt | .GtE => true
  | _ => false
def mirr : CmpOp → CmpOp
  | .Lt => .Gt
  | .LtE => .GtE
  | .Gt => .Lt
  | .GtE => .LtE
  | o => o
theorem cmpB_mirr {op : CmpOp} (p q : Rat) : cmpB (mirr op) q p = cmpB op p q := by
  cases op <;> first | rfl | (show decide (q = p) = decide (p = q); exact decide_eq_decide.mpr eq_comm) | (show (!decide (q = p)) = !decide (p = q); rw [show decide (q = p) = decide (p = q) from decide_eq_decide.mpr eq_comm])
/-- the six methods keep their promises -/
structure CmpOk (P : Program) (w : World) (K : PySem.W.Frag) (mg : Str → Option Value) (base : Heap) (C : Addr) (op : CmpOp) : Prop where
  ex : ∃ f fd ps, CmpM K C (cmpInfo op).2.1 f ∧ FnOk P w K mg base CX0 6 f fd ps (spD K 2 (R_cmp C (cmpB op))) ∧ Binds K fd ps []
def PairV (C : Addr) (x y : D) (p q : Rat) : Prop := (x = fr C p ∧ NumV C y q) ∨ (y = fr C q ∧ NumV C x p)
section
variable {X : Cx} {Γ : Gm} {d1 d2 : D} {a b : Expr} {pos : Pos} {C : Addr} {p q : Rat}
theorem ed_cmpN {op : CmpOp} (T : FrTxt X.K X.mg C) (HC : ∀ op, six op = true → CmpOk X.prog X.w X.K X.mg X.base C op) (h6 : six op = true) (hr : Room 6 X.A) (ha : ED X a Γ d1) (hb : ED X b Γ d2) (h : PairV C d1 d2 p q) (hp : Sz 4000 p) (hq : Sz 4000 q)
    (hm : behindInMarks op b = false := by exact nomark _) : ED X (.Compare a [op] [b] pos) Γ (bD (cmpB op p q)) := by
  obtain ⟨f, fd, ps, M, F, B⟩ := (HC op h6).ex
  have ro : ∀ a b, compareOp op a b = richCompare op a b := by cases op <;> first | (intro _ _; rfl) | cases h6
  rcases h with ⟨rfl, hy⟩ | ⟨rfl, hx⟩
  · rcases id hy with rfl | ⟨n, rfl, rfl⟩
    · exact ed_cmp (cmp_own ro M F hr B pass0) ha hb (rd_own ⟨p, _, q, rfl, hy, hp, hq, rfl⟩) hm
    · exact ed_cmp (cmp_ownI ro M T.sub1 F hr B pass0) ha hb (rd_ownI ⟨p, _, _, rfl, hy, hp, hq, rfl⟩) hm
  · rcases id hx with rfl | ⟨n, rfl, rfl⟩
    · exact ed_cmp (cmp_own ro M F hr B pass0) ha hb (rd_own ⟨p, _, q, rfl, .inl rfl, hp, hq, rfl⟩) hm
    · have h6' : six (mirr op) = true := by cases op <;> first | rfl | cases h6
      obtain ⟨g, gd, qs, M', F', B'⟩ := (HC (mirr op) h6').ex
      have e : (cmpInfo op).2.2 = (cmpInfo (mirr op)).2.1 := by cases op <;> first | rfl | cases h6
      have M2 : CmpM X.K C (cmpInfo op).2.2 g := by rw [e]; exact M'
      have S : ∃ id B, CmpSlot op id B := by
        cases op <;> first | exact ⟨_, _, cEq⟩ | exact ⟨_, _, cNe⟩ | exact ⟨_, _, cLt⟩ | exact ⟨_, _, cLe⟩ | exact ⟨_, _, cGt⟩ | exact ⟨_, _, cGe⟩ | cases h6
      obtain ⟨id, B0, S⟩ := S
      refine ed_is (ed_cmp (cmp_iown ro S M2 T.sub2 F' hr B' pass0) ha hb (rd_iown ⟨q, _, _, rfl, .inr ⟨n, rfl, rfl⟩, hq, hp, rfl⟩) hm) ?_
      rw [cmpB_mirr]
end
/-! ### the script -/
theorem denL_ints {K : PySem.W.Frag} {H : Hp} : ∀ ns : List Int, DenL K H (ns.map iD) (ns.map V.int)
  | [] => DenL.nil
  | n :: ns => DenL.cons (den_v.mpr rfl) (denL_ints ns)
theorem den_script {K : PySem.W.Frag} {H : Hp} {a : Addr} {ns : List Int} (h : SqL K H a (ns.map V.int)) : Den K H (.lst (ns.map iD)) (.ref a) := by
  simp only [Den]
  exact ⟨a, _, rfl, h, denL_ints ns⟩
/-- _law_cell -/
def R_cell : List D → D → Prop := fun ds d => ∃ (ns : List Int) (k : Nat), ds = [.lst (ns.map iD), iD (k : Int)] ∧ d = iD (ns.getD k 0)
theorem at_nat {α : Type} {xs : List α} {j : Nat} {v : α} (h : xs[j]? = some v) : atI xs (j : Int) = some v := atI_nat h
/-- the law itself -/
def R_law : List D → D → Prop := fun ds d => ∃ ns : List Int, ds = [.lst (ns.map iD)] ∧ ns.length ≤ 63 ∧ d = bD true
theorem sp_law {K : PySem.W.Frag} {H : Hp} {a : Addr} {ns : List Int} {Q : VK} {E : XK} (hl : ns.length ≤ 63) (hS : SqL K H a (ns.map V.int)) (h : ∀ H', Q (.bl true) H') : spD K 1 R_law [.ref a] H Q E :=
  ⟨_, _, rfl, DenL.cons (den_script hS) DenL.nil, ⟨ns, rfl, hl, rfl⟩, fun v H' _ hv => by
    rw [den_v.mp hv]
    exact h H'⟩
end Trk

namespace Trk
open PySem L2 Evl
section
variable {X : Cx} {Γ : Gm} {d d1 d2 : D} {e a b c : Expr} {es : List Expr} {pos : Pos} {st : Stmt} {sts body rest : List Stmt} {Φ Ψ : Out → Prop} {cls : Value} {fs : List (Str × D)}
/-- an expression that raises -/
def XD (X : Cx) (e : Expr) (Γ : Gm) (cls : Value) (fs : List (Str × D)) : Prop :=
  ∃ t, PE X e t ∧ ∀ σ H, Ctx X.K H Γ σ → (∀ d H', Ex H H' → DenX X.K H' d fs → W0 X cls d σ H') → ∀ Q : VK, t σ H Q
theorem sd_exprX (h : XD X e Γ cls fs) (hp : Φ (.ex cls fs Γ)) (hs : swapsWith e none pos.line X.env = pure false := by rfl) : SD X (.Expr e pos) Γ Φ := by
  obtain ⟨t, p, q⟩ := h
  exact ⟨_, ps_expr p hs, fun σ H hl C E T => q σ H C (fun d H' e1 hx => T.ex cls fs Γ d σ H' hp e1 hl (C.mono e1) hx) _⟩
theorem sd_retX (h : XD X e Γ cls fs) (hp : Φ (.ex cls fs Γ)) : SD X (.Return (some e) pos) Γ Φ := by
  obtain ⟨t, p, q⟩ := h
  exact ⟨_, ps_ret p, fun σ H hl C E T => q σ H C (fun d H' e1 hx => T.ex cls fs Γ d σ H' hp e1 hl (C.mono e1) hx) _⟩
theorem sd_asgX (i : Nat) {x : Str} {pos' : Pos} (h : XD X e Γ cls fs) (hd : X.N.Nodup) (hp : Φ (.ex cls fs Γ)) (hN : X.N[i]? = some x := by rfl) (hx : Loc X.env.scope x := by first | exact Or.inl rfl | exact Or.inr rfl)
    (hs : swapsWith e (some (.Name x pos')) pos.line X.env = pure false := by rfl) (hf : X.fn x = true ∨ X.env.scope.names.lookup x = some .local := by first | exact .inl rfl | exact .inr rfl) : SD X (.Assign [.Name x pos'] e pos) Γ Φ := by
  obtain ⟨t, p, q⟩ := h
  exact ⟨_, ps_set (i := i) hd hN hx p hs hf, fun σ H hl C E T => q σ H C (fun d H' e1 hx => T.ex cls fs Γ d σ H' hp e1 hl (C.mono e1) hx) _⟩
/-- a statement that leaves: nothing of the rest is asked -/
theorem ss_out (h : SD X st Γ Φ) (hn : ∀ Γ', ¬ Φ (.nx Γ')) : SsD X (st :: sts) Γ Φ := ss_seq h (fun Γ' z => absurd z (hn Γ')) fun o _ z => z

/-! ### raise X(), an own class without __init__ -/
structure ErT (K : PySem.W.Frag) (mg : Str → Option Value) (x : Str) (C : Addr) : Prop where
  mg : mg x = some (.ref C)
  exc : PySem.W.excIn K C [.type "ValueError", .type "Exception", .type "BaseException", .type "object"] "ValueError.__new__" = true
  kp : PySem.W.keepIn K (.ref C) = true
  be : PySem.W.subIn K (.ref C) (.type "BaseException") = some true
  ty : PySem.W.typeIn K (.ref C) = some (.type "type")
  hd : PySem.W.hasDictIn K C = true
  self : PySem.W.subIn K (.ref C) (.ref C) = some true
theorem pmk_own0 {x : Str} {C : Addr} {p : Pos} (T : ErT X.K X.mg x C) (hg : Gl X x) (hdb : (x == ("__debug__" : Str)) = false := by decide) : PMk X (.Call (.Name x p) [] [] pos) (fun _ H Q => Q (.ref C) none H) := by
  intro pins s σ H Q I h
  refine wpAny_Call_Name_kw (ld_glob I hg T.mg ?_ hdb)
  refine PySem.W.callWith_K0 (first := []) I.kIn T.kp ?_
  obtain ⟨bm, N, nm, qn, bs, hdct, sn, sub, ab, col, dd, k0, k1, k2, k3, k5, mN, hC, hN, hni, OT⟩ := exc_obj I.kIn T.exc
  obtain ⟨hp, g, dr, tk, os⟩ := s
  refine wpAny_call_exc_subT PySem.F.excBase_ValueError OT hC hN hni (fun h' e hm => ?_) (Nat.zero_le _)
  exact mk_of I hm (raises_own T.be T.ty) h (I.hok.gone hm.new)
theorem sd_raise0 {x : Str} {C : Addr} {p p2 : Pos} (hc : X.calm = true) (T : ErT X.K X.mg x C) (h : Φ (.ex (.ref C) [] Γ)) (hg : Gl X x := by rfl) (hdb : (x == ("__debug__" : Str)) = false := by decide) : SD X (.Raise (some (.Call (.Name x p) [] [] pos)) none p2) Γ Φ :=
  ⟨_, ps_raise hc tk0 (pmk_own0 T hg hdb), fun σ H hl C E T => T.ex _ _ Γ none σ H h (Ex.refl H) hl C (.inl ⟨rfl, rfl⟩)⟩

/-! ### what a def that may raise promises -/
def spX (K : PySem.W.Frag) (n : Nat) (R : List D → D → Prop) (RX : List D → Value → List (Str × D) → Prop) : Sp := fun vs H Q E => ∃ ds, ds.length = n ∧ DenL K H ds vs ∧
  ((∃ d, R ds d ∧ ∀ v H', Ex H H' → Den K H' d v → Q v H') ∨ ∃ cls fs, RX ds cls fs ∧ ∀ d H', Ex H H' → DenX K H' d fs → E cls d H')
abbrev WS (X : Cx) : L2.St → XK := fun σ cls d H => W0 X cls d σ H
theorem passW {σ : L2.St} : PassesAt (L2.CX X.prog X.w) X σ (WS X σ) := passAt tk0 σ
/-- f(e, ..) that may raise -/
theorem ed_callX {k n : Nat} {f : Addr} {fd : FuncData} {ps : List Str} {R : List D → D → Prop} {RX : List D → Value → List (Str × D) → Prop} {x : Str} {p : Pos} {ds : List D} (F : FnOk X.prog X.w X.K X.mg X.base (L2.CX X.prog X.w) k f fd ps (spX X.K n R RX)) (hr : Room k X.A) (hm : X.mg x = some (.ref f))
    (hk : PySem.W.keepIn X.K (.ref f) = true) (hb : Binds X.K fd ps []) (ha : AD X (e :: es) Γ ds) (hR : R ds d) (hn : ds.length = n := by rfl) (hg : Gl X x := by rfl) (hdb : (x == ("__debug__" : Str)) = false := by decide)
    (he : starEach (e :: es) X.env = (false, eval e X.env) :: starEach es X.env := by rfl) (hpl : (backTo pos (starEach es X.env)).any (·.1) = false := by rfl) : ED X (.Call (.Name x p) (e :: es) [] pos) Γ d := by
  obtain ⟨t, p, q⟩ := ha
  exact ⟨_, pe_callS F hr hg hm hk hb (fun σ => passW) p hdb he hpl, fun σ H C Q r => q σ H C _ fun vs H1 e1 h1 => ⟨ds, hn, h1, .inl ⟨d, hR, fun v H' e2 h2 => r v H' (e1.trans e2) h2⟩⟩⟩
theorem xd_callX {k n : Nat} {f : Addr} {fd : FuncData} {ps : List Str} {R : List D → D → Prop} {RX : List D → Value → List (Str × D) → Prop} {x : Str} {p : Pos} {ds : List D} (F : FnOk X.prog X.w X.K X.mg X.base (L2.CX X.prog X.w) k f fd ps (spX X.K n R RX)) (hr : Room k X.A) (hm : X.mg x = some (.ref f))
    (hk : PySem.W.keepIn X.K (.ref f) = true) (hb : Binds X.K fd ps []) (ha : AD X (e :: es) Γ ds) (hR : RX ds cls fs) (hn : ds.length = n := by rfl) (hg : Gl X x := by rfl) (hdb : (x == ("__debug__" : Str)) = false := by decide)
    (he : starEach (e :: es) X.env = (false, eval e X.env) :: starEach es X.env := by rfl) (hpl : (backTo pos (starEach es X.env)).any (·.1) = false := by rfl) : XD X (.Call (.Name x p) (e :: es) [] pos) Γ cls fs := by
  obtain ⟨t, p, q⟩ := ha
  exact ⟨_, pe_callS F hr hg hm hk hb (fun σ => passW) p hdb he hpl, fun σ H C r Q => q σ H C _ fun vs H1 e1 h1 => ⟨ds, hn, h1, .inr ⟨cls, fs, hR, fun d H' e2 h2 => r d H' (e1.trans e2) h2⟩⟩⟩

/-- a new instance whose __init__ may raise, at the slots σ -/
theorem new_at {CX : CXT} {k : Nat} {f C : Addr} {fd : FuncData} {ps : List Str} {sp : Sp} {dvs : List V} {ds : List Value} {E : XK} {pins : List (Addr × Obj)} {σ : L2.St} {H : Hp} {s : Shared} {Q : VK} {us : List Value} {vs : List V} (M : Mk X.K C f) (F : FnOk X.prog X.w X.K X.mg X.base CX k f fd ps sp)
    (hr : Room (k + 1) X.A) (hb : Binds X.K fd ps ds) (hd : Vals dvs ds) (pa : PassesAt CX X σ E) (I : Inv X pins σ H s) (r : Vals vs us)
    (go : ∀ x dx, H x = none → H dx = none → dx ≠ x → sp (.ref x :: (vs ++ dvs)) (upd (upd H dx (.own x)) x (.ins C dx [])) (fun v H2 => v = .non ∧ Q (.ref x) H2) E) : wpAny (model X.prog X.w) X.A (call (.ref C) us) (EP X pins σ Q) X.xe s := by
  let n := s.heap.objs.size
  have J : Inv X pins σ _ _ := Inv.made (C := C) I
  have told := go (n + 1) n (I.hok.fresh (Nat.le_succ _)) (I.hok.fresh (Nat.le_refl _)) (Nat.ne_of_lt (Nat.lt_succ_self _))
  have rel : Vals (V.ref (n + 1) :: (vs ++ dvs)) (Value.ref (n + 1) :: (us ++ ds)) := .cons (show RelV (V.ref (n + 1)) (Value.ref (n + 1)) from rfl) (r.append hd)
  have len : (Value.ref (n + 1) :: us ++ ds).length = ps.length := (rel.length.symm.trans (F.len _ _ _ _ told))
  have bound := hb _ (Value.ref (n + 1) :: us) J.kIn len
  have ran := F.run _ X.stack _ _ ⟨Value.ref (n + 1) :: us, []⟩ (Value.ref (n + 1) :: (us ++ ds)) _ _ E (hr.make C us []) (J.env0.make C us []) bound rel told
  refine wpAny_call (make_map (f := f) I.kIn M.makes M.init (beq_iff_eq.mp M.fn) (codeAny_mono ran fun res s' out => ?_))
  rcases res with err | fl
  · exact pa pins _ _ err s' J out
  · cases fl with
    | ret u =>
      obtain ⟨y, H', I3, ry, ey, q3⟩ := J.after out
      subst ey
      exact ⟨ry, ⟨V.ref (n + 1), H', I3, rfl, q3⟩⟩
    | next => exact out.elim
    | brk => exact out.elim
    | cont => exact out.elim
def tMakeS (C : Addr) (sp : Sp) (dvs : List V) (E : L2.St → XK) (t : TA) : TE := fun σ H Q => t σ H fun vs H1 => ∀ x dx, H1 x = none → H1 dx = none → dx ≠ x → sp (.ref x :: (vs ++ dvs)) (upd (upd H1 dx (.own x)) x (.ins C dx [])) (fun v H2 => v = .non ∧ Q (.ref x) H2) (E σ)
theorem pe_makeS {CX : CXT} {k : Nat} {f C : Addr} {fd : FuncData} {ps : List Str} {sp : Sp} {dvs : List V} {ds : List Value} {E : L2.St → XK} {x : Str} {p : Pos} {t : TA} (M : Mk X.K C f) (F : FnOk X.prog X.w X.K X.mg X.base CX k f fd ps sp) (hr : Room (k + 1) X.A) (hg : Gl X x) (hm : X.mg x = some (.ref C))
    (hb : Binds X.K fd ps ds) (hd : Vals dvs ds) (pa : ∀ σ, PassesAt CX X σ (E σ)) (ha : PA X (e :: es) t) (hdb : (x == ("__debug__" : Str)) = false := by decide) (he : starEach (e :: es) X.env = (false, eval e X.env) :: starEach es X.env := by rfl)
    (hpl : (backTo pos (starEach es X.env)).any (·.1) = false := by rfl) : PE X (.Call (.Name x p) (e :: es) [] pos) (tMakeS C sp dvs E t) := by
  refine ⟨fun pins s σ H Q I h => wpAny_Call_Name_kw (ld_glob I hg hm ?_ hdb)⟩
  exact PySem.W.callWith_K (h₀ := X.base) I.ok.mod.kin M.kp (thn (ha.run pos pins s σ H _ I h) fun us s1 ⟨vs, H1, I1, r, q⟩ => ⟨I1.kIn, new_at M F hr hb hd (pa σ) I1 r q⟩) he hpl

/-! ### try: .. except X: .. -/
theorem names_own {x : Str} {C : Addr} (hm : X.mg x = some (.ref C)) (hg : Gl X x := by rfl) (hdb : (x == ("__debug__" : Str)) = false := by decide) : Names X x (.ref C) := ⟨hg, hdb, .inl hm⟩
/-- what the body does, whatever is around it -/
def bodyT (X : Cx) (body : List Stmt) : WX → TS := fun W E σ H => ∀ (pn : List (Addr × Obj)) (xe : Value → Shared → Prop), L2.Takes (X.tr pn xe) W → PassesOwn (model X.prog X.w) X.A X.env xe → allS (X.tr pn xe) body E σ H
def suiteT (X : Cx) (suite : List Stmt) : Addr → Value → Option Addr → TS := fun a cls d E σ H => ∀ (oe : Obj) (pn : List (Addr × Obj)), Zc cls d oe → (∃ vs, oe.data = .fields vs) → allS (X.suite a ((a, oe) :: pn)) suite E σ H
theorem sd_try {x : Str} {C : Addr} {b₀ : Stmt} {suite : List Stmt} {np pos' : Pos} (hs : X.stack = X.env :: X.outer) (hf : X.env.frame = some X.env.locals) (hc : Names X x (.ref C))
    (hb : ∀ pn xe, PassesOwn (model X.prog X.w) X.A X.env xe → SsD (X.tr pn xe) body Γ Ψ)
    (ho : ∀ o, (∀ c fs Γ', o ≠ .ex c fs Γ') → Ψ o → Φ o)
    (hx : ∀ c fs Γ', Ψ (.ex c fs Γ') → ∃ k, PySem.W.exmOne X.K c (.ref C) = some k ∧ (k = true → ∀ a oe d pn, Zc c d oe → (∃ vs, oe.data = .fields vs) → SsD (X.suite a ((a, oe) :: pn)) (b₀ :: suite) Γ' (fun o => (∀ c fs Γ2, o ≠ .ex c fs Γ2) ∧ Φ o)) ∧ (k = false → Φ (.ex c fs Γ'))) :
    SD X (.Try body [.ExceptHandler (some (.Name x np)) none (b₀ :: suite) pos'] [] [] pos) Γ Φ := by
  refine ⟨_, ps_try_only hs hf hc (tk0 (X := X)) (tb := bodyT X body) (ts := suiteT X (b₀ :: suite)) (fun W pn xe tk hp => ⟨fun pins s σ H E I h => h pn xe tk hp pins s I⟩)
    (fun a oe cls d pn hz hfl => ⟨fun pins s σ H E I h => h oe pn hz hfl pins s I⟩), fun σ H hl C0 E T => ?_⟩
  intro pn xe tk hp
  refine (hb pn xe hp).all hl C0 ?_
  refine ⟨fun Γ' σ' H' z e1 l1 c1 => T.nx Γ' σ' H' (ho _ (fun _ _ _ w => by cases w) z) e1 l1 c1, fun d v H' z e1 hv => T.rt d v H' (ho _ (fun _ _ _ w => by cases w) z) e1 hv,
    fun Γ' σ' H' z e1 l1 c1 => T.bk Γ' σ' H' (ho _ (fun _ _ _ w => by cases w) z) e1 l1 c1, fun Γ' σ' H' z e1 l1 c1 => T.ct Γ' σ' H' (ho _ (fun _ _ _ w => by cases w) z) e1 l1 c1, fun c fs Γ' d σ' H' z e1 l1 c1 x1 => ?_⟩
  refine w0_of tk ?_
  obtain ⟨k, h1, h2, h3⟩ := hx c fs Γ' z
  refine ⟨k, h1, fun hk a na => ?_, fun hk => T.ex c fs Γ' d σ' H' (h3 hk) e1 l1 c1 x1⟩
  intro oe pn2 hz hfl
  refine (h2 hk a oe d pn2 hz hfl).all l1 c1 ?_
  have T' := T.mono e1
  exact ⟨fun Γ2 σ2 H2 z2 => T'.nx Γ2 σ2 H2 z2.2, fun d2 v H2 z2 => T'.rt d2 v H2 z2.2, fun Γ2 σ2 H2 z2 => T'.bk Γ2 σ2 H2 z2.2, fun Γ2 σ2 H2 z2 => T'.ct Γ2 σ2 H2 z2.2, fun c2 fs2 Γ2 d2 σ2 H2 z2 => absurd rfl (z2.1 c2 fs2 Γ2)⟩
theorem Ctx.unset {K : PySem.W.Frag} {H : Hp} {Γ : Gm} {σ : L2.St} {i : Nat} (c : Ctx K H Γ σ) : Ctx K H (Γ.set i none) (σ.set i none) := fun j d' e => by
  by_cases hj : i = j
  · subst hj
    rw [List.getElem?_set] at e
    simp only [if_true] at e
    split at e <;> cases e
  · rw [List.getElem?_set_ne hj] at e
    obtain ⟨w, h1, h2⟩ := c j d' e
    exact ⟨w, by rw [List.getElem?_set_ne hj]; exact h1, h2⟩
/-- what is behind the suite: the name is gone -/
def gone (i : Nat) (Φ : Out → Prop) : Out → Prop
  | .nx Γ => Φ (.nx (Γ.set i none))
  | .bk Γ => Φ (.bk (Γ.set i none))
  | .ct Γ => Φ (.ct (Γ.set i none))
  | .rt d => Φ (.rt d)
  | .ex _ _ _ => False
theorem sd_tryAs (i : Nat) {x n : Str} {C : Addr} {b₀ : Stmt} {suite : List Stmt} {np pos' : Pos} (hs : X.stack = X.env :: X.outer) (hf : X.env.frame = some X.env.locals) (hd : X.N.Nodup) (hc : Names X x (.ref C))
    (hb : ∀ pn xe, PassesOwn (model X.prog X.w) X.A X.env xe → SsD (X.tr pn xe) body Γ Ψ)
    (ho : ∀ o, (∀ c fs Γ', o ≠ .ex c fs Γ') → Ψ o → Φ o)
    (hx : ∀ c fs Γ', Ψ (.ex c fs Γ') → ∃ k, PySem.W.exmOne X.K c (.ref C) = some k ∧ (k = true → ∀ a oe d pn, Zc c d oe → (fs = [] → d = none) → (∃ vs, oe.data = .fields vs) → SsD (X.suite a ((a, oe) :: pn)) (b₀ :: suite) (Γ'.set i (some (.v (.ref a)))) (gone i Φ)) ∧ (k = false → Φ (.ex c fs Γ')))
    (hN : X.N[i]? = some n := by rfl) (hln : X.env.kindOf n = some .local := by rfl) :
    SD X (.Try body [.ExceptHandler (some (.Name x np)) (some n) (b₀ :: suite) pos'] [] [] pos) Γ Φ := by
  refine ⟨_, ps_try_as (i := i) hs hf hd hN hln hc (tk0 (X := X)) (tb := bodyT X body) (ts := suiteT X (b₀ :: suite)) (fun W pn xe tk hp => ⟨fun pins s σ H E I h => h pn xe tk hp pins s I⟩)
    (fun a oe cls d pn hz hfl => ⟨fun pins s σ H E I h => h oe pn hz hfl pins s I⟩), fun σ H hl C0 E T => ?_⟩
  intro pn xe tk hp
  refine (hb pn xe hp).all hl C0 ?_
  refine ⟨fun Γ' σ' H' z e1 l1 c1 => T.nx Γ' σ' H' (ho _ (fun _ _ _ w => by cases w) z) e1 l1 c1, fun d v H' z e1 hv => T.rt d v H' (ho _ (fun _ _ _ w => by cases w) z) e1 hv,
    fun Γ' σ' H' z e1 l1 c1 => T.bk Γ' σ' H' (ho _ (fun _ _ _ w => by cases w) z) e1 l1 c1, fun Γ' σ' H' z e1 l1 c1 => T.ct Γ' σ' H' (ho _ (fun _ _ _ w => by cases w) z) e1 l1 c1, fun c fs Γ' d σ' H' z e1 l1 c1 x1 => ?_⟩
  refine w0_of tk ?_
  obtain ⟨k, h1, h2, h3⟩ := hx c fs Γ' z
  refine ⟨k, h1, fun hk a na => ?_, fun hk => T.ex c fs Γ' d σ' H' (h3 hk) e1 l1 c1 x1⟩
  intro oe pn2 hz hfl
  have hi : i < σ'.length := by
    rw [l1]
    exact (List.getElem?_eq_some_iff.mp hN).1
  have hd0 : fs = [] → d = none := fun e0 => by
    rcases x1 with ⟨_, q⟩ | ⟨dd, gs, q, _⟩
    · exact q
    · exact absurd e0 q
  refine (h2 hk a oe d pn2 hz hd0 hfl).all (by rw [List.length_set]; exact l1) (c1.set hi (den_v.mpr rfl)) ?_
  have T' := T.mono e1
  exact ⟨fun Γ2 σ2 H2 z2 e2 l2 c2 => T'.nx _ _ H2 z2 e2 (by rw [List.length_set]; exact l2) c2.unset, fun d2 v H2 z2 => T'.rt d2 v H2 z2, fun Γ2 σ2 H2 z2 e2 l2 c2 => T'.bk _ _ H2 z2 e2 (by rw [List.length_set]; exact l2) c2.unset,
    fun Γ2 σ2 H2 z2 e2 l2 c2 => T'.ct _ _ H2 z2 e2 (by rw [List.length_set]; exact l2) c2.unset, fun c2 fs2 Γ2 d2 σ2 H2 z2 => z2.elim⟩
end

/-! ### lists of ints compared -/
theorem py_ints {K : PySem.W.Frag} {H : Hp} : ∀ {ns : List Int} {ys : List V}, DenL K H (ns.map iD) ys → DpAll K H ys (ns.map PyData.int)
  | [], ys, h => by
    simp only [List.map_nil, DenL] at h
    subst h
    exact .nil
  | n :: ns, ys, h => by
    simp only [List.map_cons, DenL] at h
    obtain ⟨z, zs, rfl, h1, h2⟩ := h
    rw [den_v.mp h1]
    exact .cons (.int n) (py_ints h2)
theorem py_lay : ∀ ns : List Int, PyData.canLayAll0 (ns.map PyData.int) = true
  | [] => by simp [PyData.canLayAll0]
  | n :: ns => by
    rw [List.map_cons]
    simp only [PyData.canLayAll0, PyData.canLay0, py_lay ns, Bool.and_self]
theorem py_dep : ∀ ns : List Int, PyData.depthAll (ns.map PyData.int) = 0
  | [] => by simp [PyData.depthAll]
  | n :: ns => by
    rw [List.map_cons]
    simp [PyData.depthAll, PyData.depth, py_dep ns]
theorem py_shaped (ns : List Int) : SeqAt.shaped (.list (ns.map PyData.int)) = true := by
  unfold SeqAt.shaped
  simp [PyData.canLay0, PyData.depth, py_lay, py_dep]
theorem py_eqv : ∀ ns ms : List Int, PyData.eqvAll (ns.map PyData.int) (ms.map PyData.int) = decide (ns = ms)
  | [], [] => by simp [PyData.eqvAll]
  | [], m :: ms => by simp [PyData.eqvAll]
  | n :: ns, [] => by simp [PyData.eqvAll]
  | n :: ns, m :: ms => by
    simp only [List.map_cons, PyData.eqvAll, PyData.eqv, py_eqv ns ms]
    by_cases h : n = m
    · subst h
      simp
    · simp [h]
theorem dp_ints {K : PySem.W.Frag} {H : Hp} {ns : List Int} {y : V} (h : Den K H (.lst (ns.map iD)) y) : Dp K H y (.list (ns.map PyData.int)) := by
  simp only [Den] at h
  obtain ⟨a, ys, rfl, h1, h2⟩ := h
  exact .lst h1 (py_ints h2)
theorem rd_eqL {K : PySem.W.Frag} {ns ms : List Int} : RD K (rEqD K) (.lst (ns.map iD)) (.lst (ms.map iD)) (bD (decide (ns = ms))) := fun x y H h1 h2 Q q =>
  ⟨_, _, dp_ints h1, dp_ints h2, py_shaped ns, py_shaped ms, by
    have e : PyData.eqv (.list (ns.map PyData.int)) (.list (ms.map PyData.int)) = decide (ns = ms) := by
      simp only [PyData.eqv]
      exact py_eqv ns ms
    rw [e]
    exact q _ H (Ex.refl H) (den_v.mpr rfl)⟩
theorem rd_neL {K : PySem.W.Frag} {ns ms : List Int} : RD K (rNeD K) (.lst (ns.map iD)) (.lst (ms.map iD)) (bD (!decide (ns = ms))) := fun x y H h1 h2 Q q =>
  ⟨_, _, dp_ints h1, dp_ints h2, py_shaped ns, py_shaped ms, by
    have e : PyData.eqv (.list (ns.map PyData.int)) (.list (ms.map PyData.int)) = decide (ns = ms) := by
      simp only [PyData.eqv]
      exact py_eqv ns ms
    rw [e]
    exact q _ H (Ex.refl H) (den_v.mpr rfl)⟩

/-! ### Fraction(a, 0) -/
def spInitX (C CB : Addr) : Sp := fun vs H Q E => ∃ (p dx : Addr) (a b : Int), vs = [.ref p, .int a, .int b] ∧ H p = some (.ins C dx []) ∧
  ((b ≠ 0 ∧ b.natAbs < 2 ^ 8900 ∧ Q .non (upd H p (.ins C dx [("top", .int (Rat.divInt a b).num), ("bottom", .int ((Rat.divInt a b).den : Int))]))) ∨ (b = 0 ∧ E (.ref CB) none H))
section
variable {X : Cx} {Γ : Gm} {d : D} {e a c : Expr} {es : List Expr} {pos : Pos} {C CB : Addr}
theorem ex_new2 {H H1 : Hp} {x dx : Addr} {o u : HO} (e1 : Ex H H1) (nx : H1 x = none) (ndx : H1 dx = none) : Ex H (upd (upd H1 dx o) x u) := fun b w hw => by
  have h1 := e1 b w hw
  rw [upd_ne (ne_of_none h1 nx), upd_ne (ne_of_none h1 ndx)]
  exact h1
theorem xd_mk {k : Nat} {f : Addr} {fd : FuncData} {ps : List Str} {p : Pos} {i : Int} (M : Mk X.K C f) (F : FnOk X.prog X.w X.K X.mg X.base (L2.CX X.prog X.w) k f fd ps (spInitX C CB)) (hr : Room (k + 1) X.A) (hm : X.mg "Fraction" = some (.ref C))
    (hb : Binds X.K fd ps []) (ha : AD X (e :: es) Γ [iD i, iD 0]) (hg : Gl X "Fraction" := by rfl) (he : starEach (e :: es) X.env = (false, eval e X.env) :: starEach es X.env := by rfl)
    (hpl : (backTo pos (starEach es X.env)).any (·.1) = false := by rfl) : XD X (.Call (.Name "Fraction" p) (e :: es) [] pos) Γ (.ref CB) [] := by
  obtain ⟨t, pp, q⟩ := ha
  refine ⟨_, pe_makeS M F hr hg hm hb .nil (fun σ => passW) pp (by decide) he hpl, fun σ H Cc w Q => q σ H Cc _ fun vs H1 e1 h1 x dx nx ndx ne => ?_⟩
  obtain ⟨x1, x2, rfl, h2, h3⟩ := denL_two h1
  rw [den_v.mp h2, den_v.mp h3]
  exact ⟨x, dx, i, 0, rfl, upd_same, .inr ⟨rfl, w none _ (ex_new2 e1 nx ndx) (.inl ⟨rfl, rfl⟩)⟩⟩
theorem ed_mkX {k : Nat} {f : Addr} {fd : FuncData} {ps : List Str} {p : Pos} {i j : Int} (M : Mk X.K C f) (F : FnOk X.prog X.w X.K X.mg X.base (L2.CX X.prog X.w) k f fd ps (spInitX C CB)) (hr : Room (k + 1) X.A) (hm : X.mg "Fraction" = some (.ref C))
    (hb : Binds X.K fd ps []) (ha : AD X (e :: es) Γ [iD i, iD j]) (h0 : j ≠ 0) (hz : j.natAbs < 2 ^ 8900) (hg : Gl X "Fraction" := by rfl) (he : starEach (e :: es) X.env = (false, eval e X.env) :: starEach es X.env := by rfl)
    (hpl : (backTo pos (starEach es X.env)).any (·.1) = false := by rfl) : ED X (.Call (.Name "Fraction" p) (e :: es) [] pos) Γ (fr C (Rat.divInt i j)) := by
  obtain ⟨t, pp, q⟩ := ha
  refine ⟨_, pe_makeS M F hr hg hm hb .nil (fun σ => passW) pp (by decide) he hpl, fun σ H Cc r => fun w => q σ H Cc _ fun vs H1 e1 h1 x dx nx ndx ne => ?_⟩
  obtain ⟨x1, x2, rfl, h2, h3⟩ := denL_two h1
  rw [den_v.mp h2, den_v.mp h3]
  refine ⟨x, dx, i, j, rfl, upd_same, .inl ⟨h0, hz, rfl, w _ _ (fun b o ho => ?_) (den_fr.mpr ⟨x, dx, rfl, upd_same⟩)⟩⟩
  have h1 : H1 b = some o := e1 b o ho
  rw [upd_ne (ne_of_none h1 nx), upd_ne (ne_of_none h1 nx), upd_ne (ne_of_none h1 ndx)]
  exact h1
/-- Fraction(bottom=b, top=a) -/
theorem ed_mkK {CX : CXT} {k : Nat} {f : Addr} {fd : FuncData} {ps : List Str} {E : XK} {p q1 q2 : Pos} {i j : Int} {eb ea : Expr} (M : Mk X.K C f) (F : FnOk X.prog X.w X.K X.mg X.base CX k f fd ps (spInit C)) (hr : Room (k + 1) X.A) (hm : X.mg "Fraction" = some (.ref C))
    {g : List Value → List Value → List Value} {gV : List V → List V → List V} (hb : KBn X.K fd ps 1 ["bottom", "top"] g gV) (hgV : ∀ x y z, gV [x] [y, z] = [x, z, y]) (hx : Passes CX X E) (hB : ED X eb Γ (iD j)) (hA : ED X ea Γ (iD i)) (h0 : j ≠ 0) (hz : j.natAbs < 2 ^ 8900)
    (hg : Gl X "Fraction" := by rfl) (hall : (backToKw pos (keywordEach [⟨some "bottom", eb, q1⟩, ⟨some "top", ea, q2⟩] X.env)).all (·.1.isSome) = true := by rfl) (hks : (backToKw pos (keywordEach [⟨some "bottom", eb, q1⟩, ⟨some "top", ea, q2⟩] X.env)).filterMap (·.1) = (["bottom", "top"] : List Str) := by rfl)
    (hpl : ((backTo pos (starEach [] X.env)).any (·.1) || (backToKw pos (keywordEach [⟨some "bottom", eb, q1⟩, ⟨some "top", ea, q2⟩] X.env)).any (·.1.isNone)) = false := by rfl) :
    ED X (.Call (.Name "Fraction" p) [] [⟨some "bottom", eb, q1⟩, ⟨some "top", ea, q2⟩] pos) Γ (fr C (Rat.divInt i j)) := by
  obtain ⟨tb, pb, qb⟩ := hB
  obtain ⟨ta, pa, qa⟩ := hA
  refine ⟨_, pe_makeK0 M F hr hg hm hb hx (pk_cons pb (pk_cons pa pk_nil)) hall hks (by decide) hpl, fun σ H Cc Q r => ?_⟩
  refine qb σ H Cc _ fun v1 H1 e1 h1 => qa σ H1 (Cc.mono e1) _ fun v2 H2 e2 h2 => ⟨rfl, rfl, fun x dx nx ndx ne => ?_⟩
  rw [hgV, den_v.mp h1, den_v.mp h2]
  exact init_new h0 hz nx ndx ne (e1.trans e2) r

/-! ### isinstance of the error that a suite holds -/
theorem ed_isE {A0 DA : Addr} {oe : Obj} {pn : List (Addr × Obj)} {k : Bool} {u : Value} {cv : V} {p : Pos} (EC : ExcC X.K DA) (hz : Zc (.ref DA) none oe) (hf : ∃ vs, oe.data = .fields vs) (hm : X.mg "isinstance" = none)
    (ha : ED (X.suite A0 ((A0, oe) :: pn)) a Γ (.v (.ref A0))) (hc : ED (X.suite A0 ((A0, oe) :: pn)) c Γ (.v cv)) (hcv : ClsV cv u) (hk : PySem.W.kitOne X.K (.ref DA) u = some k) (hg : Gl X "isinstance" := by rfl)
    (he : starEach (a :: [c]) X.env = (false, eval a X.env) :: starEach [c] X.env := by rfl) (hs1 : starEach (c :: []) X.env = (false, eval c X.env) :: starEach [] X.env := by rfl) (hpl : (backTo pos (starEach [c] X.env)).any (·.1) = false := by rfl) :
    ED (X.suite A0 ((A0, oe) :: pn)) (.Call (.Name "isinstance" p) [a, c] [] pos) Γ (bD k) := by
  refine ed_callB (X := X.suite A0 ((A0, oe) :: pn)) (d := bD k) (r := rIsE X.K DA A0) (call_isE EC hz hf) hm (by decide +kernel) (ad_cons ha (ad_cons hc ad_nil hs1) he) (fun xs H h Q q => ?_) hg (by decide) (by decide) he hpl
  obtain ⟨x, y, rfl, h1, h2⟩ := denL_two h
  rw [den_v.mp h2, den_v.mp h1]
  exact ⟨cv, u, k, rfl, fun w hw => hcv.eq hw, hk, q _ H (Ex.refl H) (den_v.mpr rfl)⟩
end
end Trk

set_option exponentiation.threshold 10000
namespace Law
open PySem L2 Evl Trk
def top (i : Nat) : Stmt := PySem.Challenge.pw_tracerline_k01_lowest_terms.main.body.getD i (.Pass ⟨0, 0, 0, 0⟩)
abbrev s_init : Stmt := inClass (top 6) 0
abbrev s_eq : Stmt := inClass (top 6) 11
abbrev s_ne : Stmt := inClass (top 6) 12
abbrev s_asf : Stmt := top 7
abbrev s_isn : Stmt := top 8
abbrev s_ord : Stmt := top 9
abbrev s_cell : Stmt := top 11
abbrev s_size : Stmt := top 12
abbrev s_dv : Stmt := top 13
abbrev s_intg : Stmt := top 14
abbrev s_ref : Stmt := top 15
abbrev s_law : Stmt := top 16
section
variable {P : Program} {w : World} {K : PySem.W.Frag} {mg : Str → Option Value} {base : Heap} {C : Addr}
theorem sc_init : FnScope ["self", "top", "bottom", "common"] ["self", "top", "bottom"] (defScope s_init) := ⟨rfl, rfl, rfl, by decide +kernel, rfl, by decide +kernel, by decide +kernel⟩
theorem ok_init {f : Addr} {fd : FuncData} {dvs : List V} (F : FunD K "__init__" "Fraction.__init__" (defArgs s_init) (defBody s_init) (defScope s_init) dvs [] f fd) (T : FrTxt K mg C) : FnOk P w K mg base CX0 1 f fd ["self", "top", "bottom"] (spInit C) := by
  refine F.ok sc_init (fun vs H Q E h => ?_) (fun cdv A outer s H vs Q E hr h => ?_)
  · obtain ⟨p, dx, a, b, rfl, _⟩ := h
    rfl
  · obtain ⟨p, dx, a, b, rfl, h0, hz, hp, k⟩ := h
    have hcz : CDivZ a (cmn a b) := cdivZ_of (cmn_ne h0) (Nat.lt_of_le_of_lt (cmn_le h0) hz)
    have hcz2 : CDivZ b (cmn a b) := hcz
    refine ⟨_, PSs.nox (pss_cons (ps_if (pt_cmpR op_eq (pv 2) pe_int (nomark _)) pss_nv pss_nil)
      (pss_cons (ps_set (i := 3) sc_init.nd rfl (Or.inl rfl) (pe_callBfun cr_gcd (by rfl) T.gcd (pa_cons (pv 1) (pa_cons (pv 2) pa_nil))))
      (pss_cons (ps_if (pt_cmpR op_lt (pv 2) pe_int (nomark _)) (pss_one (ps_set (i := 3) sc_init.nd rfl (Or.inl rfl) (pe_un un_neg (pv 3)))) pss_nil)
      (pss_cons (ps_fld (pv 0) (pe_op op_fdivZ (pv 1) (pv 3)) rfl)
      (pss_one (ps_fld (pv 0) (pe_op op_fdivZ (pv 2) (pv 3)) rfl)))))), ?_⟩
    refine ⟨_, rfl, rfl, _, rfl, ?_⟩
    refine ite2 (fun z => absurd (of_decide_eq_true z) (fun q => h0 (V.int.inj q))) (fun _ => ?_)
    refine ⟨_, rfl, _, rfl, a, b, rfl, ?_⟩
    have fin : ∀ c : Int, c = cmn a b → ∀ σ' : L2.St, σ' = [some (.ref p), some (.int a), some (.int b), some (.int c)] → tSeq (sFld K (tVar 0) (tOp (rI CDivZ fun i j => .int (i.fdiv j)) (tVar 1) (tVar 3)) "top") (sFld K (tVar 0) (tOp (rI CDivZ fun i j => .int (i.fdiv j)) (tVar 2) (tVar 3)) "bottom") { nx := fun _ H' => Q .non H', rt := Q } σ' H := by
      rintro c rfl σ' rfl
      refine ⟨_, rfl, _, rfl, a, _, rfl, rfl, hcz, _, rfl, p, C, dx, [], rfl, hp, T.cl, T.nT, (by show 0 < 1000; decide), ?_⟩
      refine ⟨_, rfl, _, rfl, b, _, rfl, rfl, hcz2, _, rfl, p, C, dx, _, rfl, upd_same, T.cl, T.nB, (by show 1 < 1000; decide), ?_⟩
      rw [upd_upd]
      show Q .non (upd H p (.ins C dx (putF "bottom" (.int (b.fdiv (cmn a b))) (putF "top" (.int (a.fdiv (cmn a b))) []))))
      rw [top_eq h0, bottom_eq h0]
      exact k
    refine ⟨_, rfl, b, 0, rfl, rfl, _, rfl, ?_⟩
    refine ite2 (fun z => ?_) (fun z => ?_)
    · refine ⟨_, rfl, _, rfl, ?_⟩
      refine fin _ ?_ _ rfl
      unfold cmn
      rw [if_pos (of_decide_eq_true z)]
    · refine fin _ ?_ _ rfl
      unfold cmn
      rw [if_neg (of_decide_eq_false (by simpa using z))]

theorem ok_initX {f CB : Addr} {fd : FuncData} {dvs : List V} (F : FunD K "__init__" "Fraction.__init__" (defArgs s_init) (defBody s_init) (defScope s_init) dvs [] f fd) (T : FrTxt K mg C) (EB : ErT K mg "BadFraction" CB) : FnOk P w K mg base (L2.CX P w) 1 f fd ["self", "top", "bottom"] (spInitX C CB) := by
  refine F.ok sc_init (fun vs H Q E h => ?_) (fun cdv A outer s H vs Q E hr h => ?_)
  · obtain ⟨p, dx, a, b, rfl, _⟩ := h
    rfl
  · obtain ⟨p, dx, a, b, rfl, hp, k⟩ := h
    refine ⟨_, pss_cons (ps_if (pt_cmpR op_eq (pv 2) pe_int (nomark _)) (pss_one (ps_raise rfl (takes_of rfl rfl rfl rfl) (pmk_own0 EB rfl))) pss_nil)
      (pss_cons (ps_set (i := 3) sc_init.nd rfl (Or.inl rfl) (pe_callBfun cr_gcd (by rfl) T.gcd (pa_cons (pv 1) (pa_cons (pv 2) pa_nil))))
      (pss_cons (ps_if (pt_cmpR op_lt (pv 2) pe_int (nomark _)) (pss_one (ps_set (i := 3) sc_init.nd rfl (Or.inl rfl) (pe_un un_neg (pv 3)))) pss_nil)
      (pss_cons (ps_fld (pv 0) (pe_op op_fdivZ (pv 1) (pv 3)) rfl)
      (pss_one (ps_fld (pv 0) (pe_op op_fdivZ (pv 2) (pv 3)) rfl))))), ?_⟩
    refine ⟨_, rfl, rfl, _, rfl, ?_⟩
    rcases k with ⟨h0, hz, k⟩ | ⟨h0, k⟩
    case inr =>
      subst h0
      exact iteT k
    have hcz : CDivZ a (cmn a b) := cdivZ_of (cmn_ne h0) (Nat.lt_of_le_of_lt (cmn_le h0) hz)
    have hcz2 : CDivZ b (cmn a b) := hcz
    refine ite2 (fun z => absurd (of_decide_eq_true z) (fun q => h0 (V.int.inj q))) (fun _ => ?_)
    refine ⟨_, rfl, _, rfl, a, b, rfl, ?_⟩
    have fin : ∀ c : Int, c = cmn a b → ∀ σ' : L2.St, σ' = [some (.ref p), some (.int a), some (.int b), some (.int c)] → tSeq (sFld K (tVar 0) (tOp (rI CDivZ fun i j => .int (i.fdiv j)) (tVar 1) (tVar 3)) "top") (sFld K (tVar 0) (tOp (rI CDivZ fun i j => .int (i.fdiv j)) (tVar 2) (tVar 3)) "bottom") { nx := fun _ H' => Q .non H', rt := Q } σ' H := by
      rintro c rfl σ' rfl
      refine ⟨_, rfl, _, rfl, a, _, rfl, rfl, hcz, _, rfl, p, C, dx, [], rfl, hp, T.cl, T.nT, (by show 0 < 1000; decide), ?_⟩
      refine ⟨_, rfl, _, rfl, b, _, rfl, rfl, hcz2, _, rfl, p, C, dx, _, rfl, upd_same, T.cl, T.nB, (by show 1 < 1000; decide), ?_⟩
      rw [upd_upd]
      show Q .non (upd H p (.ins C dx (putF "bottom" (.int (b.fdiv (cmn a b))) (putF "top" (.int (a.fdiv (cmn a b))) []))))
      rw [top_eq h0, bottom_eq h0]
      exact k
    refine ⟨_, rfl, b, 0, rfl, rfl, _, rfl, ?_⟩
    refine ite2 (fun z => ?_) (fun z => ?_)
    · refine ⟨_, rfl, _, rfl, ?_⟩
      refine fin _ ?_ _ rfl
      unfold cmn
      rw [if_pos (of_decide_eq_true z)]
    · refine fin _ ?_ _ rfl
      unfold cmn
      rw [if_neg (of_decide_eq_false (by simpa using z))]

theorem sc_isn : FnScope ["thing"] ["thing"] (defScope s_isn) := ⟨rfl, rfl, rfl, by decide +kernel, rfl, by decide +kernel, by decide +kernel⟩
def R_isn (C : Addr) : List D → D → Prop := fun ds d => (∃ y q, ds = [y] ∧ NumV C y q) ∧ d = bD true
theorem kit_int : PySem.W.kitOne K (.type "int") (.type "int") = some true := kit_ty (by decide +kernel)
theorem isn_any (T : FrTxt K mg C) {y : D} {q : Rat} (h : NumV C y q) : ∃ t, TyD K mg y t ∧ PySem.W.kitAny K t [.ref C, .type "int"] = some true := by
  rcases h with rfl | ⟨n, rfl, rfl⟩
  · exact ⟨_, .fr T, kitAny_cons T.kCC (fun z => by cases z) fun _ => rfl⟩
  · exact ⟨_, .int n, kitAny_cons T.kIC (fun _ => kitAny_cons kit_int (fun z => by cases z) fun _ => rfl) fun z => by cases z⟩
theorem ok_isn {f : Addr} {fd : FuncData} (F : Fun K "_is_number" "_is_number" s_isn f fd) (T : FrTxt K mg C) : FnOk P w K mg base CX0 1 f fd ["thing"] (spD K 1 (R_isn C)) := by
  refine fn_D F sc_isn (by decide) fun cdv A outer s H E ds d hr hl hR => ?_
  obtain ⟨⟨y, q, rfl, hy⟩, rfl⟩ := hR
  obtain ⟨t, h1, h2⟩ := isn_any T hy
  exact z_ret (ed_isi2 T.isi (ed_var 0 rfl) (pe_glob (v := .ref C) rfl T.mgC rfl) (pe_bltn (v := .ty "int") rfl T.tInt (by decide +kernel) rfl) (.own C) (.ty "int") h1 h2) (.inl rfl)

theorem sc_asf : FnScope ["number"] ["number"] (defScope s_asf) := ⟨rfl, rfl, rfl, by decide +kernel, rfl, by decide +kernel, by decide +kernel⟩
def R_asf (C : Addr) : List D → D → Prop := fun ds d => ∃ y q, ds = [y] ∧ NumV C y q ∧ d = fr C q
theorem ok_asf {f fI : Addr} {fd fdI : FuncData} {du : List Value} (F : Fun K "as_fraction" "as_fraction" s_asf f fd) (T : FrTxt K mg C) (M : Mk K C fI) (FI : FnOk P w K mg base CX0 1 fI fdI ["self", "top", "bottom"] (spInit C)) (bI : Binds K fdI ["self", "top", "bottom"] du) (hd : Vals [V.int 1] du) :
    FnOk P w K mg base CX0 3 f fd ["number"] (spD K 1 (R_asf C)) := by
  refine fn_D F sc_asf (by decide) fun cdv A outer s H E ds d hr hl hR => ?_
  obtain ⟨y, q, rfl, hy, rfl⟩ := hR
  rcases hy with rfl | ⟨n, rfl, rfl⟩
  · refine z_ifR (b := true) (td_val (ed_isi T.isi (ed_var 0 rfl) (ed_glob (v := .ref C) T.mgC rfl) (.own C) (.fr T) T.kCC)) (fun _ => z_ret (ed_var 0 rfl) ⟨(fun _ z => by cases z), .inl rfl⟩) (fun z => by cases z)
  · refine z_ifF (td_val (ed_isi T.isi (ed_var 0 rfl) (ed_glob (v := .ref C) T.mgC rfl) (.own C) (.int n) T.kIC)) ?_
    exact z_ret (ed_mk1 M FI hr T.mgC bI hd pass0 (ed_var 0 rfl)) (.inl rfl)

theorem sc_ord : FnScope ["fraction", "number", "other"] ["fraction", "number"] (defScope s_ord) := ⟨rfl, rfl, rfl, by decide +kernel, rfl, by decide +kernel, by decide +kernel⟩
def R_ord (C : Addr) : List D → D → Prop := fun ds d => ∃ p y q, ds = [fr C p, y] ∧ NumV C y q ∧ Sz 4000 p ∧ Sz 4000 q ∧ d = iD (p.num * (q.den : Int) - q.num * (p.den : Int))
theorem wm {i j : Int} (hi : i.natAbs < 2 ^ 4000) (hj : j.natAbs < 2 ^ 4000) : CMulW i j := wide_mul hi hj (by decide) (by decide) (by decide)
theorem ok_ord {f fA : Addr} {fd fdA : FuncData} (F : Fun K "_order" "_order" s_ord f fd) (T : FrTxt K mg C) (FA : FnOk P w K mg base CX0 3 fA fdA ["number"] (spD K 1 (R_asf C))) (mA : mg "as_fraction" = some (.ref fA)) (kA : PySem.W.keepIn K (.ref fA) = true) (bA : Binds K fdA ["number"] []) :
    FnOk P w K mg base CX0 4 f fd ["fraction", "number"] (spD K 2 (R_ord C)) := by
  refine fn_D F sc_ord (by decide) fun cdv A outer s H E ds d hr hl hR => ?_
  obtain ⟨p, y, q, rfl, hy, hp, hq, rfl⟩ := hR
  refine z_asg 2 (d := fr C q) (ed_call FA hr mA kA bA pass0 (ad_cons (ed_var 1 rfl) ad_nil) ⟨y, q, rfl, hy, rfl⟩) sc_ord.nd ?_
  refine z_ret (ed_op op_sub (ed_op op_mulW (ed_fld (ed_var 0 rfl) T.cl T.nT rfl) (ed_fld (ed_var 2 rfl) T.cl T.nB rfl) (rd_I (wm hp.num hq.denI))) (ed_op op_mulW (ed_fld (ed_var 2 rfl) T.cl T.nT rfl) (ed_fld (ed_var 0 rfl) T.cl T.nB rfl) (rd_I (wm hq.num hp.denI))) rd_I0) (.inl rfl)

theorem o_lt {p q : Rat} : bD (decide (p.num * (q.den : Int) - q.num * (p.den : Int) < 0)) = bD (decide (p < q)) := by
  refine congrArg bD (decide_eq_decide.mpr ?_)
  rw [Rat.lt_iff]
  omega
theorem o_le {p q : Rat} : bD (decide (p.num * (q.den : Int) - q.num * (p.den : Int) ≤ 0)) = bD (decide (p ≤ q)) := by
  refine congrArg bD (decide_eq_decide.mpr ?_)
  rw [Rat.le_iff]
  omega
theorem o_gt {p q : Rat} : bD (decide (0 < p.num * (q.den : Int) - q.num * (p.den : Int))) = bD (decide (q < p)) := by
  refine congrArg bD (decide_eq_decide.mpr ?_)
  rw [Rat.lt_iff]
  omega
theorem o_ge {p q : Rat} : bD (decide (0 ≤ p.num * (q.den : Int) - q.num * (p.den : Int))) = bD (decide (q ≤ p)) := by
  refine congrArg bD (decide_eq_decide.mpr ?_)
  rw [Rat.le_iff]
  omega
theorem o_eq {p q : Rat} : bD (decide (V.int (p.num * (q.den : Int) - q.num * (p.den : Int)) = V.int 0)) = bD (decide (p = q)) := by
  refine congrArg bD (decide_eq_decide.mpr ⟨fun h => ?_, fun h => ?_⟩)
  · have h' := V.int.inj h
    exact Rat.le_antisymm ((Rat.le_iff p q).mpr (by omega)) ((Rat.le_iff q p).mpr (by omega))
  · subst h
    rw [Int.sub_self]

theorem sc_eq : FnScope ["self", "other"] ["self", "other"] (defScope s_eq) := ⟨rfl, rfl, rfl, by decide +kernel, rfl, by decide +kernel, by decide +kernel⟩
theorem ok_eq {f fA fO : Addr} {fd fdA fdO : FuncData} (F : Fun K "__eq__" "Fraction.__eq__" s_eq f fd) (T : FrTxt K mg C) (FN : FnOk P w K mg base CX0 1 fA fdA ["thing"] (spD K 1 (R_isn C))) (mA : mg "_is_number" = some (.ref fA)) (kA : PySem.W.keepIn K (.ref fA) = true) (bA : Binds K fdA ["thing"] [])
    (FO : FnOk P w K mg base CX0 4 fO fdO ["fraction", "number"] (spD K 2 (R_ord C))) (mO : mg "_order" = some (.ref fO)) (kO : PySem.W.keepIn K (.ref fO) = true) (bO : Binds K fdO ["fraction", "number"] []) :
    FnOk P w K mg base CX0 5 f fd ["self", "other"] (spD K 2 (R_cmp C fun p q => decide (p = q))) := by
  refine fn_D F sc_eq (by decide) fun cdv A outer s H E ds d hr hl hR => ?_
  obtain ⟨p, y, q, rfl, hy, hp, hq, rfl⟩ := hR
  refine z_ifF (td_not (k := true) (td_val (ed_call FN (hr.mono (by decide)) mA kA bA pass0 (ad_cons (ed_var 1 rfl) ad_nil) ⟨⟨y, q, rfl, hy⟩, rfl⟩))) ?_
  exact z_ret (ed_is (ed_cmp op_eq (ed_call FO hr mO kO bO pass0 (ad_cons (ed_var 0 rfl) (ad_cons (ed_var 1 rfl) ad_nil)) ⟨p, y, q, rfl, hy, hp, hq, rfl⟩) ed_int (rd_eq rfl)) o_eq) (.inl rfl)

theorem sc_ne : FnScope ["self", "other"] ["self", "other"] (defScope s_ne) := ⟨rfl, rfl, rfl, by decide +kernel, rfl, by decide +kernel, by decide +kernel⟩
theorem ok_ne {f fE : Addr} {fd fdE : FuncData} (F : Fun K "__ne__" "Fraction.__ne__" s_ne f fd) (T : FrTxt K mg C) (ME : CmpM K C "__eq__" fE) (FE : FnOk P w K mg base CX0 5 fE fdE ["self", "other"] (spD K 2 (R_cmp C fun p q => decide (p = q)))) (bE : Binds K fdE ["self", "other"] []) :
    FnOk P w K mg base CX0 6 f fd ["self", "other"] (spD K 2 (R_cmp C fun p q => !decide (p = q))) := by
  refine fn_D F sc_ne (by decide) fun cdv A outer s H E ds d hr hl hR => ?_
  obtain ⟨p, y, q, rfl, hy, hp, hq, rfl⟩ := hR
  rcases id hy with rfl | ⟨n, rfl, rfl⟩
  · exact z_ret (ed_not (ed_cmp (cmp_own (fun _ _ => rfl) ME FE hr bE pass0) (ed_var 0 rfl) (ed_var 1 rfl) (rd_own ⟨p, _, q, rfl, hy, hp, hq, rfl⟩))) (.inl rfl)
  · exact z_ret (ed_not (ed_cmp (cmp_ownI (fun _ _ => rfl) ME T.sub1 FE hr bE pass0) (ed_var 0 rfl) (ed_var 1 rfl) (rd_ownI ⟨p, _, _, rfl, hy, hp, hq, rfl⟩))) (.inl rfl)

theorem sc_cell : FnScope ["_law_script", "_law_k"] ["_law_script", "_law_k"] (defScope s_cell) := ⟨rfl, rfl, rfl, by decide +kernel, rfl, by decide +kernel, by decide +kernel⟩
theorem ok_cell {f : Addr} {fd : FuncData} (F : Fun K "_law_cell" "_law_cell" s_cell f fd) (mL : mg "len" = none) : FnOk P w K mg base CX0 1 f fd ["_law_script", "_law_k"] (spD K 2 R_cell) := by
  refine fn_D F sc_cell (by decide) fun cdv A outer s H E ds d hr hl hR => ?_
  obtain ⟨ns, k, rfl, rfl⟩ := hR
  refine z_ifR (b := decide ((k : Int) < ((ns.map iD).length : Int))) (td_cmp op_lt (ed_var 1 rfl) (ed_len mL (ed_var 0 rfl)) rd_I0) (fun hk => ?_) (fun hk => ?_)
  · have hk' : k < ns.length := by
      have := of_decide_eq_true hk
      rw [List.length_map] at this
      omega
    refine z_ret (ed_ix (d := iD (ns.getD k 0)) (ed_var 0 rfl) (ed_var 1 rfl) (at_nat ?_)) ⟨(fun _ z => by cases z), .inl rfl⟩
    rw [List.getElem?_map, List.getElem?_eq_getElem hk', List.getD_eq_getElem?_getD, List.getElem?_eq_getElem hk']
    rfl
  · have hk' : ¬ k < ns.length := by
      have := of_decide_eq_false hk
      rw [List.length_map] at this
      omega
    rw [show ns.getD k 0 = 0 by rw [List.getD_eq_getElem?_getD, List.getElem?_eq_none (by omega)]; rfl]
    exact z_ret ed_int (.inl rfl)

/-! ### the law's own helpers -/
def lawCap (c : Int) : Int := if c % 3 = 0 then 40 else if c % 3 = 1 then 10 ^ 6 else 10 ^ 50 * 10 ^ 50
def lawSize (x c : Int) : Int := x % lawCap c
def R_size : List D → D → Prop := fun ds d => ∃ x c : Int, ds = [iD x, iD c] ∧ d = iD (lawSize x c)
theorem lawCap_pos (c : Int) : 0 < lawCap c := by
  unfold lawCap
  split
  · decide
  · split <;> decide
theorem lawCap_le (c : Int) : lawCap c ≤ 10 ^ 100 := by
  unfold lawCap
  split
  · decide
  · split <;> decide
theorem lawSize_lt (x c : Int) : 0 ≤ lawSize x c ∧ lawSize x c < 10 ^ 100 := by
  have h1 := Int.emod_nonneg x (show lawCap c ≠ 0 from fun h => by have := lawCap_pos c; omega)
  have h2 := Int.emod_lt_of_pos x (lawCap_pos c)
  have h3 := lawCap_le c
  unfold lawSize
  exact ⟨h1, Int.lt_of_lt_of_le h2 h3⟩
theorem sc_size : FnScope ["_law_cell_here", "_law_choice"] ["_law_cell_here", "_law_choice"] (defScope s_size) := ⟨rfl, rfl, rfl, by decide +kernel, rfl, by decide +kernel, by decide +kernel⟩
theorem ok_size {f : Addr} {fd : FuncData} (F : Fun K "_law_size" "_law_size" s_size f fd) (tI : mg "int" = none) : FnOk P w K mg base CX0 1 f fd ["_law_cell_here", "_law_choice"] (spD K 2 R_size) := by
  refine fn_D F sc_size (by decide) fun cdv A outer s H E ds d hr hl hR => ?_
  obtain ⟨x, c, rfl, rfl⟩ := hR
  have hat : atI [iD 40, iD (10 ^ (6 : Int).toNat), iD (10 ^ (50 : Int).toNat * 10 ^ (50 : Int).toNat)] (c % 3) = some (iD (lawCap c)) := by
    have h1 := Int.emod_nonneg c (show (3 : Int) ≠ 0 by decide)
    have h2 := Int.emod_lt_of_pos c (show (0 : Int) < 3 by decide)
    unfold lawCap
    generalize c % 3 = r at *
    obtain rfl | rfl | rfl : r = 0 ∨ r = 1 ∨ r = 2 := by omega
    · rfl
    · rfl
    · rfl
  have pw : ∀ {n : Int}, CPow 10 n → RD K (rI CPow fun i j => .int (i ^ j.toNat)) (iD 10) (iD n) (iD (10 ^ n.toNat)) := fun h => rd_I h
  refine z_ret (ed_op op_mod (ed_toInt tI (ed_var 0 rfl)) (ed_ix (ed_lst (ad_cons ed_int (ad_cons (ed_op op_pow ed_int ed_int (pw ⟨by decide, by decide, by decide⟩)) (ad_cons (ed_op op_mulW (ed_op op_pow ed_int ed_int (pw ⟨by decide, by decide, by decide⟩)) (ed_op op_pow ed_int ed_int (pw ⟨by decide, by decide, by decide⟩)) (rd_I (wide_mul (a := 200) (b := 200) (by decide) (by decide) (by decide) (by decide) (by decide)))) ad_nil))))
    (ed_op op_mod (ed_var 1 rfl) ed_int (rd_I (by decide))) hat) (rd_I (lawCap_pos c))) (.inl rfl)
/-- _law_divisor -/
def R_dv : List D → D → Prop := fun ds d => ∃ x y : Int, ds = [iD x, iD y] ∧ d = iD ((Nat.gcd x.natAbs y.natAbs : Nat) : Int)
theorem ab_eq (i : Int) : (if i < 0 then -i else i) = (i.natAbs : Int) := by split <;> omega
theorem sc_dv : FnScope ["_law_first", "_law_second", "_law_rest"] ["_law_first", "_law_second"] (defScope s_dv) := ⟨rfl, rfl, rfl, by decide +kernel, rfl, by decide +kernel, by decide +kernel⟩
theorem ok_dv {f : Addr} {fd : FuncData} (F : Fun K "_law_divisor" "_law_divisor" s_dv f fd) (mA : mg "abs" = none) : FnOk P w K mg base CX0 1 f fd ["_law_first", "_law_second"] (spD K 2 R_dv) := by
  refine fn_D F sc_dv (by decide) fun cdv A outer s H E ds d hr hl hR => ?_
  obtain ⟨x, y, rfl, rfl⟩ := hR
  refine z_asg 0 (d := iD (x.natAbs : Int)) (ed_is (ed_abs mA (ed_var 0 rfl)) (by rw [ab_eq])) sc_dv.nd ?_
  refine z_asg 1 (d := iD (y.natAbs : Int)) (ed_is (ed_abs mA (ed_var 1 rfl)) (by rw [ab_eq])) sc_dv.nd ?_
  refine z_while (fun m Γ' => ∃ (a b : Nat) (o : Option D), b = m ∧ Nat.gcd a b = Nat.gcd x.natAbs y.natAbs ∧ Γ' = [some (iD (a : Int)), some (iD (b : Int)), o]) y.natAbs ⟨_, _, none, rfl, rfl, rfl⟩ ?_
  rintro m Γ' ⟨a, b, o, rfl, hg, rfl⟩
  refine ⟨!decide (V.int (b : Int) = V.int 0), td_cmp op_ne (ed_var 1 rfl) ed_int (rd_ne rfl), fun hk => ?_, fun hk => ?_⟩
  · have hb : b ≠ 0 := fun z => by
      subst z
      simp at hk
    refine z_asg 2 (d := iD ((a % b : Nat) : Int)) (ed_op op_mod (ed_var 0 rfl) (ed_var 1 rfl) (rd_I (by omega))) sc_dv.nd ?_
    refine z_asg 0 (ed_var 1 rfl) sc_dv.nd ?_
    refine z_asg 1 (ed_var 2 rfl) sc_dv.nd (ss_nil (.inl ⟨_, a % b, .inl rfl, Nat.mod_lt _ (by omega), b, a % b, _, rfl, ?_, rfl⟩))
    rw [← hg, Nat.gcd_comm b, ← Nat.gcd_rec, Nat.gcd_comm]
  · have hb : b = 0 := by
      have hk2 : decide (V.int (b : Int) = V.int 0) = true := by simpa using hk
      have := V.int.inj (of_decide_eq_true hk2)
      omega
    subst hb
    refine z_ret (ed_var 0 rfl) (.inl ?_)
    rw [← hg, Nat.gcd_zero_right]
/-- _law_integer -/
def R_intg : List D → D → Prop := fun ds d => ∃ x : Int, ds = [iD x] ∧ d = bD true
theorem sc_intg : FnScope ["_law_number"] ["_law_number"] (defScope s_intg) := ⟨rfl, rfl, rfl, by decide +kernel, rfl, by decide +kernel, by decide +kernel⟩
theorem ok_intg {f : Addr} {fd : FuncData} (F : Fun K "_law_integer" "_law_integer" s_intg f fd) (mI : mg "isinstance" = none) (tI : mg "int" = none) (tB : mg "bool" = none) : FnOk P w K mg base CX0 1 f fd ["_law_number"] (spD K 1 R_intg) := by
  refine fn_D F sc_intg (by decide) fun cdv A outer s H E ds d hr hl hR => ?_
  obtain ⟨x, rfl, rfl⟩ := hR
  have k0 : PySem.W.kitOne K (.type "int") (.type "bool") = some false := kit_ty (by decide +kernel)
  exact z_ret (ed_andT (ed_isi mI (ed_var 0 rfl) (ed_bltn (v := .ty "int") tI (by decide +kernel) rfl) (.ty "int") (.int x) kit_int)
    (ed_one (ed_not (k := false) (ed_isi mI (ed_var 0 rfl) (ed_bltn (v := .ty "bool") tB (by decide +kernel) rfl) (.ty "bool") (.int x) k0)))) (.inl rfl)
/-- _law_refused -/
def R_ref : List D → D → Prop := fun ds d => ∃ x : Int, ds = [iD x] ∧ d = bD true
theorem sc_ref : FnScope ["_law_number", "e"] ["_law_number"] (defScope s_ref) := ⟨rfl, rfl, rfl, by decide +kernel, rfl, by decide +kernel, by decide +kernel⟩
theorem ok_ref {f fI CB TE : Addr} {fd fdI : FuncData} (F : Fun K "_law_refused" "_law_refused" s_ref f fd) (T : FrTxt K mg C) (M : Mk K C fI) (GX : FnOk P w K mg base (L2.CX P w) 1 fI fdI ["self", "top", "bottom"] (spInitX C CB)) (bI : Binds K fdI ["self", "top", "bottom"] [])
    (EB : ErT K mg "BadFraction" CB) (mT : mg "TracerError" = some (.ref TE)) (mV : mg "ValueError" = none) (EC : ExcC K CB) (kT : PySem.W.kitOne K (.ref CB) (.ref TE) = some true) (sV : PySem.W.subIn K (.ref CB) (.type "ValueError") = some true) : FnOk P w K mg base CX0 3 f fd ["_law_number"] (spD K 1 R_ref) := by
  refine fn_D F sc_ref (by decide) fun cdv A outer s H E ds d hr hl hR => ?_
  obtain ⟨x, rfl, rfl⟩ := hR
  have kV : PySem.W.kitOne K (.ref CB) (.type "ValueError") = some true := by
    unfold PySem.W.kitOne PySem.W.kitCls
    rw [if_neg (by rw [show (Value.ref CB == Value.type "ValueError") = false from Bool.eq_false_iff.mpr fun q => by cases beq_iff_eq.mp q]; exact Bool.false_ne_true)]
    show (if PySem.W.kitMeta "ValueError" = true then PySem.W.subIn K (.ref CB) (.type "ValueError") else none) = some true
    rw [if_pos (by decide +kernel), sV]
  refine ss_out (sd_tryAs 1 rfl rfl sc_ref.nd (names_own EB.mg) (Ψ := fun o => o = .ex (.ref CB) [] _) (fun pn xe _ => ss_out (sd_exprX (xd_mk (X := Cx.tr _ pn xe) M GX (hr.mono (by decide)) T.mgC bI (ad_cons (ed_var 0 rfl) (ad_cons ed_int ad_nil))) rfl) (fun Γ' z => by cases z)) (fun o h z => absurd z (h _ _ _)) ?_) (fun Γ' z => ?_)
  · rintro c fs Γ' z
    cases z
    refine ⟨true, PySem.W.exm_ref EB.be EB.hd EB.ty EB.self, fun _ a oe d pn hz hd0 hf => ?_, fun z => by cases z⟩
    cases hd0 rfl
    exact z_ret (X := Cx.suite _ a ((a, oe) :: pn)) (ed_andT (ed_isE EC hz hf T.isi (ed_var 1 rfl) (ed_glob (v := .ref TE) mT rfl) (.own TE) kT) (ed_one (ed_isE EC hz hf T.isi (ed_var 1 rfl) (ed_bltn (v := .ty "ValueError") mV (by decide +kernel) rfl) (.ty "ValueError") kV))) (.inl rfl)
  · rcases z with z | ⟨z, _⟩ <;> cases z

/-! ### the law -/
theorem sc_law : FnScope ["_law_script", "_law_choice", "_law_a", "_law_b", "_law_factor", "_law_got", "_law_other", "_law_whole", "_law_plain"] ["_law_script"] (defScope s_law) := ⟨rfl, rfl, rfl, by decide +kernel, rfl, by decide +kernel, by decide +kernel⟩
theorem p100 : (10 : Nat) ^ 100 < 2 ^ 340 := by decide
theorem sz_div {a b : Int} {n : Nat} (hb : b ≠ 0) (h1 : a.natAbs < 2 ^ n) (h2 : b.natAbs < 2 ^ n) : Sz n (Rat.divInt a b) := ⟨Nat.lt_of_le_of_lt (num_le a b) h1, Nat.lt_of_le_of_lt (den_le hb) h2⟩
theorem cross {a b : Int} (hb : b ≠ 0) : (Rat.divInt a b).num * b = a * ((Rat.divInt a b).den : Int) := by
  have h := Rat.num_divInt_den (Rat.divInt a b)
  exact (Rat.divInt_eq_divInt_iff (by have := (Rat.divInt a b).den_nz; omega) hb).mp h
theorem ok_law {f fC fS fD fG fR fI fE fN : Addr} {fd fdC fdS fdD fdG fdR fdI fdE fdN : FuncData} {du : List Value} {g : List Value → List Value → List Value} {gV : List V → List V → List V} (F : Fun K "law" "law" s_law f fd) (T : FrTxt K mg C)
    (FC : FnOk P w K mg base CX0 1 fC fdC ["_law_script", "_law_k"] (spD K 2 R_cell)) (mC : mg "_law_cell" = some (.ref fC)) (kC : PySem.W.keepIn K (.ref fC) = true) (bC : Binds K fdC ["_law_script", "_law_k"] [])
    (FS : FnOk P w K mg base CX0 1 fS fdS ["_law_cell_here", "_law_choice"] (spD K 2 R_size)) (mS : mg "_law_size" = some (.ref fS)) (kS : PySem.W.keepIn K (.ref fS) = true) (bS : Binds K fdS ["_law_cell_here", "_law_choice"] [])
    (FD : FnOk P w K mg base CX0 1 fD fdD ["_law_first", "_law_second"] (spD K 2 R_dv)) (mD : mg "_law_divisor" = some (.ref fD)) (kD : PySem.W.keepIn K (.ref fD) = true) (bD : Binds K fdD ["_law_first", "_law_second"] [])
    (FG : FnOk P w K mg base CX0 1 fG fdG ["_law_number"] (spD K 1 R_intg)) (mG : mg "_law_integer" = some (.ref fG)) (kG : PySem.W.keepIn K (.ref fG) = true) (bG : Binds K fdG ["_law_number"] [])
    (FR : FnOk P w K mg base CX0 3 fR fdR ["_law_number"] (spD K 1 R_ref)) (mR : mg "_law_refused" = some (.ref fR)) (kR : PySem.W.keepIn K (.ref fR) = true) (bR : Binds K fdR ["_law_number"] [])
    (M : Mk K C fI) (FI : FnOk P w K mg base CX0 1 fI fdI ["self", "top", "bottom"] (spInit C)) (bI : Binds K fdI ["self", "top", "bottom"] []) (b1 : Binds K fdI ["self", "top", "bottom"] du) (hdu : Vals [V.int 1] du)
    (bK : KBn K fdI ["self", "top", "bottom"] 1 ["bottom", "top"] g gV) (hgV : ∀ x y z, gV [x] [y, z] = [x, z, y])
    (ME : CmpM K C "__eq__" fE) (FE : FnOk P w K mg base CX0 5 fE fdE ["self", "other"] (spD K 2 (R_cmp C fun p q => decide (p = q)))) (bE : Binds K fdE ["self", "other"] [])
    (MN : CmpM K C "__ne__" fN) (FN : FnOk P w K mg base CX0 6 fN fdN ["self", "other"] (spD K 2 (R_cmp C fun p q => !decide (p = q)))) (bN : Binds K fdN ["self", "other"] []) :
    FnOk P w K mg base CX0 8 f fd ["_law_script"] (spD K 1 R_law) := by
  refine fn_D F sc_law (by decide) fun cdv A outer s H E ds d hr hl hR => ?_
  obtain ⟨ns, rfl, hlen, rfl⟩ := hR
  have hr1 : Room 1 _ := hr.mono (by decide)
  have hr2 : Room 2 _ := hr.mono (by decide)
  have hr3 : Room 3 _ := hr.mono (by decide)
  have hr5 : Room 5 _ := hr.mono (by decide)
  have hr6 : Room 6 _ := hr.mono (by decide)
  obtain ⟨ch, hch, hch0, hch1⟩ : ∃ ch, ch = ns.getD 0 0 % (10 : Int) ^ (9 : Int).toNat ∧ 0 ≤ ch ∧ ch < 10 ^ 9 := ⟨_, rfl, Int.emod_nonneg _ (by decide), Int.emod_lt_of_pos _ (by decide)⟩
  refine z_asg 1 (d := iD ch) (ed_is (ed_op op_mod (ed_toInt T.tInt (ed_call FC hr1 mC kC bC pass0 (ad_cons (ed_var 0 rfl) (ad_cons ed_int ad_nil)) ⟨ns, 0, rfl, rfl⟩)) (ed_op op_pow ed_int ed_int (rd_I ⟨by decide, by decide, by decide⟩)) (rd_I (by decide))) (by rw [hch])) sc_law.nd ?_
  obtain ⟨a0, ha, ha0, ha1⟩ : ∃ a, a = lawSize (ns.getD 1 0) ch ∧ 0 ≤ a ∧ a < 10 ^ 100 := ⟨_, rfl, (lawSize_lt _ _).1, (lawSize_lt _ _).2⟩
  refine z_asg 2 (d := iD a0) (ed_is (ed_call FS hr1 mS kS bS pass0 (ad_cons (ed_call FC hr1 mC kC bC pass0 (ad_cons (ed_var 0 rfl) (ad_cons ed_int ad_nil)) ⟨ns, 1, rfl, rfl⟩) (ad_cons (ed_var 1 rfl) ad_nil)) ⟨_, _, rfl, rfl⟩) (by rw [ha])) sc_law.nd ?_
  obtain ⟨b, hb, hb0, hb1⟩ : ∃ b, b = 1 + lawSize (ns.getD 2 0) (ch / 3) ∧ 0 < b ∧ b ≤ 10 ^ 100 := ⟨_, rfl, by have := (lawSize_lt (ns.getD 2 0) (ch / 3)).1; omega, by have := (lawSize_lt (ns.getD 2 0) (ch / 3)).2; omega⟩
  refine z_asg 3 (d := iD b) (ed_is (ed_op op_add ed_int (ed_call FS hr1 mS kS bS pass0 (ad_cons (ed_call FC hr1 mC kC bC pass0 (ad_cons (ed_var 0 rfl) (ad_cons ed_int ad_nil)) ⟨ns, 2, rfl, rfl⟩) (ad_cons (ed_op op_fdiv (ed_var 1 rfl) ed_int (rd_I ⟨by decide, by decide⟩)) ad_nil)) ⟨_, _, rfl, rfl⟩) rd_I0) (by rw [hb])) sc_law.nd ?_
  obtain ⟨g0, hg, hg0, hg1⟩ : ∃ b, b = 1 + lawSize (ns.getD 3 0) (ch / 9) ∧ 0 < b ∧ b ≤ 10 ^ 100 := ⟨_, rfl, by have := (lawSize_lt (ns.getD 3 0) (ch / 9)).1; omega, by have := (lawSize_lt (ns.getD 3 0) (ch / 9)).2; omega⟩
  refine z_asg 4 (d := iD g0) (ed_is (ed_op op_add ed_int (ed_call FS hr1 mS kS bS pass0 (ad_cons (ed_call FC hr1 mC kC bC pass0 (ad_cons (ed_var 0 rfl) (ad_cons ed_int ad_nil)) ⟨ns, 3, rfl, rfl⟩) (ad_cons (ed_op op_fdiv (ed_var 1 rfl) ed_int (rd_I ⟨by decide, by decide⟩)) ad_nil)) ⟨_, _, rfl, rfl⟩) rd_I0) (by rw [hg])) sc_law.nd ?_
  have p1 := p100
  have a2 : a0.natAbs < 2 ^ 340 := by omega
  have b2 : b.natAbs < 2 ^ 340 := by omega
  have g2 : g0.natAbs < 2 ^ 340 := by omega
  have gz : g0 ≠ 0 := by omega
  clear ha ha0 ha1 hg hg0 hg1
  refine z_if (k := decide (V.int (ch / 27 % 2) = V.int 1)) (fun Γ' => ∃ a : Int, a.natAbs < 2 ^ 340 ∧ Γ' = [some (.lst (ns.map iD)), some (iD ch), some (iD a), some (iD b), some (iD g0), none, none, none, none])
    (td_cmp op_eq (ed_op op_mod (ed_op op_fdiv (ed_var 1 rfl) ed_int (rd_I ⟨by decide, by decide⟩)) ed_int (rd_I (by decide))) ed_int (rd_eq rfl)) (fun _ => z_asg 2 (ed_un un_neg (ed_var 2 rfl) ud_neg) sc_law.nd (ss_nil ⟨_, rfl, -a0, by omega, rfl⟩)) (fun _ => ss_nil ⟨_, rfl, a0, a2, rfl⟩) ?_
  clear a2
  rintro Γ' ⟨a, a2, rfl⟩
  refine z_if (k := decide (V.int (ch / 54 % 2) = V.int 1)) (fun Γ' => ∃ g : Int, g.natAbs < 2 ^ 340 ∧ g ≠ 0 ∧ Γ' = [some (.lst (ns.map iD)), some (iD ch), some (iD a), some (iD b), some (iD g), none, none, none, none])
    (td_cmp op_eq (ed_op op_mod (ed_op op_fdiv (ed_var 1 rfl) ed_int (rd_I ⟨by decide, by decide⟩)) ed_int (rd_I (by decide))) ed_int (rd_eq rfl)) (fun _ => z_asg 4 (ed_un un_neg (ed_var 4 rfl) ud_neg) sc_law.nd (ss_nil ⟨_, rfl, -g0, by omega, by omega, rfl⟩)) (fun _ => ss_nil ⟨_, rfl, g0, g2, gz, rfl⟩) ?_
  clear g2 gz
  rintro Γ' ⟨g, g2, gz, rfl⟩
  have wm : ∀ {i j : Int}, i.natAbs < 2 ^ 340 → j.natAbs < 2 ^ 340 → CMulW i j := fun hi hj => wide_mul hi hj (by decide) (by decide) (by decide)
  have bz : b ≠ 0 := by omega
  have up : ∀ {i : Int} {n m : Nat}, i.natAbs < 2 ^ n → n ≤ m → i.natAbs < 2 ^ m := fun h hn => Nat.lt_of_lt_of_le h (Nat.pow_le_pow_right (by decide) hn)
  have qe : Rat.divInt (a * g) (b * g) = Rat.divInt a b := Rat.divInt_mul_right gz
  refine z_asg 5 (d := fr C (Rat.divInt a b)) (ed_is (ed_mk M FI hr2 T.mgC bI pass0 (ad_cons (ed_op op_mulW (ed_var 2 rfl) (ed_var 4 rfl) (rd_I (wm a2 g2))) (ad_cons (ed_op op_mulW (ed_var 3 rfl) (ed_var 4 rfl) (rd_I (wm b2 g2))) ad_nil)) (Int.mul_ne_zero bz gz) (up (wide_lt b2 g2) (by decide))) (by rw [qe])) sc_law.nd ?_
  have q4 : Sz 340 (Rat.divInt a b) := sz_div bz a2 b2
  generalize hq : Rat.divInt a b = q at q4
  have dpos : 0 < q.den := q.den_pos
  have e1 : q.num * b = a * (q.den : Int) := by rw [← hq]; exact cross bz
  have e2 : Nat.gcd q.num.natAbs (q.den : Int).natAbs = 1 := q.reduced
  have tT : ∀ {Γ : Gm} {p1 : Pos} {X : Cx}, X.K = K → True := fun _ => trivial
  refine z_ifF (WD.td (wd_orF (td_not (k := true) (td_val (ed_call FG hr1 mG kG bG pass0 (ad_cons (ed_fld (ed_var 5 rfl) T.cl T.nT rfl) ad_nil) ⟨_, rfl, rfl⟩))) (wd_orF (td_not (k := true) (td_val (ed_call FG hr1 mG kG bG pass0 (ad_cons (ed_fld (ed_var 5 rfl) T.cl T.nB rfl) ad_nil) ⟨_, rfl, rfl⟩)))
    (wd_or1 (td_cmp (k := false) op_lt (ed_fld (ed_var 5 rfl) T.cl T.nB rfl) ed_int ?_))))) ?_
  · have h := rd_I0 (K := K) (g := fun i j => .bl (decide (i < j))) (i := (q.den : Int)) (j := 1)
    rw [show decide ((q.den : Int) < 1) = false from decide_eq_false (by omega)] at h
    exact h
  have neF : ∀ {x y : Int}, x = y → RD K rNe (iD x) (iD y) (Trk.bD false) := fun {x y} h => by
    have h2 := rd_ne (K := K) (x := V.int x) (y := V.int y) rfl
    rw [h, decide_eq_true rfl] at h2
    rw [h]
    exact h2
  refine z_ifF (WD.td (wd_orF (td_cmp (k := false) op_ne (ed_op op_mulW (ed_fld (ed_var 5 rfl) T.cl T.nT rfl) (ed_var 3 rfl) (rd_I (wm q4.num b2))) (ed_op op_mulW (ed_var 2 rfl) (ed_fld (ed_var 5 rfl) T.cl T.nB rfl) (rd_I (wm a2 q4.denI))) (neF e1))
    (wd_or1 (td_cmp (k := false) op_ne (ed_call FD hr1 mD kD bD pass0 (ad_cons (ed_fld (ed_var 5 rfl) T.cl T.nT rfl) (ad_cons (ed_fld (ed_var 5 rfl) T.cl T.nB rfl) ad_nil)) ⟨_, _, rfl, rfl⟩) ed_int (neF (by rw [e2]; rfl)))))) ?_
  have qe2 : Rat.divInt (-a) (-b) = q := by rw [Rat.neg_divInt_neg, hq]
  refine z_asg 6 (d := fr C q) (ed_is (ed_mkK M FI hr2 T.mgC bK hgV pass0 (ed_un un_neg (ed_var 3 rfl) ud_neg) (ed_un un_neg (ed_var 2 rfl) ud_neg) (by omega) (by rw [Int.natAbs_neg]; exact up b2 (by decide))) (by rw [qe2])) sc_law.nd ?_
  have neL : ∀ {u v x y : Int}, u = x → v = y → RD K (rNeD K) (.lst [iD u, iD v]) (.lst [iD x, iD y]) (Trk.bD false) := fun {u v x y} h1 h2 => by
    subst h1 h2
    have h := rd_neL (K := K) (ns := [u, v]) (ms := [u, v])
    rw [decide_eq_true rfl] at h
    exact h
  refine z_ifF (td_cmp (k := false) (op_neD hr1.units) (ed_lst (ad_cons (ed_fld (ed_var 6 rfl) T.cl T.nT rfl) (ad_cons (ed_fld (ed_var 6 rfl) T.cl T.nB rfl) ad_nil))) (ed_lst (ad_cons (ed_fld (ed_var 5 rfl) T.cl T.nT rfl) (ad_cons (ed_fld (ed_var 5 rfl) T.cl T.nB rfl) ad_nil))) (neL rfl rfl)) ?_
  have s4 : Sz 4000 q := q4.mono (by decide)
  refine z_ifF (WD.td (wd_orF (td_not (k := true) (td_cmp (cmp_own (fun _ _ => rfl) ME FE hr5 bE pass0) (ed_var 6 rfl) (ed_var 5 rfl) (rd_own ⟨q, _, q, rfl, .inl rfl, s4, s4, by show Trk.bD true = Trk.bD (decide (q = q)); rw [decide_eq_true rfl]⟩)))
    (wd_or1 (td_cmp (cmp_own (fun _ _ => rfl) MN FN hr6 bN pass0) (ed_var 6 rfl) (ed_var 5 rfl) (rd_own ⟨q, _, q, rfl, .inl rfl, s4, s4, by show Trk.bD false = Trk.bD (!decide (q = q)); rw [decide_eq_true rfl]; rfl⟩))))) ?_
  have wp : ∀ {i j : Int}, i.natAbs < 2 ^ 800 → j.natAbs < 2 ^ 800 → CMulW i j := fun hi hj => wide_mul hi hj (by decide) (by decide) (by decide)
  have pw : RD K (rI CPow fun i j => .int (i ^ j.toNat)) (iD 10) (iD 60) (iD (10 ^ (60 : Int).toNat)) := rd_I ⟨by decide, by decide, by decide⟩
  obtain ⟨wh, hwh, hwh1⟩ : ∃ wh : Int, wh = ns.getD 4 0 % ((10 : Int) ^ (60 : Int).toNat * 10 ^ (60 : Int).toNat * 10 ^ (60 : Int).toNat * 10 ^ (60 : Int).toNat) - ch ∧ True := ⟨_, rfl, trivial⟩
  refine z_asg 7 (d := iD wh) (ed_is (ed_op op_sub (ed_op op_mod (ed_toInt T.tInt (ed_call FC hr1 mC kC bC pass0 (ad_cons (ed_var 0 rfl) (ad_cons ed_int ad_nil)) ⟨ns, 4, rfl, rfl⟩)) (ed_op op_mulW (ed_op op_mulW (ed_op op_mulW (ed_op op_pow ed_int ed_int pw) (ed_op op_pow ed_int ed_int pw) (rd_I (wp (by decide) (by decide)))) (ed_op op_pow ed_int ed_int pw) (rd_I (wp (by decide) (by decide)))) (ed_op op_pow ed_int ed_int pw) (rd_I (wp (by decide) (by decide)))) (rd_I (by decide))) (ed_var 1 rfl) rd_I0) (by rw [hwh])) sc_law.nd ?_
  refine z_asg 8 (d := fr C (wh : Rat)) (ed_mk1 M FI hr2 T.mgC b1 hdu pass0 (ed_var 7 rfl)) sc_law.nd ?_
  refine z_ifF (td_cmp (k := false) (op_neD hr1.units) (ed_lst (ad_cons (ed_fld (ed_var 8 rfl) T.cl T.nT rfl) (ad_cons (ed_fld (ed_var 8 rfl) T.cl T.nB rfl) ad_nil))) (ed_lst (ad_cons (ed_var 7 rfl) (ad_cons ed_int ad_nil))) (neL rfl rfl)) ?_
  exact z_ret (ed_andT (ed_call FR hr3 mR kR bR pass0 (ad_cons (ed_var 2 rfl) ad_nil) ⟨_, rfl, rfl⟩) (ed_andT (ed_call FR hr3 mR kR bR pass0 (ad_cons ed_int ad_nil) ⟨_, rfl, rfl⟩) (ed_one (ed_call FR hr3 mR kR bR pass0 (ad_cons (ed_var 7 rfl) ad_nil) ⟨_, rfl, rfl⟩)))) (.inl rfl)
end
/-! ### what the top has written, the head -/
theorem all_mk {l : PySem.W.OpenLaw} {w : World} {K : PySem.W.Frag} {h : Heap} {mg : Str → Option Value} {fa : Addr} (X : K.In h) (G : h.Ns mainGlobals mg) (hfa : mg "law" = some (.ref fa))
    {f_init f_eq f_ne f_asf f_isn f_ord f_cell f_size f_dv f_intg f_ref f_law C CB TE : Addr}
    {T_init : Addr} {ocT_init : Value} {odT_init : Option Addr} {nT_init : Nat} {slT_init : Array (Option Value)} {tk_init_0 : Tok}
    {od_init an_init : Option Addr} {sl_init : Array (Option Value)} {oc_init kV_init dc_init pm_init cd_init ct_init : Value}
    {od_eq an_eq : Option Addr} {sl_eq : Array (Option Value)} {oc_eq kV_eq dc_eq pm_eq cd_eq ct_eq : Value}
    {od_ne an_ne : Option Addr} {sl_ne : Array (Option Value)} {oc_ne kV_ne dc_ne pm_ne cd_ne ct_ne : Value}
    {od_asf an_asf : Option Addr} {sl_asf : Array (Option Value)} {oc_asf kV_asf dc_asf pm_asf cd_asf ct_asf : Value}
    {od_isn an_isn : Option Addr} {sl_isn : Array (Option Value)} {oc_isn kV_isn dc_isn pm_isn cd_isn ct_isn : Value}
    {od_ord an_ord : Option Addr} {sl_ord : Array (Option Value)} {oc_ord kV_ord dc_ord pm_ord cd_ord ct_ord : Value}
    {od_cell an_cell : Option Addr} {sl_cell : Array (Option Value)} {oc_cell kV_cell dc_cell pm_cell cd_cell ct_cell : Value}
    {od_size an_size : Option Addr} {sl_size : Array (Option Value)} {oc_size kV_size dc_size pm_size cd_size ct_size : Value}
    {od_dv an_dv : Option Addr} {sl_dv : Array (Option Value)} {oc_dv kV_dv dc_dv pm_dv cd_dv ct_dv : Value}
    {od_intg an_intg : Option Addr} {sl_intg : Array (Option Value)} {oc_intg kV_intg dc_intg pm_intg cd_intg ct_intg : Value}
    {od_ref an_ref : Option Addr} {sl_ref : Array (Option Value)} {oc_ref kV_ref dc_ref pm_ref cd_ref ct_ref : Value}
    {od_law an_law : Option Addr} {sl_law : Array (Option Value)} {oc_law kV_law dc_law pm_law cd_law ct_law : Value}
    (aC : PySem.W.nsIn K mainGlobals "Fraction" = some (some (.ref C)))
    (aCB : PySem.W.nsIn K mainGlobals "BadFraction" = some (some (.ref CB)))
    (aTE : PySem.W.nsIn K mainGlobals "TracerError" = some (some (.ref TE)))
    (a_init : PySem.W.findIn K (.ref C) "__init__" = some (some (.ref f_init)))
    (i_init : PySem.W.isFn K (.ref f_init) = true)
    (l_init : K.lookup f_init = some ⟨oc_init, od_init, .func (PySem.W.fnOf "__init__" "Fraction.__init__" (defArgs s_init) (defBody s_init) (defScope s_init) (.ref T_init) kV_init dc_init pm_init an_init cd_init ct_init), sl_init⟩)
    (d_init : K.lookup T_init = some ⟨ocT_init, odT_init, .seq #[.int 1 tk_init_0] nT_init, slT_init⟩)
    (c_init : PySem.W.codeIn K cd_init "Fraction.__init__" = true)
    (k_init : PySem.W.keepIn K (.ref f_init) = true)
    (a_eq : PySem.W.findIn K (.ref C) "__eq__" = some (some (.ref f_eq)))
    (i_eq : PySem.W.isFn K (.ref f_eq) = true)
    (l_eq : K.lookup f_eq = some ⟨oc_eq, od_eq, .func (PySem.W.fnOf "__eq__" "Fraction.__eq__" (defArgs s_eq) (defBody s_eq) (defScope s_eq) .none kV_eq dc_eq pm_eq an_eq cd_eq ct_eq), sl_eq⟩)
    (c_eq : PySem.W.codeIn K cd_eq "Fraction.__eq__" = true)
    (k_eq : PySem.W.keepIn K (.ref f_eq) = true)
    (a_ne : PySem.W.findIn K (.ref C) "__ne__" = some (some (.ref f_ne)))
    (i_ne : PySem.W.isFn K (.ref f_ne) = true)
    (l_ne : K.lookup f_ne = some ⟨oc_ne, od_ne, .func (PySem.W.fnOf "__ne__" "Fraction.__ne__" (defArgs s_ne) (defBody s_ne) (defScope s_ne) .none kV_ne dc_ne pm_ne an_ne cd_ne ct_ne), sl_ne⟩)
    (c_ne : PySem.W.codeIn K cd_ne "Fraction.__ne__" = true)
    (k_ne : PySem.W.keepIn K (.ref f_ne) = true)
    (a_asf : PySem.W.nsIn K mainGlobals "as_fraction" = some (some (.ref f_asf)))
    (l_asf : K.lookup f_asf = some ⟨oc_asf, od_asf, .func (PySem.W.fnOf "as_fraction" "as_fraction" (defArgs s_asf) (defBody s_asf) (defScope s_asf) .none kV_asf dc_asf pm_asf an_asf cd_asf ct_asf), sl_asf⟩)
    (c_asf : PySem.W.codeIn K cd_asf "as_fraction" = true)
    (k_asf : PySem.W.keepIn K (.ref f_asf) = true)
    (a_isn : PySem.W.nsIn K mainGlobals "_is_number" = some (some (.ref f_isn)))
    (l_isn : K.lookup f_isn = some ⟨oc_isn, od_isn, .func (PySem.W.fnOf "_is_number" "_is_number" (defArgs s_isn) (defBody s_isn) (defScope s_isn) .none kV_isn dc_isn pm_isn an_isn cd_isn ct_isn), sl_isn⟩)
    (c_isn : PySem.W.codeIn K cd_isn "_is_number" = true)
    (k_isn : PySem.W.keepIn K (.ref f_isn) = true)
    (a_ord : PySem.W.nsIn K mainGlobals "_order" = some (some (.ref f_ord)))
    (l_ord : K.lookup f_ord = some ⟨oc_ord, od_ord, .func (PySem.W.fnOf "_order" "_order" (defArgs s_ord) (defBody s_ord) (defScope s_ord) .none kV_ord dc_ord pm_ord an_ord cd_ord ct_ord), sl_ord⟩)
    (c_ord : PySem.W.codeIn K cd_ord "_order" = true)
    (k_ord : PySem.W.keepIn K (.ref f_ord) = true)
    (a_cell : PySem.W.nsIn K mainGlobals "_law_cell" = some (some (.ref f_cell)))
    (l_cell : K.lookup f_cell = some ⟨oc_cell, od_cell, .func (PySem.W.fnOf "_law_cell" "_law_cell" (defArgs s_cell) (defBody s_cell) (defScope s_cell) .none kV_cell dc_cell pm_cell an_cell cd_cell ct_cell), sl_cell⟩)
    (c_cell : PySem.W.codeIn K cd_cell "_law_cell" = true)
    (k_cell : PySem.W.keepIn K (.ref f_cell) = true)
    (a_size : PySem.W.nsIn K mainGlobals "_law_size" = some (some (.ref f_size)))
    (l_size : K.lookup f_size = some ⟨oc_size, od_size, .func (PySem.W.fnOf "_law_size" "_law_size" (defArgs s_size) (defBody s_size) (defScope s_size) .none kV_size dc_size pm_size an_size cd_size ct_size), sl_size⟩)
    (c_size : PySem.W.codeIn K cd_size "_law_size" = true)
    (k_size : PySem.W.keepIn K (.ref f_size) = true)
    (a_dv : PySem.W.nsIn K mainGlobals "_law_divisor" = some (some (.ref f_dv)))
    (l_dv : K.lookup f_dv = some ⟨oc_dv, od_dv, .func (PySem.W.fnOf "_law_divisor" "_law_divisor" (defArgs s_dv) (defBody s_dv) (defScope s_dv) .none kV_dv dc_dv pm_dv an_dv cd_dv ct_dv), sl_dv⟩)
    (c_dv : PySem.W.codeIn K cd_dv "_law_divisor" = true)
    (k_dv : PySem.W.keepIn K (.ref f_dv) = true)
    (a_intg : PySem.W.nsIn K mainGlobals "_law_integer" = some (some (.ref f_intg)))
    (l_intg : K.lookup f_intg = some ⟨oc_intg, od_intg, .func (PySem.W.fnOf "_law_integer" "_law_integer" (defArgs s_intg) (defBody s_intg) (defScope s_intg) .none kV_intg dc_intg pm_intg an_intg cd_intg ct_intg), sl_intg⟩)
    (c_intg : PySem.W.codeIn K cd_intg "_law_integer" = true)
    (k_intg : PySem.W.keepIn K (.ref f_intg) = true)
    (a_ref : PySem.W.nsIn K mainGlobals "_law_refused" = some (some (.ref f_ref)))
    (l_ref : K.lookup f_ref = some ⟨oc_ref, od_ref, .func (PySem.W.fnOf "_law_refused" "_law_refused" (defArgs s_ref) (defBody s_ref) (defScope s_ref) .none kV_ref dc_ref pm_ref an_ref cd_ref ct_ref), sl_ref⟩)
    (c_ref : PySem.W.codeIn K cd_ref "_law_refused" = true)
    (k_ref : PySem.W.keepIn K (.ref f_ref) = true)
    (a_law : PySem.W.nsIn K mainGlobals "law" = some (some (.ref f_law)))
    (l_law : K.lookup f_law = some ⟨oc_law, od_law, .func (PySem.W.fnOf "law" "law" (defArgs s_law) (defBody s_law) (defScope s_law) .none kV_law dc_law pm_law an_law cd_law ct_law), sl_law⟩)
    (c_law : PySem.W.codeIn K cd_law "law" = true)
    (k_law : PySem.W.keepIn K (.ref f_law) = true)
    (pg : PySem.W.plainGet K C Str.empty = true)
    (hd : PySem.W.hasDictIn K C = true)
    (po : PySem.W.plainOver K C = true)
    (sa : PySem.W.findIn K (.ref C) "__setattr__" = some (some (.builtin "object.__setattr__")))
    (mk : PySem.W.makesIn K C = true)
    (kc : PySem.W.keepIn K (.ref C) = true)
    (nT : PySem.W.findIn K (.ref C) "top" = some none)
    (nB : PySem.W.findIn K (.ref C) "bottom" = some none)
    (ca : PySem.W.findIn K (.ref C) "__class__" = some (some (.builtin "object.__class__")))
    (cn : PySem.W.specialIn K (.builtin "object.__class__") "__get__" = some (some (.builtin "getset_descriptor.__get__")))
    (ct : PySem.W.takesIn K (.builtin "object.__class__") = some true)
    (cm : PySem.W.mroIn K C (.type "object") = some true)
    (ic : PySem.W.isClsIn K C = true)
    (tyC : PySem.W.typeIn K (.ref C) = some (.type "type"))
    (sub1 : PySem.W.subIn K (.type "int") (.ref C) = some false)
    (sub2 : PySem.W.subIn K (.ref C) (.type "int") = some false)
    (gg : PySem.W.nsIn K mainGlobals "gcd" = some (some (.builtin "math.gcd")))
    (CB_exc : PySem.W.excIn K CB [.type "ValueError", .type "Exception", .type "BaseException", .type "object"] "ValueError.__new__" = true)
    (CB_kp : PySem.W.keepIn K (.ref CB) = true)
    (CB_be : PySem.W.subIn K (.ref CB) (.type "BaseException") = some true)
    (CB_ty : PySem.W.typeIn K (.ref CB) = some (.type "type"))
    (CB_hd : PySem.W.hasDictIn K CB = true)
    (CB_self : PySem.W.subIn K (.ref CB) (.ref CB) = some true)
    (x_ga : PySem.W.findIn K (.ref CB) "__getattribute__" = some (some (.builtin "BaseException.__getattribute__")))
    (x_gg : PySem.W.findIn K (.ref CB) "__getattr__" = some none)
    (x_be : PySem.W.subIn K (.ref CB) (.type "BaseException") = some true)
    (x_hd : PySem.W.hasDictIn K CB = true)
    (x_ca : PySem.W.findIn K (.ref CB) "__class__" = some (some (.builtin "object.__class__")))
    (x_cm : PySem.W.mroIn K CB (.type "object") = some true)
    (x_icT : PySem.W.isClsIn K TE = true)
    (x_tyT : PySem.W.typeIn K (.ref TE) = some (.type "type"))
    (x_sT : PySem.W.subIn K (.ref CB) (.ref TE) = some true)
    (x_sV : PySem.W.subIn K (.ref CB) (.type "ValueError") = some true)
    (x_ne : CB ≠ TE)
    (z_isinstance : PySem.W.nsIn K mainGlobals "isinstance" = some none)
    (z_int : PySem.W.nsIn K mainGlobals "int" = some none)
    (z_len : PySem.W.nsIn K mainGlobals "len" = some none)
    (z_abs : PySem.W.nsIn K mainGlobals "abs" = some none)
    (z_bool : PySem.W.nsIn K mainGlobals "bool" = some none)
    (z_ValueError : PySem.W.nsIn K mainGlobals "ValueError" = some none)
    : ∃ fd : FuncData, (∀ (s : Shared) (v : Value), BindsTo s fd ⟨[v], []⟩ [("_law_script", v)]) ∧ ∀ base : Heap, K.In base → base.Ns mainGlobals mg → FnOk l.prog w K mg base CX0 8 fa fd ["_law_script"] (spD K 1 R_law) := by
  have e := hfa.symm.trans (PySem.W.mg_of X G a_law)
  cases e
  have F_init : FunD K "__init__" "Fraction.__init__" (defArgs s_init) (defBody s_init) (defScope s_init) [V.int 1] [] f_init _ := ⟨⟨_, _, _, _, _, _, _, _, _, _, rfl, l_init, c_init, .inr ⟨(by simp), _, _, [.int 1 tk_init_0], _, rfl, d_init, rfl, (.cons ⟨_, rfl⟩ .nil)⟩, .inl rfl⟩, k_init⟩
  obtain ⟨du_init, hdu_init, b1_init⟩ := F_init.binds1 (ps := ["self", "top", "bottom"]) 2 0 (by simp) rfl fun _ _ _ _ _ _ _ us its hl hi => match us, its, hl, hi with | [_, _], [_], _, _ => ⟨_, rfl, rfl⟩
  obtain ⟨dz_init, hdz_init, b_init⟩ := F_init.binds1 (ps := ["self", "top", "bottom"]) 3 1 (by simp) rfl fun _ _ _ _ _ _ _ us its hl hi => match us, its, hl, hi with | [_, _, _], [_], _, _ => ⟨_, rfl, rfl⟩
  cases hdz_init
  have F_eq := fun_mk (st := s_eq) l_eq c_eq k_eq
  have b_eq := F_eq.binds (ps := ["self", "other"]) fun _ _ _ _ _ _ us hl => match us, hl with | [_, _], _ => rfl
  have F_ne := fun_mk (st := s_ne) l_ne c_ne k_ne
  have b_ne := F_ne.binds (ps := ["self", "other"]) fun _ _ _ _ _ _ us hl => match us, hl with | [_, _], _ => rfl
  have F_asf := fun_mk (st := s_asf) l_asf c_asf k_asf
  have b_asf := F_asf.binds (ps := ["number"]) fun _ _ _ _ _ _ us hl => match us, hl with | [_], _ => rfl
  have m_asf := PySem.W.mg_of X G a_asf
  have F_isn := fun_mk (st := s_isn) l_isn c_isn k_isn
  have b_isn := F_isn.binds (ps := ["thing"]) fun _ _ _ _ _ _ us hl => match us, hl with | [_], _ => rfl
  have m_isn := PySem.W.mg_of X G a_isn
  have F_ord := fun_mk (st := s_ord) l_ord c_ord k_ord
  have b_ord := F_ord.binds (ps := ["fraction", "number"]) fun _ _ _ _ _ _ us hl => match us, hl with | [_, _], _ => rfl
  have m_ord := PySem.W.mg_of X G a_ord
  have F_cell := fun_mk (st := s_cell) l_cell c_cell k_cell
  have b_cell := F_cell.binds (ps := ["_law_script", "_law_k"]) fun _ _ _ _ _ _ us hl => match us, hl with | [_, _], _ => rfl
  have m_cell := PySem.W.mg_of X G a_cell
  have F_size := fun_mk (st := s_size) l_size c_size k_size
  have b_size := F_size.binds (ps := ["_law_cell_here", "_law_choice"]) fun _ _ _ _ _ _ us hl => match us, hl with | [_, _], _ => rfl
  have m_size := PySem.W.mg_of X G a_size
  have F_dv := fun_mk (st := s_dv) l_dv c_dv k_dv
  have b_dv := F_dv.binds (ps := ["_law_first", "_law_second"]) fun _ _ _ _ _ _ us hl => match us, hl with | [_, _], _ => rfl
  have m_dv := PySem.W.mg_of X G a_dv
  have F_intg := fun_mk (st := s_intg) l_intg c_intg k_intg
  have b_intg := F_intg.binds (ps := ["_law_number"]) fun _ _ _ _ _ _ us hl => match us, hl with | [_], _ => rfl
  have m_intg := PySem.W.mg_of X G a_intg
  have F_ref := fun_mk (st := s_ref) l_ref c_ref k_ref
  have b_ref := F_ref.binds (ps := ["_law_number"]) fun _ _ _ _ _ _ us hl => match us, hl with | [_], _ => rfl
  have m_ref := PySem.W.mg_of X G a_ref
  have F_law := fun_mk (st := s_law) l_law c_law k_law
  have T : FrTxt K mg C := ⟨⟨pg, hd, po, sa⟩, nT, nB, PySem.W.mg_of X G aC, ca, cn, ct, cm, kit_self, kit_sub ic tyC sub1 (ty_ne _ _), sub1, sub2, PySem.W.mg_none_of X G z_isinstance, PySem.W.mg_none_of X G z_int, PySem.W.mg_of X G gg⟩
  have M : Mk K C f_init := ⟨mk, a_init, i_init, kc⟩
  have EB : ErT K mg "BadFraction" CB := ⟨PySem.W.mg_of X G aCB, CB_exc, CB_kp, CB_be, CB_ty, CB_hd, CB_self⟩
  obtain ⟨itk, bK⟩ := F_init.kbindsD (ps := ["self", "top", "bottom"]) 1 ["bottom", "top"] (fun us _ zs => match us, zs with | [x], [y, z] => [x, z, y] | _, _ => []) (by simp) (fun r1 _ r3 => by
    cases r1 with
    | nil => exact .nil
    | cons a r => cases r with
      | nil => cases r3 with
        | nil => exact .nil
        | cons b r => cases r with
          | nil => exact .nil
          | cons c r => cases r with
            | nil => exact .cons a (.cons c (.cons b .nil))
            | cons _ _ => exact .nil
      | cons _ _ => exact .nil) fun _ _ _ _ _ _ _ us its ws hl hi hw => match us, its, ws, hl, hi, hw with | [_], [_], [_, _], _, _, _ => ⟨_, rfl, rfl⟩
  refine ⟨PySem.W.fnOf "law" "law" (defArgs s_law) (defBody s_law) (defScope s_law) .none kV_law dc_law pm_law an_law cd_law ct_law, fun s v => .of_eq rfl, fun base _ _ => ?_⟩
  have GI : FnOk l.prog w K mg base CX0 1 f_init _ ["self", "top", "bottom"] (spInit C) := ok_init F_init T
  have GX : FnOk l.prog w K mg base (L2.CX l.prog w) 1 f_init _ ["self", "top", "bottom"] (spInitX C CB) := ok_initX F_init T EB
  have GN := ok_isn (P := l.prog) (w := w) (base := base) F_isn T
  have GA := ok_asf (P := l.prog) (w := w) (base := base) F_asf T M GI b1_init hdu_init
  have GO := ok_ord (P := l.prog) (w := w) (base := base) F_ord T GA m_asf k_asf b_asf
  have GE := ok_eq F_eq T GN m_isn k_isn b_isn GO m_ord k_ord b_ord
  have GNE := ok_ne F_ne T ⟨a_eq, i_eq⟩ GE b_eq
  have GC := ok_cell (P := l.prog) (w := w) (mg := mg) (base := base) F_cell (PySem.W.mg_none_of X G z_len)
  have GS := ok_size (P := l.prog) (w := w) (mg := mg) (base := base) F_size T.tInt
  have GD := ok_dv (P := l.prog) (w := w) (mg := mg) (base := base) F_dv (PySem.W.mg_none_of X G z_abs)
  have GG := ok_intg (P := l.prog) (w := w) (mg := mg) (base := base) F_intg T.isi T.tInt (PySem.W.mg_none_of X G z_bool)
  have GR := ok_ref (P := l.prog) (w := w) (base := base) F_ref T M GX b_init EB (PySem.W.mg_of X G aTE) (PySem.W.mg_none_of X G z_ValueError) ⟨x_ga, x_gg, x_be, x_hd, x_ca, cn, ct, x_cm⟩ (kit_sub x_icT x_tyT x_sT (rf_ne x_ne)) x_sV
  exact ok_law F_law T GC m_cell k_cell b_cell GS m_size k_size b_size GD m_dv k_dv b_dv GG m_intg k_intg b_intg GR m_ref k_ref b_ref M GI b_init b1_init hdu_init bK (fun _ _ _ => rfl) ⟨a_eq, i_eq⟩ GE b_eq ⟨a_ne, i_ne⟩ GNE b_ne
theorem walk {l : PySem.W.OpenLaw} {q : Program} {loose : List Str} {XP : (Str → Option Value) → Heap → Prop} {YP : World → Heap → Prop} {d : DefRec} {K : Params → PySem.W.Frag} (hn : l.most = some 63) (hdf : d.params.defaults = [])
    (hY : ∀ (w : World) (h : Heap), YP w h → (K w.params).In h)
    (F : ∀ (w : World) (mg : Str → Option Value) (fa : Addr) (h : Heap), (K w.params).In h → h.Ns mainGlobals mg → mg d.name = some (.ref fa) →
      ∃ fd : FuncData, (∀ (s : Shared) (u : Value), BindsTo s fd ⟨[u], []⟩ [("_law_script", u)]) ∧ ∀ base : Heap, (K w.params).In base → base.Ns mainGlobals mg → FnOk l.prog w (K w.params) mg base CX0 8 fa fd ["_law_script"] (spD (K w.params) 1 R_law)) :
    PySem.W.WalkO q loose XP YP l.row.toRowW d [] (fun f vs => PySem.call f vs) :=
  L2.walk_of (n := 63) (k := 8) (x := "_law_script") (CX := fun _ => CX0) (sp := fun w => spD (K w.params) 1 R_law) hn (by decide) hdf ⟨rfl, by decide, by decide⟩ hY F (fun _ _ a ns hl _ hS => sp_law hl hS fun _ => rfl) fun _ _ _ _ _ z => z
end Law

open PySem PySem.W PyProof.Rows in
set_option maxRecDepth 100000 in
set_option maxHeartbeats 0 in
theorem PySem.Challenge.cw_tracerline_k01_lowest_terms_holds : PySem.Challenge.rw_tracerline_k01_lowest_terms.Holds := by
  w_on; o_law; k_head; (case hw => w_witness2)
  k_fill
  refine Law.walk (l := PySem.Challenge.rw_tracerline_k01_lowest_terms) rfl rfl (fun w h Y => PySem.W.kIn_of Y) ?F
  case F =>
    intro w mg fa h KX G hmg
    refine' Law.all_mk KX G hmg ?aC ?aCB ?aTE ?a_init ?i_init ?l_init ?d_init ?c_init ?k_init ?a_eq ?i_eq ?l_eq ?c_eq ?k_eq ?a_ne ?i_ne ?l_ne ?c_ne ?k_ne ?a_asf ?l_asf ?c_asf ?k_asf ?a_isn ?l_isn ?c_isn ?k_isn ?a_ord ?l_ord ?c_ord ?k_ord ?a_cell ?l_cell ?c_cell ?k_cell ?a_size ?l_size ?c_size ?k_size ?a_dv ?l_dv ?c_dv ?k_dv ?a_intg ?l_intg ?c_intg ?k_intg ?a_ref ?l_ref ?c_ref ?k_ref ?a_law ?l_law ?c_law ?k_law ?pg ?hd ?po ?sa ?mk ?kc ?nT ?nB ?ca ?cn ?ct ?cm ?ic ?tyC ?sub1 ?sub2 ?gg ?CB_exc ?CB_kp ?CB_be ?CB_ty ?CB_hd ?CB_self ?x_ga ?x_gg ?x_be ?x_hd ?x_ca ?x_cm ?x_icT ?x_tyT ?x_sT ?x_sV ?x_ne ?z_isinstance ?z_int ?z_len ?z_abs ?z_bool ?z_ValueError
    (case aC => k_is)
    (case aCB => k_is)
    (case aTE => k_is)
    (case a_init => k_is)
    (case i_init => k_is)
    (case l_init => k_is)
    (case d_init => k_is)
    (case c_init => k_is)
    (case k_init => k_is)
    (case a_eq => k_is)
    (case i_eq => k_is)
    (case l_eq => k_is)
    (case c_eq => k_is)
    (case k_eq => k_is)
    (case a_ne => k_is)
    (case i_ne => k_is)
    (case l_ne => k_is)
    (case c_ne => k_is)
    (case k_ne => k_is)
    (case a_asf => k_is)
    (case l_asf => k_is)
    (case c_asf => k_is)
    (case k_asf => k_is)
    (case a_isn => k_is)
    (case l_isn => k_is)
    (case c_isn => k_is)
    (case k_isn => k_is)
    (case a_ord => k_is)
    (case l_ord => k_is)
    (case c_ord => k_is)
    (case k_ord => k_is)
    (case a_cell => k_is)
    (case l_cell => k_is)
    (case c_cell => k_is)
    (case k_cell => k_is)
    (case a_size => k_is)
    (case l_size => k_is)
    (case c_size => k_is)
    (case k_size => k_is)
    (case a_dv => k_is)
    (case l_dv => k_is)
    (case c_dv => k_is)
    (case k_dv => k_is)
    (case a_intg => k_is)
    (case l_intg => k_is)
    (case c_intg => k_is)
    (case k_intg => k_is)
    (case a_ref => k_is)
    (case l_ref => k_is)
    (case c_ref => k_is)
    (case k_ref => k_is)
    (case a_law => k_is)
    (case l_law => k_is)
    (case c_law => k_is)
    (case k_law => k_is)
    (case pg => k_is)
    (case hd => k_is)
    (case po => k_is)
    (case sa => k_is)
    (case mk => k_is)
    (case kc => k_is)
    (case nT => k_is)
    (case nB => k_is)
    (case ca => k_is)
    (case cn => k_is)
    (case ct => k_is)
    (case cm => k_is)
    (case ic => k_is)
    (case tyC => k_is)
    (case sub1 => k_is)
    (case sub2 => k_is)
    (case gg => k_is)
    (case CB_exc => k_exc)
    (case CB_kp => k_is)
    (case CB_be => k_is)
    (case CB_ty => k_is)
    (case CB_hd => k_is)
    (case CB_self => k_is)
    (case x_ga => k_is)
    (case x_gg => k_is)
    (case x_be => k_is)
    (case x_hd => k_is)
    (case x_ca => k_is)
    (case x_cm => k_is)
    (case x_icT => k_is)
    (case x_tyT => k_is)
    (case x_sT => k_is)
    (case x_sV => k_is)
    (case x_ne => decide)
    (case z_isinstance => k_is)
    (case z_int => k_is)
    (case z_len => k_is)
    (case z_abs => k_is)
    (case z_bool => k_is)
    (case z_ValueError => k_is)
