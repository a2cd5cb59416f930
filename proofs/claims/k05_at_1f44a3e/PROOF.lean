import PyProof.Rows.All
import Wide.All
import OpenK.AllK
import Wide.FinOn
import KE.KOpsOwn
import HandS.ForMost
import HandS.ForExc
import HandS.Evl
import HandS.IsInst
import HandS.Gcd
import HandS.Wide
import HandS.OwnEq
import HandS.SlotsOwn
import HandS.Defaults
import HandS.TryOnly
import HandS.ExcOwn
import HandS.ExcIs
import HandS.MakeKw
import HandS.MakeKwOnly
import HandS.ExcInit
import KE.KExcIs
import HandS.ExcField
import HandS.ExcValue
import HandS.HotCalls
import PyProof.StrOps2
import PySem.Challenge.RW_tracerline_k05_errors
set_option Elab.async false
set_option linter.all false
set_option maxRecDepth 100000
set_option maxHeartbeats 4000000
set_option exponentiation.threshold 10000
namespace Trk
open PySem PySem.W PySem.Calls PyProof.Rows
section
variable {prog : Program} {w : World} {A : Around} {E : Value → Shared → Prop} {s : Shared} {K : Frag} {x C dx L f : Addr} {h₀ : Heap} {m : Str → Option Value} {ox : Obj} {od : Option Obj} {n : Int} {t : Tok} {Q : Value → Shared → Prop}

section
variable {M : Model} {R : Fin → Shared → Prop} (ho : s.heap.get? x = some (instObj C dx)) (h : R (.done (.ret .notImplemented)) s)
include ho h
theorem add_no : wpAny M A (Builtin.«int.__add__» ⟨[.int n t, .ref x], []⟩) R E s := by
  obtain ⟨hp, g, d, tk, os⟩ := s
  wp_walk using wpAny_load ho
  exact h
theorem sub_no : wpAny M A (Builtin.«int.__sub__» ⟨[.int n t, .ref x], []⟩) R E s := by
  obtain ⟨hp, g, d, tk, os⟩ := s
  wp_walk using wpAny_load ho
  exact h
theorem mul_no : wpAny M A (Builtin.«int.__mul__» ⟨[.int n t, .ref x], []⟩) R E s := by
  obtain ⟨hp, g, d, tk, os⟩ := s
  wp_walk using wpAny_load ho
  exact h
theorem eq_no : wpAny M A (Builtin.«int.__eq__» ⟨[.int n t, .ref x], []⟩) R E s := by
  obtain ⟨hp, g, d, tk, os⟩ := s
  wp_walk using wpAny_load ho
  exact h
theorem ne_no : wpAny M A (Builtin.«int.__ne__» ⟨[.int n t, .ref x], []⟩) R E s := by
  obtain ⟨hp, g, d, tk, os⟩ := s
  wp_walk using wpAny_load ho
  exact h
theorem lt_no : wpAny M A (Builtin.«int.__lt__» ⟨[.int n t, .ref x], []⟩) R E s := by
  obtain ⟨hp, g, d, tk, os⟩ := s
  wp_walk using wpAny_load ho
  exact h
theorem le_no : wpAny M A (Builtin.«int.__le__» ⟨[.int n t, .ref x], []⟩) R E s := by
  obtain ⟨hp, g, d, tk, os⟩ := s
  wp_walk using wpAny_load ho
  exact h
theorem gt_no : wpAny M A (Builtin.«int.__gt__» ⟨[.int n t, .ref x], []⟩) R E s := by
  obtain ⟨hp, g, d, tk, os⟩ := s
  wp_walk using wpAny_load ho
  exact h
theorem ge_no : wpAny M A (Builtin.«int.__ge__» ⟨[.int n t, .ref x], []⟩) R E s := by
  obtain ⟨hp, g, d, tk, os⟩ := s
  wp_walk using wpAny_load ho
  exact h
end

/-- the slots of int that the four signs use -/
structure IntSlot (nm id : String) (B : Builtin) : Prop where
  slot : Slot "int" (PySem.dunder nm) id
  entry : entryFor table id = some B
  args : ∀ a b : Value, argsOk id ⟨[a, b], []⟩
  no : ∀ (M : Model) (A : Around) (E : Value → Shared → Prop) (s : Shared) (x C dx : Addr) (n : Int) (t : Tok) (R : Fin → Shared → Prop), s.heap.get? x = some (instObj C dx) → R (.done (.ret .notImplemented)) s → wpAny M A (B ⟨[.int n t, .ref x], []⟩) R E s
theorem sAdd : IntSlot "add" "int.__add__" Builtin.«int.__add__» := ⟨F.slot_int_add, F.entry_int_add, F.args_int_add_2, fun _ _ _ _ _ _ _ _ _ _ h q => add_no h q⟩
theorem sSub : IntSlot "sub" "int.__sub__" Builtin.«int.__sub__» := ⟨F.slot_int_sub, F.entry_int_sub, F.args_int_sub_2, fun _ _ _ _ _ _ _ _ _ _ h q => sub_no h q⟩
theorem sMul : IntSlot "mul" "int.__mul__" Builtin.«int.__mul__» := ⟨F.slot_int_mul, F.entry_int_mul, F.args_int_mul_2, fun _ _ _ _ _ _ _ _ _ _ h q => mul_no h q⟩

theorem int_try {nm id : String} {B : Builtin} {R : Option Value → Shared → Prop} (S : IntSlot nm id B) (ho : s.heap.get? x = some (instObj C dx)) (h : R none s) : wpAny (model prog w) A (tryMethod (.int n t) (PySem.dunder nm) (.ref x)) R E s :=
  wpAny_tryMethod_declines (typeIs_int s n t) S.slot (wpAny_call_entry S.slot (typeIs_int s n t) S.entry (S.no _ _ _ _ _ _ _ _ _ _ ho ⟨_, rfl, rfl, h⟩) (S.args _ _))

theorem rbinT {op : Operator} {id : String} {B : Builtin} {fo ro : Option Value} {g : Addr} (S : IntSlot op.info.2 id B) (F : Fr h₀ L s.heap m) (X₀ : K.In h₀) (I : InstAt s.heap x (instObj C dx) C od) (hc : selfFirst K C = true)
    (hs : findIn K (.ref C) (PySem.dunder op.info.2) = some (some (.ref g)))
    (hr : findIn K (.ref C) (dunderR op.info.2) = some (some (.ref f))) (hf : isFn K (.ref f) = true)
    (h1 : findIn K (.type "int") (PySem.dunder op.info.2) = some fo) (h2 : findIn K (.type "int") (dunderR op.info.2) = some ro) (hl : ((fo.isSome && !isSeqSlot fo) || (ro.isSome && !isSeqSlot ro)) = true)
    (hsub : subIn K (.ref C) (.type "int") = some false)
    (h : wpAny (model prog w) A (call (.ref f) [.ref x, .int n t]) (PySem.W.CmpBack Q) E s) : wpAny (model prog w) A (binaryOp op (.int n t) (.ref x)) Q E s := by
  have X := X₀.keeps F.keep
  obtain ⟨cd, rest, hcd, hm⟩ := ksp_first hc
  have two := ksp_try X I hr hf h
  have ho : s.heap.get? x = some (instObj C dx) := I.1
  rcases hi : op.info with ⟨sym, nm'⟩
  rw [hi] at hs hr h1 h2 S two
  dsimp only at hs hr h1 h2 S two
  obtain ⟨hh, gg, d, tt, os⟩ := s
  have L1 : Looks (model prog w) hh (typeOf (.ref x)) (.ref C) := I.type
  have L2 : Looks (model prog w) hh (typeOf (.int n t)) (.type "int") := Looks.of_pure rfl
  have L3 : Looks (model prog w) hh (fillsNumberSlot (.ref C) nm') true := fills_K X hcd hm hs
  have L4 : Looks (model prog w) hh (fillsNumberSlot (.type "int") nm') true := hl ▸ ksp_fillsT X h1 h2
  have L5 : Looks (model prog w) hh (isSubtype (.ref C) (.type "int")) false := looks_subIn X hsub
  have L7 : Looks (model prog w) hh (numberSlotInPython (.type "int") nm') false := Looks.of_pure rfl
  have hne : (Value.type "int" == Value.ref C) = false := Bool.eq_false_iff.mpr fun q => by cases beq_iff_eq.mp q
  simp only [binaryOp, hi]
  refine wpAny_holding (wpAny_bind ?_)
  unfold binaryOp1
  refine wpAny_bind (L2.at (wpAny_bind (L1.at (wpAny_bind (L4.at ?_)))))
  simp only [hne, Bool.false_eq_true, if_false]
  refine wpAny_bind (L3.at ?_)
  simp only [Bool.and_self, if_true]
  refine wpAny_bind (L5.at ?_)
  ksp_lk
  refine int_try S ho ?_
  ksp_lk
  refine wpAny_mono two (fun r s' hr' => ?_) fun _ _ e => e
  obtain ⟨v, rfl, hq⟩ := hr'
  ksp_lk
  exact hq

structure CmpSlot (op : CmpOp) (id : String) (B : Builtin) : Prop where
  slot : Slot "int" (cmpInfo op).2.1 id
  entry : entryFor table id = some B
  args : ∀ a b : Value, argsOk id ⟨[a, b], []⟩
  no : ∀ (M : Model) (A : Around) (E : Value → Shared → Prop) (s : Shared) (x C dx : Addr) (n : Int) (t : Tok) (R : Fin → Shared → Prop), s.heap.get? x = some (instObj C dx) → R (.done (.ret .notImplemented)) s → wpAny M A (B ⟨[.int n t, .ref x], []⟩) R E s
theorem cEq : CmpSlot .Eq "int.__eq__" Builtin.«int.__eq__» := ⟨F.slot_int_eq, F.entry_int_eq, F.args_int_eq_2, fun _ _ _ _ _ _ _ _ _ _ h q => eq_no h q⟩
theorem cNe : CmpSlot .NotEq "int.__ne__" Builtin.«int.__ne__» := ⟨F.slot_int_ne, F.entry_int_ne, F.args_int_ne_2, fun _ _ _ _ _ _ _ _ _ _ h q => ne_no h q⟩
theorem cLt : CmpSlot .Lt "int.__lt__" Builtin.«int.__lt__» := ⟨F.slot_int_lt, F.entry_int_lt, F.args_int_lt_2, fun _ _ _ _ _ _ _ _ _ _ h q => lt_no h q⟩
theorem cLe : CmpSlot .LtE "int.__le__" Builtin.«int.__le__» := ⟨F.slot_int_le, F.entry_int_le, F.args_int_le_2, fun _ _ _ _ _ _ _ _ _ _ h q => le_no h q⟩
theorem cGt : CmpSlot .Gt "int.__gt__" Builtin.«int.__gt__» := ⟨F.slot_int_gt, F.entry_int_gt, F.args_int_gt_2, fun _ _ _ _ _ _ _ _ _ _ h q => gt_no h q⟩
theorem cGe : CmpSlot .GtE "int.__ge__" Builtin.«int.__ge__» := ⟨F.slot_int_ge, F.entry_int_ge, F.args_int_ge_2, fun _ _ _ _ _ _ _ _ _ _ h q => ge_no h q⟩

theorem int_cmp {op : CmpOp} {id : String} {B : Builtin} {R : Option Value → Shared → Prop} (S : CmpSlot op id B) (ho : s.heap.get? x = some (instObj C dx)) (h : R none s) : wpAny (model prog w) A (tryCompare (.int n t) (cmpInfo op).2.1 (.ref x)) R E s :=
  wpAny_tryCompare_declines (typeIs_int s n t) S.slot (wpAny_call_entry S.slot (typeIs_int s n t) S.entry (S.no _ _ _ _ _ _ _ _ _ _ ho ⟨_, rfl, rfl, h⟩) (S.args _ _))

theorem rcmpT {op : CmpOp} {id : String} {B : Builtin} (S : CmpSlot op id B) (hu : A.units < cLine) (F : Fr h₀ L s.heap m) (X₀ : K.In h₀) (I : InstAt s.heap x (instObj C dx) C od)
    (hs : findIn K (.ref C) (cmpInfo op).2.2 = some (some (.ref f))) (hf : isFn K (.ref f) = true) (hsub : subIn K (.ref C) (.type "int") = some false)
    (h : wpAny (model prog w) A (call (.ref f) [.ref x, .int n t]) (PySem.W.CmpBack Q) E s) : wpAny (model prog w) A (richCompare op (.int n t) (.ref x)) Q E s := by
  have X := X₀.keeps F.keep
  have ho : s.heap.get? x = some (instObj C dx) := I.1
  have one : wpAny (model prog w) A (tryCompare (.ref x) (cmpInfo op).2.2 (.int n t)) (fun r s' => ∃ v, r = some v ∧ Q v s') E s := by
    unfold tryCompare
    refine wpAny_bind (ifBound_K X I hs hf (wpAny_mono h (fun v s' hv => ?_) fun _ _ e => e))
    cases v <;> first | exact hv.elim | exact wpAny_pure ⟨_, rfl, hv⟩
  have two := int_cmp (prog := prog) (w := w) (A := A) (E := E) (n := n) (t := t) (R := fun r s' => r = none ∧ s' = s) S ho ⟨rfl, rfl⟩
  have hne : (Value.type "int" != Value.ref C) = true := by
    have e : (Value.type "int" == Value.ref C) = false := Bool.eq_false_iff.mpr fun q => by cases beq_iff_eq.mp q
    show (!(Value.type "int" == Value.ref C)) = true
    rw [e]
    rfl
  have hob : oneThing? op (.int n t) (.ref x) = none := by rfl
  unfold richCompare
  simp only [hob]
  refine wpAny_holding (wpAny_bind (wpAny_cRoomFor hu ?_))
  refine wpAny_bind ((Looks.of_pure (M := model prog w) (h := s.heap) (t := typeOf (.int n t)) (r := .type "int") rfl).here (wpAny_bind (I.type.here ?_)))
  rw [if_pos hne]
  refine wpAny_bind ((looks_subIn X hsub).here ?_)
  simp only [Bool.false_eq_true, if_false]
  refine wpAny_bind (wpAny_mono two (fun r s' z => ?_) fun _ _ e => e)
  obtain ⟨rfl, rfl⟩ := z
  dsimp only
  simp only [Bool.not_false, if_true]
  refine wpAny_bind (wpAny_mono one (fun r s' z => ?_) fun _ _ e => e)
  obtain ⟨v, rfl, hq⟩ := z
  exact wpAny_pure hq
end
end Trk

namespace Trk
open PySem PySem.W PySem.Calls PyProof.Rows
section
variable {prog : Program} {w : World} {M : Model} {A : Around} {E : Value → Shared → Prop} {s : Shared} {K : Frag} {x C dx L f : Addr} {h₀ : Heap} {m : Str → Option Value} {ox : Obj} {od : Option Obj} {n : Int} {t : Tok} {b : Value}
/-- an own class right below object -/
def underObject (K : Frag) (C : Addr) : Bool := (clsIn K C).any fun cd => cd.mro == [.ref C, .type "object"]
theorem under_mro (h : underObject K C = true) : ∃ cd, clsIn K C = some cd ∧ cd.mro = [.ref C, .type "object"] := by
  unfold underObject at h
  cases q : clsIn K C with
  | none =>
    rw [q] at h
    cases h
  | some cd =>
    rw [q] at h
    exact ⟨cd, rfl, beq_iff_eq.mp h⟩
theorem no_inplace {nm : String} {add : Bool} {h : Heap} (X : K.In h) (hu : underObject K C = true) (h1 : findIn K (.ref C) (dunderI nm) = some none) (h2 : findIn K (.type "object") (dunderI nm) = some none) : Looks M h (fillsInplaceSlot (.ref C) nm add) false := by
  intro A Q E s k q
  obtain ⟨cd, hc, hm⟩ := under_mro hu
  have Lm : Looks M h (mroOf (.ref C)) cd.mro := (looks_clsIn X hc).andThen (f := fun cd => pure cd.mro) .now
  have Lm' := Lm.keeps k
  obtain ⟨hh, g, d, tt, os⟩ := s
  have X' : K.In hh := X.keeps k
  have L1 : Looks M hh (typeLookup (.ref C) (dunderI nm)) none := looks_findIn X' h1
  have L2 : Looks M hh (typeLookup (.type "object") (dunderI nm)) none := looks_findIn X' h2
  unfold fillsInplaceSlot
  refine wpAny_bind (Lm'.at ?_)
  rw [hm, List.anyM_cons]
  refine wpAny_bind ?_
  refine wpAny_bind (L1.at ?_)
  refine wpAny_pure ?_
  simp only [Bool.false_eq_true, if_false]
  rw [List.anyM_cons]
  refine wpAny_bind ?_
  refine wpAny_bind (L2.at ?_)
  refine wpAny_pure ?_
  simp only [Bool.false_eq_true, if_false, List.anyM_nil]
  exact wpAny_pure q
/-- what the one turn of a sign gives, both of the class -/
theorem bin1_own {nm : String} {Q : Option Value → Shared → Prop} (F : Fr h₀ L s.heap m) (X₀ : K.In h₀) (I : InstAt s.heap x ox C od) (hb : Looks (model prog w) s.heap (typeOf b) (.ref C)) (hc : selfFirst K C = true)
    (hs : findIn K (.ref C) (PySem.dunder nm) = some (some (.ref f))) (hf : isFn K (.ref f) = true)
    (h : wpAny (model prog w) A (call (.ref f) [.ref x, b]) (PySem.W.CmpBack fun v => Q (some v)) E s) : wpAny (model prog w) A (binaryOp1 nm (.ref x) b) Q E s := by
  have X := X₀.keeps F.keep
  obtain ⟨cd, rest, hcd, hm⟩ := ksp_first hc
  have one := ksp_try X I hs hf h
  obtain ⟨hh, gg, d, tt, os⟩ := s
  have L1 : Looks (model prog w) hh (typeOf (.ref x)) (.ref C) := I.type
  have L3 : Looks (model prog w) hh (fillsNumberSlot (.ref C) nm) true := fills_K X hcd hm hs
  unfold binaryOp1
  refine wpAny_bind (L1.at (wpAny_bind (hb.at (wpAny_bind (L3.at ?_)))))
  simp only [beq_self_eq_true, if_true]
  ksp_lk
  refine wpAny_mono one (fun r s' hr' => ?_) fun _ _ e => e
  obtain ⟨v, rfl, hq⟩ := hr'
  ksp_lk
  exact hq
theorem bin1_int {nm : String} {fo ro rc : Option Value} {Q : Option Value → Shared → Prop} (F : Fr h₀ L s.heap m) (X₀ : K.In h₀) (I : InstAt s.heap x ox C od) (hc : selfFirst K C = true)
    (hs : findIn K (.ref C) (PySem.dunder nm) = some (some (.ref f))) (hf : isFn K (.ref f) = true) (hr : findIn K (.ref C) (dunderR nm) = some rc) (hp : rc = none ∨ ∃ g : Addr, rc = some (.ref g))
    (h1 : findIn K (.type "int") (PySem.dunder nm) = some fo) (h2 : findIn K (.type "int") (dunderR nm) = some ro) (hsub : subIn K (.type "int") (.ref C) = some false)
    (h : wpAny (model prog w) A (call (.ref f) [.ref x, .int n t]) (PySem.W.CmpBack fun v => Q (some v)) E s) : wpAny (model prog w) A (binaryOp1 nm (.ref x) (.int n t)) Q E s := by
  have X := X₀.keeps F.keep
  obtain ⟨cd, rest, hcd, hm⟩ := ksp_first hc
  have one := ksp_try X I hs hf h
  obtain ⟨hh, gg, d, tt, os⟩ := s
  have L1 : Looks (model prog w) hh (typeOf (.ref x)) (.ref C) := I.type
  have L2 : Looks (model prog w) hh (typeOf (.int n t)) (.type "int") := Looks.of_pure rfl
  have L3 : Looks (model prog w) hh (fillsNumberSlot (.ref C) nm) true := fills_K X hcd hm hs
  have L4 : Looks (model prog w) hh (fillsNumberSlot (.type "int") nm) ((fo.isSome && !isSeqSlot fo) || (ro.isSome && !isSeqSlot ro)) := ksp_fillsT X h1 h2
  have L5 : Looks (model prog w) hh (isSubtype (.type "int") (.ref C)) false := looks_subIn X hsub
  have L6 : Looks (model prog w) hh (numberSlotInPython (.ref C) nm) true := ksp_inPy X hs hr hp
  have L7 : Looks (model prog w) hh (numberSlotInPython (.type "int") nm) false := Looks.of_pure rfl
  have L8 : Looks (model prog w) hh (typeLookup (.type "int") (dunderR nm)) ro := looks_findIn X h2
  generalize ((fo.isSome && !isSeqSlot fo) || (ro.isSome && !isSeqSlot ro)) = right at L4
  have hne : (Value.ref C == Value.type "int") = false := Bool.eq_false_iff.mpr fun q => by cases beq_iff_eq.mp q
  unfold binaryOp1
  refine wpAny_bind (L1.at (wpAny_bind (L2.at (wpAny_bind (L3.at ?_)))))
  simp only [hne, Bool.false_eq_true, if_false]
  cases right <;>
  · ksp_lk
    refine wpAny_mono one (fun r s' hr' => ?_) fun _ _ e => e
    obtain ⟨v, rfl, hq⟩ := hr'
    ksp_lk
    exact hq
/-- x op= b without an __i..__ -/
theorem inplace_by {op : Operator} {Q : Value → Shared → Prop} (X : K.In s.heap) (I : InstAt s.heap x ox C od) (hu : underObject K C = true) (h1 : findIn K (.ref C) (dunderI op.info.2) = some none) (h2 : findIn K (.type "object") (dunderI op.info.2) = some none)
    (h : wpAny (model prog w) A (binaryOp1 op.info.2 (.ref x) b) (fun r s' => ∃ v, r = some v ∧ Q v s') E s) : wpAny (model prog w) A (inplaceOp op (.ref x) b) Q E s := by
  obtain ⟨hh, g, d, tt, os⟩ := s
  have L1 : Looks (model prog w) hh (typeOf (.ref x)) (.ref C) := I.type
  have L2 : Looks (model prog w) hh (fillsInplaceSlot (.ref C) op.info.2 (op == .Add)) false := no_inplace X hu h1 h2
  unfold inplaceOp
  refine wpAny_holding ?_
  refine wpAny_bind (L1.at (wpAny_bind (L2.at ?_)))
  simp only [Bool.false_eq_true, if_false]
  refine wpAny_bind (wpAny_mono h (fun r s' hr => ?_) fun _ _ e => e)
  obtain ⟨v, rfl, hq⟩ := hr
  exact wpAny_pure hq
/-- abs(x) by an own __abs__ -/
theorem abs_own {Q : Value → Shared → Prop} (X : K.In s.heap) (I : InstAt s.heap x ox C od) (hs : findIn K (.ref C) "__abs__" = some (some (.ref f))) (hf : isFn K (.ref f) = true)
    (h : wpAny (model prog w) A.in1 (call (.ref f) [.ref x]) Q E s) : wpAny (model prog w) A (call (.builtin "abs") [.ref x]) Q E s := by
  refine Calls.call_function_entry PyProof.Rows.kind_abs PyProof.Rows.plain_abs PyProof.Rows.entry_abs (PyProof.Rows.args_abs _) ?_
  unfold Builtin.«abs»
  refine wpAny_bind (m := oneArg "abs" ⟨[.ref x], []⟩) (wpAny_pure ?_)
  exact wpAny_bind (special_fn X I hs (beq_iff_eq.mp hf) (wpAny_mono h (fun r s' hr => wpAny_pure ⟨_, rfl, hr⟩) fun _ _ y => y))
/-- bool(x) by an own __bool__ -/
theorem bool_own {Q : Value → Shared → Prop} (F : Fr h₀ L s.heap m) (X₀ : K.In h₀) (I : InstAt s.heap x ox C od) (hs : findIn K (.ref C) "__bool__" = some (some (.ref f))) (hf : isFn K (.ref f) = true)
    (h : wpAny (model prog w) A.in1.in1 (call (.ref f) [.ref x]) (PySem.W.BoolBack fun b s' => Q (.bool b) s') E s) : wpAny (model prog w) A (call (.type "bool") [.ref x]) Q E s := by
  have tr := truthy_K (M := model prog w) (Q := fun b s' => Q (.bool b) s') F X₀ I hs hf h
  refine callType_codes (T := "bool") (Bi := Builtin.«object.__init__») (Q₁ := fun r s₁ => ∃ b, r = Value.bool b ∧ Q r s₁) PySem.F.called_bool (PySem.F.typeCall_bool_1 _) PySem.F.entry_object_init ?_ ?_
  · refine codeAny_of_tree ?_
    show wpAny _ A.in1.in1 (do checkBuiltinCall "bool.__new__" ⟨[.type "bool", .ref x], []⟩; again (.builtin "bool.__new__" ⟨[.type "bool", .ref x], []⟩)) _ _ s
    refine wpAny_bind (wpAny_of_eq (PySem.F.newCall_bool_1 _) (wpAny_pure ⟨plainId_quiet (by decide +kernel) _, codeAny_builtin PySem.F.entry_bool_new ?_⟩))
    rw [Around.under_plainId (by decide +kernel) _]
    unfold Builtin.«bool.__new__»
    have f1 := PySem.F.conv_sub_bool
    obtain ⟨hp, g, d, tk, os⟩ := s
    repeat (any_goals (first | assumption | (with_reducible refine wpAny_mono tr (fun b s' hb => ?_) fun _ _ e => e) | wp_step))
    exact ⟨_, rfl, hb⟩
  · rintro obj s₁ ⟨b, rfl, hq⟩
    exact ⟨PySem.typeIs_bool _ _, PySem.F.args_object_init_2 _ _, object_init_meets PySem.F.called_bool.init.lookup PySem.F.called_bool.made (by decide) prog w A.in1 _ s₁ ⟨PySem.typeIs_bool _ _, rfl, hq⟩⟩
end
end Trk

namespace Trk
open PySem L2 Evl

/-! ### what a value is, whatever its address -/
inductive D where
  | v (x : V)
  | obj (C : Addr) (fs : List (Str × D))
  | lst (xs : List D)
  | tup (xs : List D)
  | exc (C : Addr) (fs : List (Str × D))
  | ced (a : Addr) (d : Option Addr) (fs : List (Str × D))
/-- at a stands an exception of the class C with the dict d -/
def IsX (a C : Addr) (d : Option Addr) (o : HO) : Prop := ∀ (P : Program) (w : World) (H : Hp) (h : Heap), ObjOk P w H h a o → ∃ (oe : Obj) (vs : Array Value), h.get? a = some oe ∧ Zc (.ref C) d oe ∧ oe.data = .fields vs
mutual
def Den (K : PySem.W.Frag) (H : Hp) : D → V → Prop
  | .v x, y => y = x
  | .obj C fs, y => ∃ a dx gs, y = .ref a ∧ H a = some (.ins C dx gs) ∧ DenF K H fs gs
  | .lst xs, y => ∃ a ys, y = .ref a ∧ SqL K H a ys ∧ DenL K H xs ys
  | .tup xs, y => ∃ a ys, y = .ref a ∧ SqT K H a ys ∧ DenL K H xs ys
  | .exc C fs, y => ∃ a o, y = .ref a ∧ H a = some o ∧ ((fs = [] ∧ IsX a C none o) ∨ ∃ dd gs, fs ≠ [] ∧ IsX a C (some dd) o ∧ H dd = some (exd dd gs) ∧ DenF K H fs gs)
  | .ced a d fs, y => y = .ref a ∧ ((fs = [] ∧ d = none) ∨ ∃ dd gs, fs ≠ [] ∧ d = some dd ∧ H dd = some (.xd gs) ∧ DenF K H fs gs)
def DenL (K : PySem.W.Frag) (H : Hp) : List D → List V → Prop
  | [], ys => ys = []
  | x :: xs, ys => ∃ z zs, ys = z :: zs ∧ Den K H x z ∧ DenL K H xs zs
def DenF (K : PySem.W.Frag) (H : Hp) : List (Str × D) → List (Str × V) → Prop
  | [], ys => ys = []
  | (f, x) :: xs, ys => ∃ z zs, ys = (f, z) :: zs ∧ Den K H x z ∧ DenF K H xs zs
end
section
variable {K : PySem.W.Frag} {H H' : Hp}
mutual
theorem Den.mono (e : Ex H H') : ∀ {d : D} {y : V}, Den K H d y → Den K H' d y
  | .v x, y, h => by
    simp only [Den] at h ⊢
    exact h
  | .obj C fs, y, h => by
    simp only [Den] at h ⊢
    obtain ⟨a, dx, gs, h1, h2, h3⟩ := h
    exact ⟨a, dx, gs, h1, e _ _ h2, DenF.mono e h3⟩
  | .lst xs, y, h => by
    simp only [Den] at h ⊢
    obtain ⟨a, ys, h1, h2, h3⟩ := h
    exact ⟨a, ys, h1, ex_l e h2, DenL.mono e h3⟩
  | .tup xs, y, h => by
    simp only [Den] at h ⊢
    obtain ⟨a, ys, h1, h2, h3⟩ := h
    exact ⟨a, ys, h1, ex_t e h2, DenL.mono e h3⟩
  | .exc C fs, y, h => by
    simp only [Den] at h ⊢
    obtain ⟨a, o, h1, h2, h3⟩ := h
    refine ⟨a, o, h1, e _ _ h2, ?_⟩
    rcases h3 with h3 | ⟨dd, gs, h4, h5, h6, h7⟩
    · exact .inl h3
    · exact .inr ⟨dd, gs, h4, h5, e _ _ h6, DenF.mono e h7⟩
  | .ced a d fs, y, h => by
    simp only [Den] at h ⊢
    obtain ⟨h1, h3⟩ := h
    refine ⟨h1, ?_⟩
    rcases h3 with h3 | ⟨dd, gs, h4, h5, h6, h7⟩
    · exact .inl h3
    · exact .inr ⟨dd, gs, h4, h5, e _ _ h6, DenF.mono e h7⟩
theorem DenL.mono (e : Ex H H') : ∀ {ds : List D} {ys : List V}, DenL K H ds ys → DenL K H' ds ys
  | [], ys, h => by
    simp only [DenL] at h ⊢
    exact h
  | x :: xs, ys, h => by
    simp only [DenL] at h ⊢
    obtain ⟨z, zs, h1, h2, h3⟩ := h
    exact ⟨z, zs, h1, Den.mono e h2, DenL.mono e h3⟩
theorem DenF.mono (e : Ex H H') : ∀ {ds : List (Str × D)} {ys : List (Str × V)}, DenF K H ds ys → DenF K H' ds ys
  | [], ys, h => by
    simp only [DenF] at h ⊢
    exact h
  | (f, x) :: xs, ys, h => by
    simp only [DenF] at h ⊢
    obtain ⟨z, zs, h1, h2, h3⟩ := h
    exact ⟨z, zs, h1, Den.mono e h2, DenF.mono e h3⟩
end
theorem den_v {x y : V} : Den K H (.v x) y ↔ y = x := by simp only [Den]
theorem DenL.cons {d : D} {ds : List D} {x : V} {xs : List V} (h : Den K H d x) (t : DenL K H ds xs) : DenL K H (d :: ds) (x :: xs) := by
  simp only [DenL]
  exact ⟨x, xs, rfl, h, t⟩
theorem DenL.nil : DenL K H [] [] := by simp only [DenL]
theorem DenL.len : ∀ {ds : List D} {ys : List V}, DenL K H ds ys → ds.length = ys.length
  | [], ys, h => by
    simp only [DenL] at h
    subst h
    rfl
  | x :: xs, ys, h => by
    simp only [DenL] at h
    obtain ⟨z, zs, h1, h2, h3⟩ := h
    rw [h1, List.length_cons, List.length_cons, DenL.len h3]
theorem DenL.get : ∀ {ds : List D} {ys : List V} {i : Nat} {d : D}, DenL K H ds ys → ds[i]? = some d → ∃ y, ys[i]? = some y ∧ Den K H d y
  | [], ys, i, d, h, e => by simp at e
  | x :: xs, ys, 0, d, h, e => by
    simp only [DenL] at h
    obtain ⟨z, zs, h1, h2, h3⟩ := h
    subst h1
    simp at e
    subst e
    exact ⟨z, by simp, h2⟩
  | x :: xs, ys, i + 1, d, h, e => by
    simp only [DenL] at h
    obtain ⟨z, zs, h1, h2, h3⟩ := h
    subst h1
    obtain ⟨y, h4, h5⟩ := DenL.get (i := i) (d := d) h3 (by simpa using e)
    exact ⟨y, by simpa using h4, h5⟩
theorem denL_two {d e : D} {ys : List V} (h : DenL K H [d, e] ys) : ∃ x y, ys = [x, y] ∧ Den K H d x ∧ Den K H e y := by
  simp only [DenL] at h
  obtain ⟨x, _, rfl, h1, y, _, rfl, h2, rfl⟩ := h
  exact ⟨x, y, rfl, h1, h2⟩
theorem denL_one {d : D} {ys : List V} (h : DenL K H [d] ys) : ∃ x, ys = [x] ∧ Den K H d x := by
  simp only [DenL] at h
  obtain ⟨x, _, rfl, h1, rfl⟩ := h
  exact ⟨x, rfl, h1⟩
end

/-! ### slots -/
abbrev Gm := List (Option D)
def Ctx (K : PySem.W.Frag) (H : Hp) (Γ : Gm) (σ : L2.St) : Prop := ∀ (i : Nat) (d : D), Γ[i]? = some (some d) → ∃ v, σ[i]? = some (some v) ∧ Den K H d v
theorem Ctx.mono {K : PySem.W.Frag} {H H' : Hp} {Γ : Gm} {σ : L2.St} (e : Ex H H') (c : Ctx K H Γ σ) : Ctx K H' Γ σ := fun i d h => by
  obtain ⟨v, h1, h2⟩ := c i d h
  exact ⟨v, h1, h2.mono e⟩
theorem Ctx.set {K : PySem.W.Frag} {H : Hp} {Γ : Gm} {σ : L2.St} {i : Nat} {d : D} {v : V} (c : Ctx K H Γ σ) (hi : i < σ.length) (h : Den K H d v) : Ctx K H (Γ.set i (some d)) (σ.set i (some v)) := fun j d' e => by
  by_cases hj : i = j
  · subst hj
    rw [List.getElem?_set] at e
    simp only [if_true] at e
    split at e
    · cases Option.some.inj (Option.some.inj e)
      exact ⟨v, List.getElem?_set_self hi, h⟩
    · cases e
  · rw [List.getElem?_set_ne hj] at e
    obtain ⟨w, h1, h2⟩ := c j d' e
    exact ⟨w, by rw [List.getElem?_set_ne hj]; exact h1, h2⟩

/-! ### the judgements -/
section
variable (X : Cx)
def ED (e : Expr) (Γ : Gm) (d : D) : Prop := ∃ t, PE X e t ∧ ∀ σ H, Ctx X.K H Γ σ → ∀ Q : VK, (∀ v H', Ex H H' → Den X.K H' d v → Q v H') → t σ H Q
def TD (e : Expr) (Γ : Gm) (b : Bool) : Prop := ∃ t, PT X e t ∧ ∀ σ H, Ctx X.K H Γ σ → ∀ Q : Bool → Hp → Prop, (∀ H', Ex H H' → Q b H') → t σ H Q
def WD (e : Expr) (Γ : Gm) (b : Bool) : Prop := ∃ t, PW X e t ∧ ∀ σ H, Ctx X.K H Γ σ → ∀ Q : Bool → Hp → Prop, (∀ H', Ex H H' → Q b H') → t σ H Q
def AD (es : List Expr) (Γ : Gm) (ds : List D) : Prop := ∃ t, PA X es t ∧ ∀ σ H, Ctx X.K H Γ σ → ∀ Q : List V → Hp → Prop, (∀ vs H', Ex H H' → DenL X.K H' ds vs → Q vs H') → t σ H Q
end
inductive Out where
  | nx (Γ : Gm)
  | rt (d : D)
  | bk (Γ : Gm)
  | ct (Γ : Gm)
  | ex (cls : Value) (fs : List (Str × D)) (Γ : Gm)
/-- what X takes of an exception -/
def W0 (X : Cx) : WX := fun cls d σ H => ∀ u s', XE X (fun c d' σ' H' => c = cls ∧ d' = d ∧ σ' = σ ∧ H' = H) u s' → X.xe u s'
theorem tk0 {X : Cx} : L2.Takes X (W0 X) := fun u s' ⟨a, B, sI, pins, σ, H, cls, d, e, I, nb, up, sky, na, os, ag, w⟩ => w u s' ⟨a, B, sI, pins, σ, H, cls, d, e, I, nb, up, sky, na, os, ag, rfl, rfl, rfl, rfl⟩
theorem w0_of {X : Cx} {W : WX} {cls : Value} {d : Option Addr} {σ : L2.St} {H : Hp} (tk : L2.Takes X W) (h : W cls d σ H) : W0 X cls d σ H := fun u s' ⟨a, B, sI, pins, σ', H', cls', d', e, I, nb, up, sky, na, os, ag, h1, h2, h3, h4⟩ => by
  subst h1; subst h2; subst h3; subst h4
  exact tk u s' ⟨a, B, sI, pins, _, _, _, _, e, I, nb, up, sky, na, os, ag, h⟩
/-- what the exception bears -/
def DenX (K : PySem.W.Frag) (H : Hp) (d : Option Addr) (fs : List (Str × D)) : Prop := (fs = [] ∧ d = none) ∨ ∃ dd gs, fs ≠ [] ∧ d = some dd ∧ H dd = some (.xd gs) ∧ DenF K H fs gs
theorem DenX.mono {K : PySem.W.Frag} {H H' : Hp} {d : Option Addr} {fs : List (Str × D)} (e : Ex H H') (h : DenX K H d fs) : DenX K H' d fs := by
  rcases h with h | ⟨dd, gs, h0, h1, h2, h3⟩
  · exact .inl h
  · exact .inr ⟨dd, gs, h0, h1, e _ _ h2, h3.mono e⟩
/-- where the ends take what Φ says -/
structure Tk (X : Cx) (H : Hp) (Φ : Out → Prop) (E : Ends) : Prop where
  nx : ∀ Γ σ H', Φ (.nx Γ) → Ex H H' → σ.length = X.N.length → Ctx X.K H' Γ σ → E.nx σ H'
  rt : ∀ d v H', Φ (.rt d) → Ex H H' → Den X.K H' d v → E.rt v H'
  bk : ∀ Γ σ H', Φ (.bk Γ) → Ex H H' → σ.length = X.N.length → Ctx X.K H' Γ σ → E.bk σ H'
  ct : ∀ Γ σ H', Φ (.ct Γ) → Ex H H' → σ.length = X.N.length → Ctx X.K H' Γ σ → E.ct σ H'
  ex : ∀ cls fs Γ d σ H', Φ (.ex cls fs Γ) → Ex H H' → σ.length = X.N.length → Ctx X.K H' Γ σ → DenX X.K H' d fs → W0 X cls d σ H'
theorem Tk.mono {X : Cx} {H H' : Hp} {Φ : Out → Prop} {E : Ends} (e : Ex H H') (t : Tk X H Φ E) : Tk X H' Φ E :=
  ⟨fun Γ σ H2 h e2 => t.nx Γ σ H2 h (e.trans e2), fun d v H2 h e2 => t.rt d v H2 h (e.trans e2), fun Γ σ H2 h e2 => t.bk Γ σ H2 h (e.trans e2), fun Γ σ H2 h e2 => t.ct Γ σ H2 h (e.trans e2), fun c fs Γ d σ H2 h e2 => t.ex c fs Γ d σ H2 h (e.trans e2)⟩
section
variable (X : Cx)
def SD (st : Stmt) (Γ : Gm) (Φ : Out → Prop) : Prop := ∃ t, PS X st t ∧ ∀ σ H, σ.length = X.N.length → Ctx X.K H Γ σ → ∀ E : Ends, Tk X H Φ E → t E σ H
def SsD (st : List Stmt) (Γ : Gm) (Φ : Out → Prop) : Prop := ∃ t, PSs X st t ∧ ∀ σ H, σ.length = X.N.length → Ctx X.K H Γ σ → ∀ E : Ends, Tk X H Φ E → t E σ H
end

section
variable {X : Cx} {Γ : Gm} {d d1 d2 : D} {e a b c : Expr} {es : List Expr} {pos : Pos} {st : Stmt} {sts rest : List Stmt} {Φ Ψ : Out → Prop}

/-! ### expressions -/
theorem ed_var (i : Nat) {x : Str} (h : Γ[i]? = some (some d)) (hN : X.N[i]? = some x := by rfl) (hv : Vis X.env.scope x := by first | exact Or.inl rfl | exact Or.inr (Or.inl rfl) | exact Or.inr (Or.inr rfl)) (hd : (x == ("__debug__" : Str)) = false := by decide)
    (hcd : (x == ("__classdict__" : Str)) = false := by decide) : ED X (.Name x pos) Γ d := by
  refine ⟨_, pe_var hN hv hd hcd, fun σ H C Q q => ?_⟩
  obtain ⟨v, h1, h2⟩ := C i d h
  exact ⟨v, h1, q v H (Ex.refl H) h2⟩
theorem ed_int {n : Int} {j : Nat} : ED X (.Constant (.int n) j pos) Γ (.v (.int n)) := ⟨_, pe_int, fun σ H C Q q => q _ H (Ex.refl H) (den_v.mpr rfl)⟩
theorem ed_bl {n : Bool} {j : Nat} : ED X (.Constant (.bool n) j pos) Γ (.v (.bl n)) := ⟨_, pe_bl, fun σ H C Q q => q _ H (Ex.refl H) (den_v.mpr rfl)⟩
theorem ed_non {j : Nat} : ED X (.Constant .none j pos) Γ (.v .non) := ⟨_, pe_non, fun σ H C Q q => q _ H (Ex.refl H) (den_v.mpr rfl)⟩
theorem ed_str {x : Str} {j : Nat} : ED X (.Constant (.str x) j pos) Γ (.v (.str x)) := ⟨_, pe_str, fun σ H C Q q => q _ H (Ex.refl H) (den_v.mpr rfl)⟩
theorem ed_is (h : ED X e Γ d1) (q : d1 = d) : ED X e Γ d := q ▸ h

/-- what an operation by values gives -/
def RD (K : PySem.W.Frag) (r : R2) (d1 d2 d : D) : Prop := ∀ x y H, Den K H d1 x → Den K H d2 y → ∀ Q : VK, (∀ v H', Ex H H' → Den K H' d v → Q v H') → r x y H Q
def UD (K : PySem.W.Frag) (r : V → Hp → VK → Prop) (d1 d : D) : Prop := ∀ x H, Den K H d1 x → ∀ Q : VK, (∀ v H', Ex H H' → Den K H' d v → Q v H') → r x H Q
def CD (K : PySem.W.Frag) (r : List V → Hp → VK → Prop) (ds : List D) (d : D) : Prop := ∀ xs H, DenL K H ds xs → ∀ Q : VK, (∀ v H', Ex H H' → Den K H' d v → Q v H') → r xs H Q
theorem ed_op {op : Operator} {r : R2} (ho : OpR X (binaryOp op) r) (ha : ED X a Γ d1) (hb : ED X b Γ d2) (hr : RD X.K r d1 d2 d) : ED X (.BinOp a op b pos) Γ d := by
  obtain ⟨ta, pa, qa⟩ := ha
  obtain ⟨tb, pb, qb⟩ := hb
  refine ⟨_, pe_op ho pa pb, fun σ H C Q q => qa σ H C _ fun x H1 e1 h1 => qb σ H1 (C.mono e1) _ fun y H2 e2 h2 => hr x y H2 (h1.mono e2) h2 _ fun v H3 e3 h3 => q v H3 ((e1.trans e2).trans e3) h3⟩
theorem ed_cmp {op : CmpOp} {r : R2} (ho : OpR X (compareOp op) r) (ha : ED X a Γ d1) (hb : ED X b Γ d2) (hr : RD X.K r d1 d2 d) (hm : behindInMarks op b = false := by exact nomark _) : ED X (.Compare a [op] [b] pos) Γ d := by
  obtain ⟨ta, pa, qa⟩ := ha
  obtain ⟨tb, pb, qb⟩ := hb
  refine ⟨_, pe_cmpR ho pa pb hm, fun σ H C Q q => qa σ H C _ fun x H1 e1 h1 => qb σ H1 (C.mono e1) _ fun y H2 e2 h2 => hr x y H2 (h1.mono e2) h2 _ fun v H3 e3 h3 => q v H3 ((e1.trans e2).trans e3) h3⟩
theorem td_cmp {op : CmpOp} {r : R2} {k : Bool} (ho : OpR X (compareOp op) r) (ha : ED X a Γ d1) (hb : ED X b Γ d2) (hr : RD X.K r d1 d2 (.v (.bl k))) (hm : behindInMarks op b = false := by exact nomark _) : TD X (.Compare a [op] [b] pos) Γ k := by
  obtain ⟨ta, pa, qa⟩ := ha
  obtain ⟨tb, pb, qb⟩ := hb
  refine ⟨_, pt_cmpR ho pa pb hm, fun σ H C Q q => qa σ H C _ fun x H1 e1 h1 => qb σ H1 (C.mono e1) _ fun y H2 e2 h2 => hr x y H2 (h1.mono e2) h2 _ fun v H3 e3 h3 => ⟨k, den_v.mp h3, q H3 ((e1.trans e2).trans e3)⟩⟩
theorem ed_un {op : UnaryOp} {r : V → Hp → VK → Prop} (ho : UnR X (unaryOp op) r) (ha : ED X a Γ d1) (hr : UD X.K r d1 d) : ED X (.UnaryOp op a pos) Γ d := by
  obtain ⟨ta, pa, qa⟩ := ha
  exact ⟨_, pe_un ho pa, fun σ H C Q q => qa σ H C _ fun x H1 e1 h1 => hr x H1 h1 _ fun v H3 e3 h3 => q v H3 (e1.trans e3) h3⟩

section
variable {K : PySem.W.Frag} {i j : Int}
theorem rd_I0 {g : Int → Int → V} : RD K (rI0 g) (.v (.int i)) (.v (.int j)) (.v (g i j)) := fun x y H h1 h2 Q q => ⟨i, j, den_v.mp h1, den_v.mp h2, q _ H (Ex.refl H) (den_v.mpr rfl)⟩
theorem rd_I {C : Int → Int → Prop} {g : Int → Int → V} (hc : C i j) : RD K (rI C g) (.v (.int i)) (.v (.int j)) (.v (g i j)) := fun x y H h1 h2 Q q => ⟨i, j, den_v.mp h1, den_v.mp h2, hc, q _ H (Ex.refl H) (den_v.mpr rfl)⟩
theorem ud_neg : UD K (rU fun i => .int (-i)) (.v (.int i)) (.v (.int (-i))) := fun x H h1 Q q => ⟨i, den_v.mp h1, q _ H (Ex.refl H) (den_v.mpr rfl)⟩
theorem rd_eq {x y : V} (h : scal x y = true) : RD K rEq (.v x) (.v y) (.v (.bl (decide (x = y)))) := fun a b H h1 h2 Q q => by
  rw [den_v.mp h1, den_v.mp h2]
  exact ⟨h, q _ H (Ex.refl H) (den_v.mpr rfl)⟩
theorem rd_ne {x y : V} (h : scal x y = true) : RD K rNe (.v x) (.v y) (.v (.bl (!decide (x = y)))) := fun a b H h1 h2 Q q => by
  rw [den_v.mp h1, den_v.mp h2]
  exact ⟨h, q _ H (Ex.refl H) (den_v.mpr rfl)⟩
end

/-! ### tests -/
theorem td_val {b : Bool} (h : ED X e Γ (.v (.bl b))) (he : ∀ whole, isTrue e X.env whole = (do let v ← whole; standAt e.pos; holding [v] (truthy v)) := by intro _; rfl) : TD X e Γ b := by
  obtain ⟨t, p, q⟩ := h
  exact ⟨_, pt_val p he, fun σ H C Q k => q σ H C _ fun v H1 e1 h1 => ⟨b, den_v.mp h1, k H1 e1⟩⟩
theorem td_not {k : Bool} (h : TD X a Γ k) : TD X (.UnaryOp .Not a pos) Γ (!k) := by
  obtain ⟨t, p, q⟩ := h
  exact ⟨_, pt_not p, fun σ H C Q r => q σ H C _ fun H1 e1 => r H1 e1⟩
theorem wd_and1 {k : Bool} (h : TD X a Γ k) : WD X (.BoolOp .And [a] pos) Γ k := by
  obtain ⟨t, p, q⟩ := h
  exact ⟨_, pw_and1 p, q⟩
theorem wd_or1 {k : Bool} (h : TD X a Γ k) : WD X (.BoolOp .Or [a] pos) Γ k := by
  obtain ⟨t, p, q⟩ := h
  exact ⟨_, pw_or1 p, q⟩
theorem pw_never : PW X e (fun _ _ _ => False) := ⟨fun _ _ _ _ _ _ _ h => h.elim⟩
theorem pt_never : PT X e (fun _ _ _ => False) := ⟨fun _ _ _ _ _ _ h => h.elim⟩
theorem pe_never : PE X e (fun _ _ _ => False) := ⟨fun _ _ _ _ _ _ h => h.elim⟩
theorem pss_nv : PSs X sts (fun _ _ _ => False) := ⟨fun _ _ _ _ _ _ h => h.elim⟩
theorem ps_nv : PS X st (fun _ _ _ => False) := ⟨fun _ _ _ _ _ _ h => h.elim⟩
/-- a and ..: a False -/
theorem wd_andF (h : TD X a Γ false) : WD X (.BoolOp .And (a :: b :: es) pos) Γ false := by
  obtain ⟨t, p, q⟩ := h
  exact ⟨_, pw_and p pw_never, fun σ H C Q r => q σ H C _ fun H1 e1 => r H1 e1⟩
theorem wd_andT {k : Bool} (h : TD X a Γ true) (h2 : WD X (.BoolOp .And (b :: es) pos) Γ k) : WD X (.BoolOp .And (a :: b :: es) pos) Γ k := by
  obtain ⟨t, p, q⟩ := h
  obtain ⟨t2, p2, q2⟩ := h2
  exact ⟨_, pw_and p p2, fun σ H C Q r => q σ H C _ fun H1 e1 => q2 σ H1 (C.mono e1) Q fun H2 e2 => r H2 (e1.trans e2)⟩
theorem wd_orT (h : TD X a Γ true) : WD X (.BoolOp .Or (a :: b :: es) pos) Γ true := by
  obtain ⟨t, p, q⟩ := h
  exact ⟨_, pw_or p pw_never, fun σ H C Q r => q σ H C _ fun H1 e1 => r H1 e1⟩
theorem wd_orF {k : Bool} (h : TD X a Γ false) (h2 : WD X (.BoolOp .Or (b :: es) pos) Γ k) : WD X (.BoolOp .Or (a :: b :: es) pos) Γ k := by
  obtain ⟨t, p, q⟩ := h
  obtain ⟨t2, p2, q2⟩ := h2
  exact ⟨_, pw_or p p2, fun σ H C Q r => q σ H C _ fun H1 e1 => q2 σ H1 (C.mono e1) Q fun H2 e2 => r H2 (e1.trans e2)⟩
theorem WD.td {k : Bool} (h : WD X e Γ k) : TD X e Γ k := by
  obtain ⟨t, p, q⟩ := h
  exact ⟨t, p.pt, q⟩
/-- and, or, not as values -/
theorem ed_not {k : Bool} (h : ED X a Γ (.v (.bl k))) : ED X (.UnaryOp .Not a pos) Γ (.v (.bl (!k))) := by
  obtain ⟨t, p, q⟩ := h
  exact ⟨_, pe_not p, fun σ H C Q r => q σ H C _ fun v H1 e1 h1 => ⟨k, den_v.mp h1, r _ H1 e1 (den_v.mpr rfl)⟩⟩
theorem ed_one {op} (h : ED X a Γ d) : ED X (.BoolOp op [a] pos) Γ d := by
  obtain ⟨t, p, q⟩ := h
  exact ⟨_, pe_one p, q⟩
theorem ed_andT {d : D} (h : ED X a Γ (.v (.bl true))) (h2 : ED X (.BoolOp .And (b :: es) pos) Γ d) : ED X (.BoolOp .And (a :: b :: es) pos) Γ d := by
  obtain ⟨t, p, q⟩ := h
  obtain ⟨t2, p2, q2⟩ := h2
  exact ⟨_, pe_and p p2, fun σ H C Q r => q σ H C _ fun v H1 e1 h1 => ⟨true, den_v.mp h1, q2 σ H1 (C.mono e1) Q fun w H2 e2 h3 => r w H2 (e1.trans e2) h3⟩⟩
theorem ed_andF (h : ED X a Γ (.v (.bl false))) : ED X (.BoolOp .And (a :: b :: es) pos) Γ (.v (.bl false)) := by
  obtain ⟨t, p, q⟩ := h
  exact ⟨_, pe_and p pe_never, fun σ H C Q r => q σ H C _ fun v H1 e1 h1 => ⟨false, den_v.mp h1, r _ H1 e1 (den_v.mpr rfl)⟩⟩
theorem ed_orF {d : D} (h : ED X a Γ (.v (.bl false))) (h2 : ED X (.BoolOp .Or (b :: es) pos) Γ d) : ED X (.BoolOp .Or (a :: b :: es) pos) Γ d := by
  obtain ⟨t, p, q⟩ := h
  obtain ⟨t2, p2, q2⟩ := h2
  exact ⟨_, pe_or p p2, fun σ H C Q r => q σ H C _ fun v H1 e1 h1 => ⟨false, den_v.mp h1, q2 σ H1 (C.mono e1) Q fun w H2 e2 h3 => r w H2 (e1.trans e2) h3⟩⟩
theorem ed_orT (h : ED X a Γ (.v (.bl true))) : ED X (.BoolOp .Or (a :: b :: es) pos) Γ (.v (.bl true)) := by
  obtain ⟨t, p, q⟩ := h
  exact ⟨_, pe_or p pe_never, fun σ H C Q r => q σ H C _ fun v H1 e1 h1 => ⟨true, den_v.mp h1, r _ H1 e1 (den_v.mpr rfl)⟩⟩

/-! ### arguments, displays, calls -/
theorem ad_nil : AD X [] Γ [] := ⟨_, pa_nil, fun σ H C Q r => r [] H (Ex.refl H) DenL.nil⟩
theorem ad_cons {ds : List D} (h : ED X e Γ d) (h2 : AD X es Γ ds) (hs : starEach (e :: es) X.env = (false, eval e X.env) :: starEach es X.env := by rfl) : AD X (e :: es) Γ (d :: ds) := by
  obtain ⟨t, p, q⟩ := h
  obtain ⟨t2, p2, q2⟩ := h2
  exact ⟨_, pa_cons p p2 hs, fun σ H C Q r => q σ H C _ fun v H1 e1 h1 => q2 σ H1 (C.mono e1) _ fun vs H2 e2 h2 => r _ H2 (e1.trans e2) (DenL.cons (h1.mono e2) h2)⟩
theorem ed_lst {ds : List D} (h : AD X es Γ ds) (hl : ds.length ≤ 100000 := by exact Nat.le_of_ble_eq_true rfl) : ED X (.List es pos) Γ (.lst ds) := by
  obtain ⟨t, p, q⟩ := h
  refine ⟨_, pe_lst p, fun σ H C Q r => q σ H C _ fun vs H1 e1 h1 => ⟨by rw [← h1.len]; exact sz_of hl, fun l hn => ?_⟩⟩
  refine r (.ref l) _ (e1.trans (Ex.new hn)) ?_
  simp only [Den]
  exact ⟨l, vs, rfl, sq_of upd_same, h1.mono (Ex.new hn)⟩
theorem ed_tup {ds : List D} {x1} (h : AD X es Γ ds) (hl : ds.length ≤ 100000 := by exact Nat.le_of_ble_eq_true rfl) : ED X (.Tuple es x1 pos) Γ (.tup ds) := by
  obtain ⟨t, p, q⟩ := h
  refine ⟨_, pe_tup p, fun σ H C Q r => q σ H C _ fun vs H1 e1 h1 => ⟨by rw [← h1.len]; exact sz_of hl, fun l hn => ?_⟩⟩
  refine r (.ref l) _ (e1.trans (Ex.new hn)) ?_
  simp only [Den]
  exact ⟨l, vs, rfl, st_of upd_same, h1.mono (Ex.new hn)⟩
/-- the promise of a def that only makes things: from such arguments such a result -/
def spD (K : PySem.W.Frag) (n : Nat) (R : List D → D → Prop) : Sp := fun vs H Q _ => ∃ ds d, ds.length = n ∧ DenL K H ds vs ∧ R ds d ∧ ∀ v H', Ex H H' → Den K H' d v → Q v H'
theorem spD_len {K : PySem.W.Frag} {n : Nat} {R : List D → D → Prop} {vs : List V} {H : Hp} {Q : VK} {E : XK} (h : spD K n R vs H Q E) : vs.length = n := by
  obtain ⟨ds, d, h1, h2, _⟩ := h
  rw [← h2.len, h1]
theorem ed_call {CX : CXT} {k n : Nat} {f : Addr} {fd : FuncData} {ps : List Str} {R : List D → D → Prop} {E : XK} {x : Str} {p : Pos} {ds : List D} (F : FnOk X.prog X.w X.K X.mg X.base CX k f fd ps (spD X.K n R)) (hr : Room k X.A) (hm : X.mg x = some (.ref f))
    (hk : PySem.W.keepIn X.K (.ref f) = true) (hb : Binds X.K fd ps []) (hx : Passes CX X E) (ha : AD X (e :: es) Γ ds) (hR : R ds d) (hn : ds.length = n := by rfl) (hg : Gl X x := by rfl) (hdb : (x == ("__debug__" : Str)) = false := by decide)
    (he : starEach (e :: es) X.env = (false, eval e X.env) :: starEach es X.env := by rfl) (hpl : (backTo pos (starEach es X.env)).any (·.1) = false := by rfl) : ED X (.Call (.Name x p) (e :: es) [] pos) Γ d := by
  obtain ⟨t, p, q⟩ := ha
  refine ⟨_, pe_call F hr hg hm hk hb .nil hx p hdb he hpl, fun σ H C Q r => q σ H C _ fun vs H1 e1 h1 => ?_⟩
  rw [List.append_nil]
  exact ⟨ds, d, hn, h1, hR, fun v H' e2 h2 => r v H' (e1.trans e2) h2⟩
/-- a built-in called by its name -/
theorem ed_callB {r : List V → Hp → VK → Prop} {id : String} {x : Str} {p : Pos} {ds : List D} (hc : CallR X (.builtin id) r) (hm : X.mg x = none) (hv : bootBuiltins x = some (.builtin id)) (ha : AD X (e :: es) Γ ds) (hr : CD X.K r ds d) (hg : Gl X x := by rfl)
    (hn : x ≠ "__name__" := by decide) (hdb : (x == ("__debug__" : Str)) = false := by decide) (he : starEach (e :: es) X.env = (false, eval e X.env) :: starEach es X.env := by rfl) (hpl : (backTo pos (starEach es X.env)).any (·.1) = false := by rfl) :
    ED X (.Call (.Name x p) (e :: es) [] pos) Γ d := by
  obtain ⟨t, p, q⟩ := ha
  exact ⟨_, pe_callB hc hg hm hv p hn hdb he hpl, fun σ H C Q k => q σ H C _ fun vs H1 e1 h1 => hr vs H1 h1 Q fun v H' e2 h2 => k v H' (e1.trans e2) h2⟩
theorem ed_callTy {r : List V → Hp → VK → Prop} {T : String} {x : Str} {p : Pos} {ds : List D} (hc : CallR X (.type T) r) (hm : X.mg x = none) (hv : bootBuiltins x = some (.type T)) (ha : AD X (e :: es) Γ ds) (hr : CD X.K r ds d) (hg : Gl X x := by rfl)
    (hn : x ≠ "__name__" := by decide) (hdb : (x == ("__debug__" : Str)) = false := by decide) (he : starEach (e :: es) X.env = (false, eval e X.env) :: starEach es X.env := by rfl) (hpl : (backTo pos (starEach es X.env)).any (·.1) = false := by rfl) :
    ED X (.Call (.Name x p) (e :: es) [] pos) Γ d := by
  obtain ⟨t, p, q⟩ := ha
  exact ⟨_, pe_callTy hc hg hm hv p hn hdb he hpl, fun σ H C Q k => q σ H C _ fun vs H1 e1 h1 => hr vs H1 h1 Q fun v H' e2 h2 => k v H' (e1.trans e2) h2⟩
theorem lookup_put {β : Type} (f g : Str) (y : β) (fs : List (Str × β)) : ((f, y) :: fs).lookup g = if g = f then some y else fs.lookup g := by
  by_cases h : g = f
  · subst h
    simp [List.lookup]
  · have e : (g == f) = false := by simpa using h
    rw [if_neg h]
    simp [List.lookup, e]
/-- o.f -/
theorem ed_fld {C : Addr} {fs : List (Str × D)} {f : Str} {p : Pos} (h : ED X e Γ (.obj C fs)) (hc : Cls X.K C) (hn : NoAttr X.K C f) (hl : fs.lookup f = some d) (hb : attributeBase e f X.env (eval e X.env) = eval e X.env := by rfl) : ED X (.Attribute e f p) Γ d := by
  obtain ⟨t, p, q⟩ := h
  refine ⟨_, pe_fld p hb, fun σ H C Q k => q σ H C _ fun v H1 e1 h1 => ?_⟩
  simp only [Den] at h1
  obtain ⟨a, dx, gs, rfl, h2, h3⟩ := h1
  have key : ∀ {fs : List (Str × D)} {gs : List (Str × V)}, DenF X.K H1 fs gs → fs.lookup f = some d → ∃ y, gs.lookup f = some y ∧ Den X.K H1 d y := by
    intro fs
    induction fs with
    | nil =>
      intro gs _ h
      cases h
    | cons p r ih =>
      intro gs hF hl
      obtain ⟨g, x⟩ := p
      simp only [DenF] at hF
      obtain ⟨z, zs, rfl, hz, hzs⟩ := hF
      rw [lookup_put] at hl ⊢
      by_cases hfg : f = g
      · rw [if_pos hfg] at hl ⊢
        cases hl
        exact ⟨z, rfl, hz⟩
      · rw [if_neg hfg] at hl ⊢
        exact ih hzs hl
  obtain ⟨y, h4, h5⟩ := key h3 hl
  exact ⟨a, _, dx, gs, y, rfl, h2, hc, hn, h4, k y H1 e1 h5⟩

/-! ### statements -/
theorem ss_nil (h : Φ (.nx Γ)) : SsD X [] Γ Φ := ⟨_, pss_nil, fun σ H hl C E T => T.nx Γ σ H h (Ex.refl H) hl C⟩
theorem Tk.imp {H : Hp} {E : Ends} (h : ∀ o, Ψ o → Φ o) (t : Tk X H Φ E) : Tk X H Ψ E :=
  ⟨fun Γ σ H2 z => t.nx Γ σ H2 (h _ z), fun d v H2 z => t.rt d v H2 (h _ z), fun Γ σ H2 z => t.bk Γ σ H2 (h _ z), fun Γ σ H2 z => t.ct Γ σ H2 (h _ z), fun c fs Γ d σ H2 z => t.ex c fs Γ d σ H2 (h _ z)⟩
/-- a statement, then the rest -/
theorem ss_seq (h : SD X st Γ Ψ) (hn : ∀ Γ', Ψ (.nx Γ') → SsD X sts Γ' Φ) (ho : ∀ o, (∀ Γ', o ≠ .nx Γ') → Ψ o → Φ o) : SsD X (st :: sts) Γ Φ := by
  obtain ⟨t, p, q⟩ := h
  by_cases hs : ∃ Γ', Ψ (.nx Γ')
  · let u : TS := fun E σ H => ∃ Γ', Ψ (.nx Γ') ∧ σ.length = X.N.length ∧ Ctx X.K H Γ' σ ∧ Tk X H Φ E
    have pu : PSs X sts u := ⟨fun pins s σ H E I ⟨Γ', h1, h2, h3, h4⟩ => by
      obtain ⟨t', p', q'⟩ := hn Γ' h1
      exact p'.run pins s σ H E I (q' σ H h2 h3 E h4)⟩
    refine ⟨_, pss_cons p pu, fun σ H hl C E T => q σ H hl C _ ⟨fun Γ' σ' H' h1 e1 h2 h3 => ⟨Γ', h1, h2, h3, T.mono e1⟩, fun d v H' h1 => T.rt d v H' (ho _ (fun _ z => by cases z) h1), fun Γ' σ' H' h1 => T.bk Γ' σ' H' (ho _ (fun _ z => by cases z) h1), fun Γ' σ' H' h1 => T.ct Γ' σ' H' (ho _ (fun _ z => by cases z) h1), fun c fs Γ' d σ' H' h1 => T.ex c fs Γ' d σ' H' (ho _ (fun _ z => by cases z) h1)⟩⟩
  · refine ⟨_, pss_cons p pss_nv, fun σ H hl C E T => q σ H hl C _ ⟨fun Γ' σ' H' h1 e1 h2 h3 => absurd ⟨Γ', h1⟩ hs, fun d v H' h1 => T.rt d v H' (ho _ (fun _ z => by cases z) h1), fun Γ' σ' H' h1 => T.bk Γ' σ' H' (ho _ (fun _ z => by cases z) h1), fun Γ' σ' H' h1 => T.ct Γ' σ' H' (ho _ (fun _ z => by cases z) h1), fun c fs Γ' d σ' H' h1 => T.ex c fs Γ' d σ' H' (ho _ (fun _ z => by cases z) h1)⟩⟩
theorem sd_asg (i : Nat) {x : Str} {pos' : Pos} (he : ED X e Γ d) (hd : X.N.Nodup) (h : Φ (.nx (Γ.set i (some d)))) (hN : X.N[i]? = some x := by rfl) (hx : Loc X.env.scope x := by first | exact Or.inl rfl | exact Or.inr rfl)
    (hs : swapsWith e (some (.Name x pos')) pos.line X.env = pure false := by rfl) (hf : X.fn x = true ∨ X.env.scope.names.lookup x = some .local := by first | exact .inl rfl | exact .inr rfl) : SD X (.Assign [.Name x pos'] e pos) Γ Φ := by
  obtain ⟨t, p, q⟩ := he
  refine ⟨_, ps_set (i := i) hd hN hx p hs hf, fun σ H hl C E T => q σ H C _ fun v H1 e1 h1 => ?_⟩
  have hi : i < σ.length := by
    rw [hl]
    exact (List.getElem?_eq_some_iff.mp hN).1
  exact T.nx _ _ H1 h e1 (by rw [List.length_set]; exact hl) ((C.mono e1).set hi h1)
theorem sd_ret (he : ED X e Γ d) (h : Φ (.rt d)) : SD X (.Return (some e) pos) Γ Φ := by
  obtain ⟨t, p, q⟩ := he
  exact ⟨_, ps_ret p, fun σ H hl C E T => q σ H C _ fun v H1 e1 h1 => T.rt d v H1 h e1 h1⟩
theorem sd_if {k : Bool} {sa sb : List Stmt} (hc : TD X c Γ k) (ha : k = true → SsD X sa Γ Φ) (hb : k = false → SsD X sb Γ Φ) : SD X (.If c sa sb pos) Γ Φ := by
  obtain ⟨t, p, q⟩ := hc
  cases k with
  | true =>
    obtain ⟨ta, pa, qa⟩ := ha rfl
    exact ⟨_, ps_if p pa pss_nv, fun σ H hl C E T => q σ H C _ fun H1 e1 => qa σ H1 hl (C.mono e1) E (T.mono e1)⟩
  | false =>
    obtain ⟨tb, pb, qb⟩ := hb rfl
    exact ⟨_, ps_if p pss_nv pb, fun σ H hl C E T => q σ H C _ fun H1 e1 => qb σ H1 hl (C.mono e1) E (T.mono e1)⟩
theorem sd_expr (he : ED X e Γ d) (h : Φ (.nx Γ)) (hs : swapsWith e none pos.line X.env = pure false := by rfl) : SD X (.Expr e pos) Γ Φ := by
  obtain ⟨t, p, q⟩ := he
  exact ⟨_, ps_expr p hs, fun σ H hl C E T => q σ H C _ fun v H1 e1 h1 => T.nx Γ σ H1 h e1 hl (C.mono e1)⟩
/-! ### the short ways -/
theorem z_asg (i : Nat) {x : Str} {pos' : Pos} (he : ED X e Γ d) (hd : X.N.Nodup) (k : SsD X sts (Γ.set i (some d)) Φ) (hN : X.N[i]? = some x := by rfl) (hx : Loc X.env.scope x := by first | exact Or.inl rfl | exact Or.inr rfl)
    (hs : swapsWith e (some (.Name x pos')) pos.line X.env = pure false := by rfl) (hf : X.fn x = true ∨ X.env.scope.names.lookup x = some .local := by first | exact .inl rfl | exact .inr rfl) : SsD X (.Assign [.Name x pos'] e pos :: sts) Γ Φ :=
  ss_seq (Ψ := fun o => o = .nx (Γ.set i (some d))) (sd_asg i he hd rfl hN hx hs hf) (fun Γ' h => by
    cases h
    exact k) fun o h1 h2 => absurd h2 (h1 _)
theorem z_ret (he : ED X e Γ d) (h : Φ (.rt d)) : SsD X (.Return (some e) pos :: sts) Γ Φ :=
  ss_seq (Ψ := fun o => o = .rt d) (sd_ret he rfl) (fun Γ' h => by cases h) fun o h1 h2 => by
    rw [h2]
    exact h
/-- an if whose test is false, no else -/
theorem z_ifF {sa : List Stmt} (hc : TD X c Γ false) (k : SsD X sts Γ Φ) : SsD X (.If c sa [] pos :: sts) Γ Φ :=
  ss_seq (Ψ := fun o => o = .nx Γ) (sd_if hc (fun z => by cases z) fun _ => ss_nil rfl) (fun Γ' h => by
    cases h
    exact k) fun o h1 h2 => absurd h2 (h1 _)
/-- an if whose body leaves, or not -/
theorem z_ifR {b : Bool} {sa : List Stmt} (hc : TD X c Γ b) (h : b = true → SsD X sa Γ (fun o => (∀ Γ', o ≠ .nx Γ') ∧ Φ o)) (k : b = false → SsD X sts Γ Φ) : SsD X (.If c sa [] pos :: sts) Γ Φ :=
  ss_seq (Ψ := fun o => (b = true ∧ (∀ Γ', o ≠ .nx Γ') ∧ Φ o) ∨ (b = false ∧ o = .nx Γ))
    (sd_if hc (fun z => by
      obtain ⟨t, p, q⟩ := h z
      exact ⟨t, p, fun σ H hl C E T => q σ H hl C E (T.imp fun o w => .inl ⟨z, w⟩)⟩) fun z => ss_nil (.inr ⟨z, rfl⟩))
    (fun Γ' h => by
      rcases h with ⟨_, h, _⟩ | ⟨z, h⟩
      · exact absurd rfl (h Γ')
      · cases h
        exact k z) fun o h1 h2 => by
    rcases h2 with ⟨_, _, h⟩ | ⟨_, h⟩
    · exact h
    · exact absurd h (h1 _)
theorem SsD.imp (h : SsD X sts Γ Ψ) (hi : ∀ o, Ψ o → Φ o) : SsD X sts Γ Φ := by
  obtain ⟨t, p, q⟩ := h
  exact ⟨t, p, fun σ H hl C E T => q σ H hl C E (T.imp hi)⟩
theorem SD.imp (h : SD X st Γ Ψ) (hi : ∀ o, Ψ o → Φ o) : SD X st Γ Φ := by
  obtain ⟨t, p, q⟩ := h
  exact ⟨t, p, fun σ H hl C E T => q σ H hl C E (T.imp hi)⟩
end

/-! ### a def whose body only makes things -/
theorem start_ctx {K : PySem.W.Frag} {H : Hp} {N : List Str} {ds : List D} {vs : List V} (h : DenL K H ds vs) : Ctx K H (ds.map some ++ List.replicate (N.length - ds.length) none) (L2.start N vs) := fun i d e => by
  unfold L2.start
  have hl := h.len
  by_cases hi : i < ds.length
  · rw [List.getElem?_append_left (by rw [List.length_map]; exact hi), List.getElem?_map] at e
    cases q : ds[i]? with
    | none =>
      rw [q] at e
      cases e
    | some d' =>
      rw [q] at e
      cases e
      obtain ⟨y, h1, h2⟩ := h.get q
      refine ⟨y, ?_, h2⟩
      rw [List.getElem?_append_left (by rw [List.length_map, ← hl]; exact hi), List.getElem?_map, h1]
      rfl
  · rw [List.getElem?_append_right (by rw [List.length_map]; omega), List.getElem?_replicate] at e
    split at e <;> cases e
theorem fn_D {P : Program} {w : World} {K : PySem.W.Frag} {mg : Str → Option Value} {base : Heap} {x qual : Str} {st : Stmt} {f : Addr} {fd : FuncData} {N ps : List Str} {k : Nat} {R : List D → D → Prop} (F : Fun K x qual st f fd) (S : FnScope N ps (defScope st))
    (hN : ps.length ≤ N.length)
    (h : ∀ (cdv : Value) (A : Around) (outer : List Env) (s : Shared) (H : Hp) (E : XK) (ds : List D) (d : D), Room k (A.deeper (PyProof.Rows.envOfC qual (defScope st) s.heap.objs.size f cdv)) → ds.length = ps.length → R ds d →
      SsD (cxOf CX0 P w K mg base N qual (defScope st) f cdv A outer s H E).nox (defBody st) (ds.map some ++ List.replicate (N.length - ds.length) none) (fun o => o = .rt d ∨ (d = .v .non ∧ ∃ Γ, o = .nx Γ))) :
    FnOk P w K mg base CX0 (k + 1) f fd ps (spD K ps.length R) := by
  refine F.ok S (fun vs H Q E h => spD_len h) fun cdv A outer s H vs Q E hr hsp => ?_
  obtain ⟨ds, d, h1, h2, h3, h4⟩ := hsp
  obtain ⟨t, p, q⟩ := h cdv A outer s H E ds d hr h1 h3
  refine ⟨t, p, q (L2.start N vs) H ?_ (start_ctx h2) _ ⟨fun Γ σ H' z e1 _ _ => ?_, fun d' v H' z e1 hv => ?_, fun Γ σ H' z => ?_, fun Γ σ H' z => ?_, fun c fs Γ d σ H' z => ?_⟩⟩
  · show (L2.start N vs).length = N.length
    unfold L2.start
    rw [List.length_append, List.length_map, List.length_replicate, ← h2.len, h1]
    omega
  · rcases z with z | ⟨z, _⟩
    · cases z
    · subst z
      exact h4 _ H' e1 (den_v.mpr rfl)
  · rcases z with z | ⟨_, _, z⟩
    · cases z
      exact h4 v H' e1 hv
    · cases z
  · rcases z with z | ⟨_, _, z⟩ <;> cases z
  · rcases z with z | ⟨_, _, z⟩ <;> cases z
  · rcases z with z | ⟨_, _, z⟩ <;> cases z
end Trk

namespace Trk
open PySem L2 Evl

/-- a sign's own methods: f for C op .., g for int op C -/
structure NumOp (K : PySem.W.Frag) (C : Addr) (op : Operator) (f g : Addr) : Prop where
  first : PySem.W.selfFirst K C = true
  find : PySem.W.findIn K (.ref C) (PySem.dunder op.info.2) = some (some (.ref f))
  fn : PySem.W.isFn K (.ref f) = true
  rfind : PySem.W.findIn K (.ref C) (dunderR op.info.2) = some (some (.ref g))
  rfn : PySem.W.isFn K (.ref g) = true
  sub1 : PySem.W.subIn K (.type "int") (.ref C) = some false
  sub2 : PySem.W.subIn K (.ref C) (.type "int") = some false
structure CmpM (K : PySem.W.Frag) (C : Addr) (name : Str) (f : Addr) : Prop where
  find : PySem.W.findIn K (.ref C) name = some (some (.ref f))
  fn : PySem.W.isFn K (.ref f) = true
section
variable {X : Cx} {CX : CXT} {k : Nat} {C f g : Addr} {fd : FuncData} {ps : List Str} {sp : Sp} {E : XK} {op : Operator}
theorem back_of {pins : List (Addr × Obj)} {σ : L2.St} {H : Hp} {s : Shared} {Q : VK} {us : List Value} {vs : List V} (F : FnOk X.prog X.w X.K X.mg X.base CX k f fd ps sp) (hr : Room k X.A) (hb : Binds X.K fd ps []) (hx : Passes CX X E)
    (I : Inv X pins σ H s) (r : Vals vs us) (h : sp vs H Q E) : wpAny (model X.prog X.w) X.A (call (.ref f) us) (PySem.W.CmpBack (EP X pins σ Q)) X.xe s :=
  thn (run_fn F hr hb .nil hx I r (by rw [List.append_nil]; exact h)) fun u s' q => by
    have q' := q
    obtain ⟨v, H', I', rv, _⟩ := q'
    exact SlX.cmpback rv q
theorem vals_rr (a b : Addr) : Vals [V.ref a, V.ref b] [Value.ref a, Value.ref b] := .cons (show RelV (V.ref a) (Value.ref a) from rfl) (.cons (show RelV (V.ref b) (Value.ref b) from rfl) .nil)
theorem vals_ri (a : Addr) (n : Int) (t : Tok) : Vals [V.ref a, V.int n] [Value.ref a, Value.int n t] := .cons (show RelV (V.ref a) (Value.ref a) from rfl) (.cons (show RelV (V.int n) (Value.int n t) from ⟨t, rfl⟩) .nil)
/-- both of the class -/
def rOwn (C : Addr) (sp : Sp) (E : XK) : R2 := fun x y H Q => ∃ a b dx dy fs gs, x = .ref a ∧ y = .ref b ∧ H a = some (.ins C dx fs) ∧ H b = some (.ins C dy gs) ∧ sp [x, y] H Q E
/-- an int on the right -/
def rOwnI (C : Addr) (sp : Sp) (E : XK) : R2 := fun x y H Q => ∃ a dx fs n, x = .ref a ∧ y = .int n ∧ H a = some (.ins C dx fs) ∧ sp [x, y] H Q E
/-- an int on the left -/
def rIOwn (C : Addr) (sp : Sp) (E : XK) : R2 := fun x y H Q => ∃ b dx fs n, x = .int n ∧ y = .ref b ∧ H b = some (.ins C dx fs) ∧ sp [y, x] H Q E
theorem op_own (M : NumOp X.K C op f g) (F : FnOk X.prog X.w X.K X.mg X.base CX k f fd ps sp) (hr : Room k X.A) (hb : Binds X.K fd ps []) (hx : Passes CX X E) : OpR X (binaryOp op) (rOwn C sp E) := by
  intro pins s σ H x y v u Q I rx ry h
  obtain ⟨a, b, dx, dy, fs, gs, rfl, rfl, ha, hb', hsp⟩ := h
  cases rx
  cases ry
  obtain ⟨mA, J, _⟩ := ins_get I.hok ha
  obtain ⟨mB, J', _⟩ := ins_get I.hok hb'
  obtain ⟨od, J, _⟩ := J.look
  obtain ⟨od', J', _⟩ := J'.look
  obtain ⟨m, hF⟩ := I.fr
  exact PySem.W.binop_K hF I.ok.mod.kin J J'.type M.first M.find M.fn (back_of F hr hb hx I (vals_rr a b) hsp)
theorem op_ownI {fo ro : Option Value} (M : NumOp X.K C op f g) (h1 : PySem.W.findIn X.K (.type "int") (PySem.dunder op.info.2) = some fo) (h2 : PySem.W.findIn X.K (.type "int") (dunderR op.info.2) = some ro)
    (F : FnOk X.prog X.w X.K X.mg X.base CX k f fd ps sp) (hr : Room k X.A) (hb : Binds X.K fd ps []) (hx : Passes CX X E) : OpR X (binaryOp op) (rOwnI C sp E) := by
  intro pins s σ H x y v u Q I rx ry h
  obtain ⟨a, dx, fs, n, rfl, rfl, ha, hsp⟩ := h
  cases rx
  obtain ⟨t, rfl⟩ := ry
  obtain ⟨mA, J, _⟩ := ins_get I.hok ha
  obtain ⟨od, J, _⟩ := J.look
  obtain ⟨m, hF⟩ := I.fr
  exact PySem.W.ksp_binT (T := "int") hF I.ok.mod.kin J rfl M.first M.find M.fn M.rfind (.inr ⟨_, rfl⟩) h1 h2 M.sub1 (back_of F hr hb hx I (vals_ri a n t) hsp)
theorem op_iown {fo ro : Option Value} {id : String} {B : Builtin} (S : Trk.IntSlot op.info.2 id B) (M : NumOp X.K C op f g) (h1 : PySem.W.findIn X.K (.type "int") (PySem.dunder op.info.2) = some fo) (h2 : PySem.W.findIn X.K (.type "int") (dunderR op.info.2) = some ro)
    (hl : ((fo.isSome && !isSeqSlot fo) || (ro.isSome && !isSeqSlot ro)) = true)
    (F : FnOk X.prog X.w X.K X.mg X.base CX k g fd ps sp) (hr : Room k X.A) (hb : Binds X.K fd ps []) (hx : Passes CX X E) : OpR X (binaryOp op) (rIOwn C sp E) := by
  intro pins s σ H x y v u Q I rx ry h
  obtain ⟨a, dx, fs, n, rfl, rfl, ha, hsp⟩ := h
  cases ry
  obtain ⟨t, rfl⟩ := rx
  obtain ⟨mA, J, _⟩ := ins_get I.hok ha
  obtain ⟨od, J, _⟩ := J.look
  obtain ⟨m, hF⟩ := I.fr
  exact Trk.rbinT S hF I.ok.mod.kin J M.first M.find M.rfind M.rfn h1 h2 hl M.sub2 (back_of F hr hb hx I (vals_ri a n t) hsp)
/-! ### comparisons -/
variable {cop : CmpOp}
theorem cmp_own (hro : ∀ a b, compareOp cop a b = richCompare cop a b) (M : CmpM X.K C (cmpInfo cop).2.1 f) (F : FnOk X.prog X.w X.K X.mg X.base CX k f fd ps sp) (hr : Room k X.A) (hb : Binds X.K fd ps []) (hx : Passes CX X E) : OpR X (compareOp cop) (rOwn C sp E) := by
  intro pins s σ H x y v u Q I rx ry h
  obtain ⟨a, b, dx, dy, fs, gs, rfl, rfl, ha, hb', hsp⟩ := h
  cases rx
  cases ry
  obtain ⟨mA, J, _⟩ := ins_get I.hok ha
  obtain ⟨mB, J', _⟩ := ins_get I.hok hb'
  obtain ⟨od, J, _⟩ := J.look
  obtain ⟨od', J', _⟩ := J'.look
  obtain ⟨m, hF⟩ := I.fr
  rw [hro]
  exact PySem.W.cmp_K (tb := .ref C) hr.units0 hF I.ok.mod.kin J J'.type (by simp [PySem.W.notFirst]) M.find M.fn (back_of F hr hb hx I (vals_rr a b) hsp)
theorem cmp_ownI (hro : ∀ a b, compareOp cop a b = richCompare cop a b) (M : CmpM X.K C (cmpInfo cop).2.1 f) (hs : PySem.W.subIn X.K (.type "int") (.ref C) = some false) (F : FnOk X.prog X.w X.K X.mg X.base CX k f fd ps sp) (hr : Room k X.A) (hb : Binds X.K fd ps []) (hx : Passes CX X E) : OpR X (compareOp cop) (rOwnI C sp E) := by
  intro pins s σ H x y v u Q I rx ry h
  obtain ⟨a, dx, fs, n, rfl, rfl, ha, hsp⟩ := h
  cases rx
  obtain ⟨t, rfl⟩ := ry
  obtain ⟨mA, J, _⟩ := ins_get I.hok ha
  obtain ⟨od, J, _⟩ := J.look
  obtain ⟨m, hF⟩ := I.fr
  rw [hro]
  exact PySem.W.cmp_K (tb := .type "int") hr.units0 hF I.ok.mod.kin J (PySem.W.Looks.of_pure rfl) (by unfold PySem.W.notFirst; rw [hs]; simp) M.find M.fn (back_of F hr hb hx I (vals_ri a n t) hsp)
/-- an int on the left: the mirrored sign's method -/
theorem cmp_iown {id : String} {B : Builtin} (hro : ∀ a b, compareOp cop a b = richCompare cop a b) (S : Trk.CmpSlot cop id B) (M : CmpM X.K C (cmpInfo cop).2.2 f) (hs : PySem.W.subIn X.K (.ref C) (.type "int") = some false) (F : FnOk X.prog X.w X.K X.mg X.base CX k f fd ps sp) (hr : Room k X.A) (hb : Binds X.K fd ps []) (hx : Passes CX X E) :
    OpR X (compareOp cop) (rIOwn C sp E) := by
  intro pins s σ H x y v u Q I rx ry h
  obtain ⟨a, dx, fs, n, rfl, rfl, ha, hsp⟩ := h
  cases ry
  obtain ⟨t, rfl⟩ := rx
  obtain ⟨mA, J, _⟩ := ins_get I.hok ha
  obtain ⟨od, J, _⟩ := J.look
  obtain ⟨m, hF⟩ := I.fr
  rw [hro]
  exact Trk.rcmpT S hr.units0 hF I.ok.mod.kin J M.find M.fn hs (back_of F hr hb hx I (vals_ri a n t) hsp)
end
section
variable {K : PySem.W.Frag} {C : Addr} {fs gs : List (Str × D)} {R : List D → D → Prop} {E : XK} {d : D} {n : Int}
theorem rd_own (h : R [.obj C fs, .obj C gs] d) : RD K (rOwn C (spD K 2 R) E) (.obj C fs) (.obj C gs) d := fun x y H h1 h2 Q q => by
  have k1 := h1
  have k2 := h2
  simp only [Den] at h1 h2
  obtain ⟨a, dx, fs', rfl, ha, _⟩ := h1
  obtain ⟨b, dy, gs', rfl, hb, _⟩ := h2
  exact ⟨a, b, dx, dy, fs', gs', rfl, rfl, ha, hb, _, d, rfl, DenL.cons k1 (DenL.cons k2 DenL.nil), h, q⟩
theorem rd_ownI (h : R [.obj C fs, .v (.int n)] d) : RD K (rOwnI C (spD K 2 R) E) (.obj C fs) (.v (.int n)) d := fun x y H h1 h2 Q q => by
  have k1 := h1
  have k2 := h2
  simp only [Den] at h1 h2
  obtain ⟨a, dx, fs', rfl, ha, _⟩ := h1
  subst h2
  exact ⟨a, dx, fs', n, rfl, rfl, ha, _, d, rfl, DenL.cons k1 (DenL.cons k2 DenL.nil), h, q⟩
theorem rd_iown (h : R [.obj C fs, .v (.int n)] d) : RD K (rIOwn C (spD K 2 R) E) (.v (.int n)) (.obj C fs) d := fun x y H h1 h2 Q q => by
  have k1 := h1
  have k2 := h2
  simp only [Den] at h1 h2
  obtain ⟨a, dx, fs', rfl, ha, _⟩ := h2
  subst h1
  exact ⟨a, dx, fs', n, rfl, rfl, ha, _, d, rfl, DenL.cons k2 (DenL.cons k1 DenL.nil), h, q⟩
end
/-! ### a negative divisor, of any size -/
def CDivZ (_ j : Int) : Prop := j ≠ 0 ∧ j.natAbs.log2 < 9000
theorem op_fdivZ {X : Cx} : OpR X (binaryOp .FloorDiv) (rI CDivZ fun i j => .int (i.fdiv j)) := opI fun i j _ _ _ _ _ hc q => PyProof.Rows.floordiv_int hc.1 q (.inl (PyProof.noPylong_of_log2 hc.2))
end Trk

namespace Trk
/-! ### what the class Fraction reckons: Rat -/
def cmn (a b : Int) : Int := if b < 0 then -((Nat.gcd a.natAbs b.natAbs : Nat) : Int) else ((Nat.gcd a.natAbs b.natAbs : Nat) : Int)
theorem cmn_ne {a b : Int} (hb : b ≠ 0) : cmn a b ≠ 0 := by
  have h : 0 < Nat.gcd a.natAbs b.natAbs := Nat.gcd_pos_of_pos_right _ (Int.natAbs_pos.mpr hb)
  unfold cmn
  split <;> omega
theorem cmn_le {a b : Int} (hb : b ≠ 0) : (cmn a b).natAbs ≤ b.natAbs := by
  have h : Nat.gcd a.natAbs b.natAbs ≤ b.natAbs := Nat.gcd_le_right _ (Int.natAbs_pos.mpr hb)
  unfold cmn
  split <;> omega
theorem fdiv_exact {g k : Int} (hg : g ≠ 0) : (g * k).fdiv g = k := by
  rw [Int.mul_comm, Int.mul_fdiv_cancel _ hg]
theorem top_eq {a b : Int} (hb : b ≠ 0) : a.fdiv (cmn a b) = (Rat.divInt a b).num := by
  have hg : 0 < Nat.gcd a.natAbs b.natAbs := Nat.gcd_pos_of_pos_right _ (Int.natAbs_pos.mpr hb)
  obtain ⟨k, hk⟩ : ((Nat.gcd a.natAbs b.natAbs : Nat) : Int) ∣ a := Int.ofNat_dvd_left.mpr (Nat.gcd_dvd_left _ _)
  rw [Rat.num_divInt, show Int.gcd b a = Nat.gcd a.natAbs b.natAbs from Nat.gcd_comm _ _]
  unfold cmn
  generalize hG : Nat.gcd a.natAbs b.natAbs = G at *
  by_cases h : b < 0
  · rw [if_pos h, Int.sign_eq_neg_one_of_neg h, hk, show ((G : Int) * k).fdiv (-(G : Int)) = -k from by
      rw [show (G : Int) * k = (-(G : Int)) * (-k) by rw [Int.neg_mul_neg], fdiv_exact (by omega)]]
    rw [show (-1 : Int) * ((G : Int) * k) = (G : Int) * (-k) by rw [Int.neg_one_mul, Int.mul_neg], Int.mul_ediv_cancel_left _ (by omega)]
  · rw [if_neg h, Int.sign_eq_one_of_pos (by omega), hk, fdiv_exact (by omega), Int.one_mul, Int.mul_ediv_cancel_left _ (by omega)]
theorem bottom_eq {a b : Int} (hb : b ≠ 0) : b.fdiv (cmn a b) = ((Rat.divInt a b).den : Int) := by
  have hg : 0 < Nat.gcd a.natAbs b.natAbs := Nat.gcd_pos_of_pos_right _ (Int.natAbs_pos.mpr hb)
  obtain ⟨k, hk⟩ : ((Nat.gcd a.natAbs b.natAbs : Nat) : Int) ∣ b := Int.ofNat_dvd_left.mpr (Nat.gcd_dvd_right _ _)
  rw [Rat.den_divInt, if_neg hb, show Int.gcd b a = Nat.gcd a.natAbs b.natAbs from Nat.gcd_comm _ _]
  unfold cmn
  generalize hG : Nat.gcd a.natAbs b.natAbs = G at *
  have hn : b.natAbs / G = k.natAbs := by
    rw [hk, Int.natAbs_mul, Int.natAbs_natCast, Nat.mul_div_cancel_left _ hg]
  rw [hn]
  by_cases h : b < 0
  · have hk0 : k < 0 := by
      rcases Int.lt_or_le k 0 with z | z
      · exact z
      · have := Int.mul_nonneg (show (0 : Int) ≤ (G : Int) by omega) z
        omega
    rw [if_pos h]
    conv => lhs; rw [hk]
    rw [show (G : Int) * k = (-(G : Int)) * (-k) by rw [Int.neg_mul_neg], fdiv_exact (by omega)]
    omega
  · have hk0 : 0 ≤ k := by
      rcases Int.lt_or_le k 0 with z | z
      · have := Int.mul_neg_of_pos_of_neg (show (0 : Int) < (G : Int) by omega) z
        omega
      · exact z
    rw [if_neg h]
    conv => lhs; rw [hk]
    rw [fdiv_exact (by omega)]
    omega
/-- no greater than what it was made of -/
theorem num_le (a b : Int) : (Rat.divInt a b).num.natAbs ≤ a.natAbs := by
  rw [Rat.num_divInt]
  have h1 : (b.sign * a).natAbs ≤ a.natAbs := by
    rw [Int.natAbs_mul]
    rcases Int.sign_trichotomy b with h | h | h <;> rw [h] <;> simp
  refine Nat.le_trans ?_ h1
  exact Int.natAbs_ediv_le_natAbs _ _
theorem den_le {a b : Int} (hb : b ≠ 0) : (Rat.divInt a b).den ≤ b.natAbs := by
  rw [Rat.den_divInt, if_neg hb]
  exact Nat.div_le_self _ _
/-- sizes -/
def Sz (n : Nat) (q : Rat) : Prop := q.num.natAbs < 2 ^ n ∧ q.den < 2 ^ n
end Trk
namespace Trk
theorem q_mul {a b : Int} (hb : b ≠ 0) : Rat.divInt a b * (b : Rat) = (a : Rat) := by
  rw [Rat.divInt_eq_div]
  exact Rat.div_mul_cancel (by simpa using hb)
theorem q_lt {a b c e : Int} (hb : 0 < b) (he : 0 < e) : Rat.divInt a b < Rat.divInt c e ↔ a * e < c * b := by
  have h1 : (0 : Rat) < ((b * e : Int) : Rat) := Rat.intCast_pos.mpr (Int.mul_pos hb he)
  have e1 : Rat.divInt a b * ((b * e : Int) : Rat) = ((a * e : Int) : Rat) := by
    rw [Rat.intCast_mul, ← Rat.mul_assoc, q_mul (by omega), ← Rat.intCast_mul]
  have e2 : Rat.divInt c e * ((b * e : Int) : Rat) = ((c * b : Int) : Rat) := by
    rw [Int.mul_comm b e, Rat.intCast_mul, ← Rat.mul_assoc, q_mul (by omega), ← Rat.intCast_mul]
  rw [← Rat.mul_lt_mul_right h1, e1, e2, Rat.intCast_lt_intCast]
theorem q_int (n : Int) : (n : Rat) = Rat.divInt n 1 := (Rat.num_divInt_den (n : Rat)).symm
/-- the sign of a difference -/
theorem q_sgn {a b c e : Int} (hb : 0 < b) (he : 0 < e) : (a * e - c * b < 0 ↔ Rat.divInt a b < Rat.divInt c e) ∧ (0 < a * e - c * b ↔ Rat.divInt c e < Rat.divInt a b) := by
  rw [q_lt hb he, q_lt he hb]
  exact ⟨by omega, by omega⟩
end Trk

namespace Trk
open PySem L2 Evl

abbrev fr (C : Addr) (q : Rat) : D := .obj C [("top", .v (.int q.num)), ("bottom", .v (.int (q.den : Int)))]
abbrev iD (n : Int) : D := .v (.int n)
abbrev bD (b : Bool) : D := .v (.bl b)
/-- a number: a Fraction, an int -/
def NumV (C : Addr) (y : D) (q : Rat) : Prop := y = fr C q ∨ ∃ n : Int, y = iD n ∧ q = (n : Rat)
theorem den_fr {K : PySem.W.Frag} {H : Hp} {C : Addr} {q : Rat} {v : V} : Den K H (fr C q) v ↔ ∃ a dx, v = .ref a ∧ H a = some (.ins C dx [("top", .int q.num), ("bottom", .int (q.den : Int))]) := by
  simp only [Den, DenF]
  constructor
  · rintro ⟨a, dx, gs, h1, h2, z, zs, h3, h4, z', zs', h5, h6, h7⟩
    subst h4 h6 h7 h5 h3
    exact ⟨a, dx, h1, h2⟩
  · rintro ⟨a, dx, h1, h2⟩
    exact ⟨a, dx, _, h1, h2, _, _, rfl, rfl, _, _, rfl, rfl, rfl⟩

/-- what the written part says of the class Fraction, at C -/
structure FrTxt (K : PySem.W.Frag) (mg : Str → Option Value) (C : Addr) : Prop where
  cl : Cls K C
  nT : NoAttr K C "top"
  nB : NoAttr K C "bottom"
  mgC : mg "Fraction" = some (.ref C)
  ca : PySem.W.findIn K (.ref C) "__class__" = some (some (.builtin "object.__class__"))
  cn : PySem.W.specialIn K (.builtin "object.__class__") "__get__" = some (some (.builtin "getset_descriptor.__get__"))
  ct : PySem.W.takesIn K (.builtin "object.__class__") = some true
  cm : PySem.W.mroIn K C (.type "object") = some true
  kCC : PySem.W.kitOne K (.ref C) (.ref C) = some true
  kIC : PySem.W.kitOne K (.type "int") (.ref C) = some false
  sub1 : PySem.W.subIn K (.type "int") (.ref C) = some false
  sub2 : PySem.W.subIn K (.ref C) (.type "int") = some false
  isi : mg "isinstance" = none
  tInt : mg "int" = none
  gcd : mg "gcd" = some (.builtin "math.gcd")
theorem kit_self {K : PySem.W.Frag} {C : Addr} : PySem.W.kitOne K (.ref C) (.ref C) = some true := by
  unfold PySem.W.kitOne
  rw [if_pos (by simp)]
theorem kit_sub {K : PySem.W.Frag} {C : Addr} {t : Value} {b : Bool} (ic : PySem.W.isClsIn K C = true) (ty : PySem.W.typeIn K (.ref C) = some (.type "type")) (s : PySem.W.subIn K t (.ref C) = some b) (hne : (t == Value.ref C) = false) : PySem.W.kitOne K t (.ref C) = some b := by
  unfold PySem.W.kitOne PySem.W.kitCls
  rw [if_neg (by rw [hne]; exact Bool.false_ne_true)]
  show (if ((PySem.W.clsIn K C).isSome && PySem.W.typeIn K (.ref C) == some (.type "type")) = true then PySem.W.subIn K t (.ref C) else none) = some b
  rw [if_pos (by
    rw [ty]
    have : (PySem.W.clsIn K C).isSome = true := ic
    rw [this]
    simp), s]
theorem ty_ne (n : String) (C : Addr) : (Value.type n == Value.ref C) = false := Bool.eq_false_iff.mpr fun q => by cases beq_iff_eq.mp q
theorem rf_ne {A C : Addr} (h : A ≠ C) : (Value.ref A == Value.ref C) = false := Bool.eq_false_iff.mpr fun q => h (Value.ref.inj (beq_iff_eq.mp q))
section
variable {X : Cx} {Γ : Gm} {d d1 d2 : D} {e a b c : Expr} {es : List Expr} {pos : Pos} {C : Addr}
theorem ed_glob {x : Str} {v : V} {u : Value} (hm : X.mg x = some u) (r : RelV v u) (hg : Gl X x := by rfl) (hd : (x == ("__debug__" : Str)) = false := by decide) : ED X (.Name x pos) Γ (.v v) := ⟨_, pe_glob hg hm r hd, fun σ H C Q q => q _ H (Ex.refl H) (den_v.mpr rfl)⟩
theorem ed_bltn {x : Str} {v : V} {u : Value} (hm : X.mg x = none) (hv : bootBuiltins x = some u) (r : RelV v u) (hg : Gl X x := by rfl) (hn : x ≠ "__name__" := by decide) (hd : (x == ("__debug__" : Str)) = false := by decide) : ED X (.Name x pos) Γ (.v v) := ⟨_, pe_bltn hg hm hv r hn hd, fun σ H C Q q => q _ H (Ex.refl H) (den_v.mpr rfl)⟩
/-- the type that isinstance sees -/
inductive TyD (K : PySem.W.Frag) (mg : Str → Option Value) : D → Value → Prop where
  | int (n : Int) : TyD K mg (iD n) (.type "int")
  | bl (b : Bool) : TyD K mg (bD b) (.type "bool")
  | fr {C : Addr} {q : Rat} (T : FrTxt K mg C) : TyD K mg (fr C q) (.ref C)
theorem TyD.to {K : PySem.W.Frag} {mg : Str → Option Value} {H : Hp} {d : D} {t : Value} {v : V} (h : TyD K mg d t) (hd : Den K H d v) : TyX K H v t := by
  cases h with
  | int n => rw [den_v.mp hd]; exact .base (.int n)
  | bl b => rw [den_v.mp hd]; exact .base (.bl b)
  | fr T =>
    obtain ⟨a, dx, rfl, h⟩ := den_fr.mp hd
    exact .base (.ins h T.cl T.ca T.cn T.ct T.cm)
/-- isinstance(a, c) -/
theorem ed_isi {k : Bool} {u t : Value} {cv : V} {p : Pos} (hm : X.mg "isinstance" = none) (ha : ED X a Γ d) (hc : ED X c Γ (.v cv)) (hcv : ClsV cv u) (ht : TyD X.K X.mg d t) (hk : PySem.W.kitOne X.K t u = some k) (hg : Gl X "isinstance" := by rfl)
    (he : starEach (a :: [c]) X.env = (false, eval a X.env) :: starEach [c] X.env := by rfl) (hs1 : starEach (c :: []) X.env = (false, eval c X.env) :: starEach [] X.env := by rfl) (hpl : (backTo pos (starEach [c] X.env)).any (·.1) = false := by rfl) :
    ED X (.Call (.Name "isinstance" p) [a, c] [] pos) Γ (bD k) := by
  refine ed_callB (d := bD k) (r := rIsi X.K) call_isi hm (by decide +kernel) (ad_cons ha (ad_cons hc ad_nil hs1) he) (fun xs H h Q q => ?_) hg (by decide) (by decide) he hpl
  obtain ⟨x, y, rfl, h1, h2⟩ := denL_two h
  rw [den_v.mp h2]
  exact ⟨x, cv, t, u, k, rfl, hcv, ht.to h1, hk, q _ H (Ex.refl H) (den_v.mpr rfl)⟩
/-- isinstance(a, (c1, c2)) -/
theorem ed_isi2 {k : Bool} {u1 u2 t : Value} {cv1 cv2 : V} {c1 c2 : Expr} {p p2 : Pos} {x1} (hm : X.mg "isinstance" = none) (ha : ED X a Γ d) (hc1 : PE X c1 (tC cv1)) (hc2 : PE X c2 (tC cv2)) (hcv1 : ClsV cv1 u1) (hcv2 : ClsV cv2 u2)
    (ht : TyD X.K X.mg d t) (hk : PySem.W.kitAny X.K t [u1, u2] = some k) (hg : Gl X "isinstance" := by rfl)
    (he : starEach (a :: [.Tuple [c1, c2] x1 p2]) X.env = (false, eval a X.env) :: starEach [.Tuple [c1, c2] x1 p2] X.env := by rfl) (hs1 : starEach (.Tuple [c1, c2] x1 p2 :: []) X.env = (false, eval (.Tuple [c1, c2] x1 p2) X.env) :: starEach [] X.env := by rfl)
    (hs2 : starEach (c1 :: [c2]) X.env = (false, eval c1 X.env) :: starEach [c2] X.env := by rfl) (hs3 : starEach (c2 :: []) X.env = (false, eval c2 X.env) :: starEach [] X.env := by rfl)
    (hpl : (backTo pos (starEach [.Tuple [c1, c2] x1 p2] X.env)).any (·.1) = false := by rfl) :
    ED X (.Call (.Name "isinstance" p) [a, .Tuple [c1, c2] x1 p2] [] pos) Γ (bD k) := by
  obtain ⟨ta, pa, qa⟩ := ha
  refine ⟨_, pe_callB (call_isiT (X := X)) hg hm (by decide +kernel) (pa_cons pa (pa_cons (pe_tup (pa_cons hc1 (pa_cons hc2 pa_nil hs3) hs2)) pa_nil hs1) he) (by decide) (by decide) he hpl, fun σ H Cc Q q => ?_⟩
  refine qa σ H Cc _ fun v H1 e1 h1 => ⟨(by show 2 ≤ sizeLine; decide), fun tp hn => ?_⟩
  exact ⟨v, tp, [cv1, cv2], t, [u1, u2], k, rfl, upd_same, .cons hcv1 (.cons hcv2 .nil), ht.to (h1.mono (Ex.new hn)), hk, q _ _ (e1.trans (Ex.new hn)) (den_v.mpr rfl)⟩

/-! ### Fraction(a, b) -/
def spInit (C : Addr) : Sp := fun vs H Q _ => ∃ (p dx : Addr) (a b : Int), vs = [.ref p, .int a, .int b] ∧ b ≠ 0 ∧ b.natAbs < 2 ^ 8900 ∧ H p = some (.ins C dx []) ∧
  Q .non (upd H p (.ins C dx [("top", .int (Rat.divInt a b).num), ("bottom", .int ((Rat.divInt a b).den : Int))]))
theorem init_new {C : Addr} {Q : VK} {H H1 : Hp} {K : PySem.W.Frag} {E : XK} {i j : Int} {x dx : Addr} (hb : j ≠ 0) (hz : j.natAbs < 2 ^ 8900) (nx : H1 x = none) (ndx : H1 dx = none) (ne : dx ≠ x) (e1 : Ex H H1)
    (q : ∀ v H', Ex H H' → Den K H' (fr C (Rat.divInt i j)) v → Q v H') : spInit C [.ref x, .int i, .int j] (upd (upd H1 dx (.own x)) x (.ins C dx [])) (fun v H2 => v = .non ∧ Q (.ref x) H2) E := by
  refine ⟨x, dx, i, j, rfl, hb, hz, upd_same, rfl, q _ _ (fun b o ho => ?_) (den_fr.mpr ⟨x, dx, rfl, upd_same⟩)⟩
  have h1 : H1 b = some o := e1 b o ho
  rw [upd_ne (ne_of_none h1 nx), upd_ne (ne_of_none h1 nx), upd_ne (ne_of_none h1 ndx)]
  exact h1
theorem ed_mk {CX : CXT} {k : Nat} {f : Addr} {fd : FuncData} {ps : List Str} {E : XK} {p : Pos} {i j : Int} (M : Mk X.K C f) (F : FnOk X.prog X.w X.K X.mg X.base CX k f fd ps (spInit C)) (hr : Room (k + 1) X.A) (hm : X.mg "Fraction" = some (.ref C))
    (hb : Binds X.K fd ps []) (hx : Passes CX X E) (ha : AD X (e :: es) Γ [iD i, iD j]) (h0 : j ≠ 0) (hz : j.natAbs < 2 ^ 8900) (hg : Gl X "Fraction" := by rfl) (he : starEach (e :: es) X.env = (false, eval e X.env) :: starEach es X.env := by rfl)
    (hpl : (backTo pos (starEach es X.env)).any (·.1) = false := by rfl) : ED X (.Call (.Name "Fraction" p) (e :: es) [] pos) Γ (fr C (Rat.divInt i j)) := by
  obtain ⟨t, pp, q⟩ := ha
  refine ⟨_, pe_make M F hr hg hm hb .nil hx pp (by decide) he hpl, fun σ H Cc Q r => q σ H Cc _ fun vs H1 e1 h1 x dx nx ndx ne => ?_⟩
  obtain ⟨x1, x2, rfl, h2, h3⟩ := denL_two h1
  rw [den_v.mp h2, den_v.mp h3]
  exact init_new h0 hz nx ndx ne e1 r
theorem ed_mk1 {CX : CXT} {k : Nat} {f : Addr} {fd : FuncData} {ps : List Str} {E : XK} {p : Pos} {i : Int} {ds : List Value} (M : Mk X.K C f) (F : FnOk X.prog X.w X.K X.mg X.base CX k f fd ps (spInit C)) (hr : Room (k + 1) X.A) (hm : X.mg "Fraction" = some (.ref C))
    (hb : Binds X.K fd ps ds) (hd : Vals [V.int 1] ds) (hx : Passes CX X E) (ha : ED X e Γ (iD i)) (hg : Gl X "Fraction" := by rfl) (he : starEach (e :: []) X.env = (false, eval e X.env) :: starEach [] X.env := by rfl)
    (hpl : (backTo pos (starEach [] X.env)).any (·.1) = false := by rfl) : ED X (.Call (.Name "Fraction" p) [e] [] pos) Γ (fr C (i : Rat)) := by
  obtain ⟨t, pp, q⟩ := ha
  have e0 : (i : Rat) = Rat.divInt i 1 := (Rat.num_divInt_den (i : Rat)).symm
  rw [e0]
  refine ⟨_, pe_make M F hr hg hm hb hd hx (pa_cons pp pa_nil he) (by decide) he hpl, fun σ H Cc Q r => q σ H Cc _ fun v H1 e1 h1 x dx nx ndx ne => ?_⟩
  rw [den_v.mp h1]
  exact init_new (by decide) (Nat.one_lt_two_pow (by decide)) nx ndx ne e1 r
end
/-! ### sizes -/
theorem Sz.num {n : Nat} {q : Rat} (h : Sz n q) : q.num.natAbs < 2 ^ n := h.1
theorem Sz.denI {n : Nat} {q : Rat} (h : Sz n q) : ((q.den : Int)).natAbs < 2 ^ n := h.2
theorem Sz.mono {n m : Nat} {q : Rat} (h : Sz n q) (hm : n ≤ m) : Sz m q := ⟨Nat.lt_of_lt_of_le h.1 (Nat.pow_le_pow_right (by decide) hm), Nat.lt_of_lt_of_le h.2 (Nat.pow_le_pow_right (by decide) hm)⟩
theorem cdivZ_of {i j : Int} (h : j ≠ 0) (hb : j.natAbs < 2 ^ 8900) : CDivZ i j := ⟨h, Nat.lt_of_lt_of_le (PySem.Flt.log2_lt_of (by decide) hb) (by decide)⟩
end Trk

namespace Trk
open PySem L2 Evl
section
variable {X : Cx} {Γ : Gm} {d d1 d2 : D} {e a b c : Expr} {es : List Expr} {pos : Pos} {st : Stmt} {sts body rest : List Stmt} {Φ Ψ : Out → Prop}
/-- what a piece of the text does, by itself -/
def allS (X : Cx) (st : List Stmt) : TS := fun E σ H => ∀ (pins : List (Addr × Obj)) (s : Shared), Inv X pins σ H s → wpAny (model X.prog X.w) X.A (execs st X.env) (SP X pins E) X.xe s
def allT (X : Cx) (c : Expr) : TT := fun σ H Q => ∀ (pins : List (Addr × Obj)) (s : Shared), Inv X pins σ H s → wpAny (model X.prog X.w) X.A (isTrue c X.env (eval c X.env)) (TP X pins σ Q) X.xe s
theorem pss_all : PSs X st' (allS X st') := ⟨fun pins s σ H E I h => h pins s I⟩
theorem pt_all : PT X c (allT X c) := ⟨fun pins s σ H Q I h => h pins s I⟩
theorem SsD.all (h : SsD X sts Γ Φ) {σ : L2.St} {H : Hp} {E : Ends} (hl : σ.length = X.N.length) (C : Ctx X.K H Γ σ) (T : Tk X H Φ E) : allS X sts E σ H := by
  obtain ⟨t, p, q⟩ := h
  exact fun pins s I => p.run pins s σ H E I (q σ H hl C E T)
theorem TD.all {k : Bool} (h : TD X c Γ k) {σ : L2.St} {H : Hp} {Q : Bool → Hp → Prop} (C : Ctx X.K H Γ σ) (q : ∀ H', Ex H H' → Q k H') : allT X c σ H Q := by
  obtain ⟨t, p, r⟩ := h
  exact fun pins s I => p.run pins s σ H Q I (r σ H C Q q)

/-! ### lists read -/
theorem denL_at {K : PySem.W.Frag} {H : Hp} {ds : List D} {ys : List V} {i : Int} (h : DenL K H ds ys) (e : atI ds i = some d) : ∃ y, atI ys i = some y ∧ Den K H d y := by
  unfold atI at e ⊢
  rw [← h.len]
  cases hx : ixN ds.length i with
  | none =>
    rw [hx] at e
    cases e
  | some j =>
    rw [hx] at e
    exact h.get e
theorem ed_ix {ds : List D} {i : Int} (ha : ED X a Γ (.lst ds)) (hb : ED X b Γ (iD i)) (h : atI ds i = some d) (hs : PlainIx b := by exact fun _ _ => rfl) : ED X (.Subscript a b pos) Γ d := by
  obtain ⟨ta, pa, qa⟩ := ha
  obtain ⟨tb, pb, qb⟩ := hb
  refine ⟨_, pe_ix ix_list pa pb hs, fun σ H C Q q => qa σ H C _ fun x H1 e1 h1 => qb σ H1 (C.mono e1) _ fun y H2 e2 h2 => ?_⟩
  have h1' := h1.mono e2
  simp only [Den] at h1'
  obtain ⟨p, ys, rfl, hq, hL⟩ := h1'
  obtain ⟨z, hz, hd⟩ := denL_at hL h
  exact ⟨p, ys, i, z, rfl, den_v.mp h2, hq, hz, q z H2 (e1.trans e2) hd⟩
theorem ed_ixT {ds : List D} {i : Int} (ha : ED X a Γ (.tup ds)) (hb : ED X b Γ (iD i)) (h : atI ds i = some d) (hs : PlainIx b := by exact fun _ _ => rfl) : ED X (.Subscript a b pos) Γ d := by
  obtain ⟨ta, pa, qa⟩ := ha
  obtain ⟨tb, pb, qb⟩ := hb
  refine ⟨_, pe_ix ix_tup pa pb hs, fun σ H C Q q => qa σ H C _ fun x H1 e1 h1 => qb σ H1 (C.mono e1) _ fun y H2 e2 h2 => ?_⟩
  have h1' := h1.mono e2
  simp only [Den] at h1'
  obtain ⟨p, ys, rfl, hq, hL⟩ := h1'
  obtain ⟨z, hz, hd⟩ := denL_at hL h
  exact ⟨p, ys, i, z, rfl, den_v.mp h2, hq, hz, q z H2 (e1.trans e2) hd⟩
theorem ed_len {ds : List D} {p : Pos} (hm : X.mg "len" = none) (ha : ED X a Γ (.lst ds)) (hg : Gl X "len" := by rfl) (he : starEach (a :: []) X.env = (false, eval a X.env) :: starEach [] X.env := by rfl) (hpl : (backTo pos (starEach [] X.env)).any (·.1) = false := by rfl) :
    ED X (.Call (.Name "len" p) [a] [] pos) Γ (iD (ds.length : Int)) := by
  refine ed_callB (d := iD (ds.length : Int)) call_len_seq hm PySem.boot_len (ad_cons ha ad_nil he) (fun xs H h Q q => ?_) hg (by decide) (by decide) he hpl
  obtain ⟨x, rfl, h1⟩ := denL_one h
  simp only [Den] at h1
  obtain ⟨p, ys, rfl, hq, hL⟩ := h1
  refine ⟨p, ys, rfl, .inl hq, ?_⟩
  rw [← hL.len]
  exact q _ H (Ex.refl H) (den_v.mpr rfl)
/-- abs(e), int(e) of an int -/
theorem ed_abs {i : Int} {p : Pos} (hm : X.mg "abs" = none) (ha : ED X a Γ (iD i)) (hg : Gl X "abs" := by rfl) (he : starEach (a :: []) X.env = (false, eval a X.env) :: starEach [] X.env := by rfl) (hpl : (backTo pos (starEach [] X.env)).any (·.1) = false := by rfl) :
    ED X (.Call (.Name "abs" p) [a] [] pos) Γ (iD (if i < 0 then -i else i)) := by
  refine ed_callB (d := iD (if i < 0 then -i else i)) call_abs hm (by decide +kernel) (ad_cons ha ad_nil he) (fun xs H h Q q => ?_) hg (by decide) (by decide) he hpl
  obtain ⟨x, rfl, h1⟩ := denL_one h
  rw [den_v.mp h1]
  exact ⟨i, rfl, q _ H (Ex.refl H) (den_v.mpr rfl)⟩
theorem ed_toInt {i : Int} {p : Pos} (hm : X.mg "int" = none) (ha : ED X a Γ (iD i)) (hg : Gl X "int" := by rfl) (he : starEach (a :: []) X.env = (false, eval a X.env) :: starEach [] X.env := by rfl) (hpl : (backTo pos (starEach [] X.env)).any (·.1) = false := by rfl) :
    ED X (.Call (.Name "int" p) [a] [] pos) Γ (iD i) := by
  refine ed_callTy (d := iD i) call_int1 hm (by decide +kernel) (ad_cons ha ad_nil he) (fun xs H h Q q => ?_) hg (by decide) (by decide) he hpl
  obtain ⟨x, rfl, h1⟩ := denL_one h
  rw [den_v.mp h1]
  exact .inl ⟨i, rfl, q _ H (Ex.refl H) (den_v.mpr rfl)⟩

/-! ### loops -/
/-- for x in range(n) -/
theorem z_forR (i : Nat) {x : Str} {n : Nat} {p1 p2 p3 : Pos} (J : Nat → Gm → Prop) (hc : X.calm = true) (hm : X.mg "range" = none) (ha : ED X e Γ (iD (n : Int))) (hd : X.N.Nodup) (hn : (n : Int) < 2 ^ 62) (h0 : J 0 Γ)
    (hs : ∀ j Γ', j < n → J j Γ' → SsD X body (Γ'.set i (some (iD (j : Int)))) (fun o => (∃ Γ'', (o = .nx Γ'' ∨ o = .ct Γ'') ∧ J (j + 1) Γ'') ∨ (∃ d, o = .rt d ∧ Φ (.rt d)) ∨ (∃ Γ'', o = .bk Γ'' ∧ SsD X sts Γ'' Φ) ∨ ∃ c fs Γ'', o = .ex c fs Γ'' ∧ Φ (.ex c fs Γ'')))
    (k : ∀ Γ', J n Γ' → SsD X sts Γ' Φ) (hp : PassesOwn (model X.prog X.w) X.A X.env X.xe := by exact PassesOwn.never) (hN : X.N[i]? = some x := by rfl) (hx : Loc X.env.scope x := by first | exact Or.inl rfl | exact Or.inr rfl) (hg : Gl X "range" := by rfl)
    (he : starEach [e] X.env = [(false, eval e X.env)] := by rfl) (hse : starEach (e :: []) X.env = (false, eval e X.env) :: starEach [] X.env := by rfl)
    (hf : X.fn x = true ∨ X.env.scope.names.lookup x = some .local := by first | exact .inl rfl | exact .inr rfl)
    (hfs : ∀ x, foldedSetIterable (.Call (.Name "range" p1) [e] [] p2) X.env x = pure x := by intro _; rfl) : SsD X (.For (.Name x p3) (.Call (.Name "range" p1) [e] [] p2) body [] pos :: sts) Γ Φ := by
  obtain ⟨ta, pa, qa⟩ := ha
  refine ⟨_, pss_cons (ps_for hp hc (pi_range1 hg hm (pa_cons pa pa_nil hse) he) (pg_name (i := i) hd hN hx hf) (pss_all (st' := body)) hfs) (pss_all (st' := sts)), fun σ H hl C E T => ?_⟩
  refine qa σ H C _ fun v H1 e1 h1 => ?_
  refine ⟨(n : Int), by rw [den_v.mp h1], by omega, hn, ?_⟩
  rw [Int.toNat_natCast]
  have hi : i < X.N.length := (List.getElem?_eq_some_iff.mp hN).1
  refine for_range (lo := 0) (n := n) (fun j σ' H' => ∃ Γ', J j Γ' ∧ σ'.length = X.N.length ∧ Ctx X.K H' Γ' σ' ∧ Ex H1 H') ⟨Γ, h0, hl, C.mono e1, Ex.refl H1⟩ ?_ ?_
  · rintro j σ' H' hj ⟨Γ', g1, g2, g3, g4⟩
    show allS X body _ (σ'.set i (some (.int ((0 : Int) + (j : Int))))) H'
    rw [Int.zero_add]
    refine (hs j Γ' hj g1).all (by rw [List.length_set]; exact g2) (g3.set (by rw [g2]; exact hi) (den_v.mpr rfl)) ?_
    refine ⟨fun Γ'' σ2 H2 z e2 l2 c2 => ?_, fun d v H2 z e2 hv => ?_, fun Γ'' σ2 H2 z e2 l2 c2 => ?_, fun Γ'' σ2 H2 z e2 l2 c2 => ?_, fun cl fs Γ'' d σ2 H2 z e2 l2 c2 x2 => ?_⟩
    · rcases z with ⟨Γ3, z | z, w⟩ | ⟨_, z, _⟩ | ⟨_, z, _⟩ | ⟨_, _, _, z, _⟩ <;> cases z
      exact ⟨Γ'', w, l2, c2, g4.trans e2⟩
    · rcases z with ⟨Γ3, z | z, w⟩ | ⟨_, z, w⟩ | ⟨_, z, _⟩ | ⟨_, _, _, z, _⟩ <;> cases z
      exact T.rt d v H2 w ((e1.trans g4).trans e2) hv
    · rcases z with ⟨Γ3, z | z, w⟩ | ⟨_, z, w⟩ | ⟨_, z, w⟩ | ⟨_, _, _, z, _⟩ <;> cases z
      exact w.all l2 c2 (T.mono ((e1.trans g4).trans e2))
    · rcases z with ⟨Γ3, z | z, w⟩ | ⟨_, z, w⟩ | ⟨_, z, w⟩ | ⟨_, _, _, z, _⟩ <;> cases z
      exact ⟨Γ'', w, l2, c2, g4.trans e2⟩
    · rcases z with ⟨Γ3, z | z, w⟩ | ⟨_, z, w⟩ | ⟨_, z, w⟩ | ⟨_, _, _, z, w⟩ <;> cases z
      exact T.ex cl fs Γ'' d σ2 H2 w ((e1.trans g4).trans e2) l2 c2 x2
  · rintro σ' H' ⟨Γ', g1, g2, g3, g4⟩
    exact (k Γ' g1).all g2 g3 (T.mono (e1.trans g4))
/-- while -/
theorem z_while (J : Nat → Gm → Prop) (m0 : Nat) (h0 : J m0 Γ)
    (hs : ∀ m Γ', J m Γ' → ∃ k, TD X c Γ' k ∧ (k = true → SsD X body Γ' (fun o => (∃ Γ'' m', (o = .nx Γ'' ∨ o = .ct Γ'') ∧ m' < m ∧ J m' Γ'') ∨ (∃ d, o = .rt d ∧ Φ (.rt d)) ∨ (∃ Γ'', o = .bk Γ'' ∧ SsD X sts Γ'' Φ) ∨ ∃ c fs Γ'', o = .ex c fs Γ'' ∧ Φ (.ex c fs Γ''))) ∧ (k = false → SsD X sts Γ' Φ))
    (hp : PassesOwn (model X.prog X.w) X.A X.env X.xe := by exact PassesOwn.never) : SsD X (.While c body [] pos :: sts) Γ Φ := by
  refine ⟨_, pss_cons (ps_while hp (pt_all (c := c)) (pss_all (st' := body))) (pss_all (st' := sts)), fun σ H hl C E T => ?_⟩
  refine ⟨fun m σ' H' => ∃ Γ', J m Γ' ∧ σ'.length = X.N.length ∧ Ctx X.K H' Γ' σ' ∧ Ex H H', ⟨m0, Γ, h0, hl, C, Ex.refl H⟩, ?_⟩
  rintro m σ' H' ⟨Γ', g1, g2, g3, g4⟩
  obtain ⟨k, ht, hb, hn⟩ := hs m Γ' g1
  refine ht.all g3 fun H2 e2 => ?_
  cases k with
  | false =>
    show allS X sts E σ' H2
    exact (hn rfl).all g2 (g3.mono e2) (T.mono (g4.trans e2))
  | true =>
    show ∃ N : L2.St → Hp → Prop, _
    refine ⟨fun σ3 H3 => ∃ m' Γ3, m' < m ∧ J m' Γ3 ∧ σ3.length = X.N.length ∧ Ctx X.K H3 Γ3 σ3 ∧ Ex H H3, fun σ3 H3 ⟨m', Γ3, q1, q2, q3, q4, q5⟩ => ⟨m', q1, Γ3, q2, q3, q4, q5⟩, ?_⟩
    refine (hb rfl).all g2 (g3.mono e2) ?_
    refine ⟨fun Γ'' σ2 H2 z e3 l2 c2 => ?_, fun d v H2 z e3 hv => ?_, fun Γ'' σ2 H2 z e3 l2 c2 => ?_, fun Γ'' σ2 H2 z e3 l2 c2 => ?_, fun cl fs Γ'' d σ2 H2 z e3 l2 c2 x2 => ?_⟩
    · rcases z with ⟨Γ3, m', z | z, w1, w2⟩ | ⟨_, z, _⟩ | ⟨_, z, _⟩ | ⟨_, _, _, z, _⟩ <;> cases z
      exact ⟨m', Γ'', w1, w2, l2, c2, (g4.trans e2).trans e3⟩
    · rcases z with ⟨Γ3, m', z | z, w⟩ | ⟨_, z, w⟩ | ⟨_, z, _⟩ | ⟨_, _, _, z, _⟩ <;> cases z
      exact T.rt d v _ w ((g4.trans e2).trans e3) hv
    · rcases z with ⟨Γ3, m', z | z, w⟩ | ⟨_, z, w⟩ | ⟨_, z, w⟩ | ⟨_, _, _, z, _⟩ <;> cases z
      exact w.all l2 c2 (T.mono ((g4.trans e2).trans e3))
    · rcases z with ⟨Γ3, m', z | z, w1, w2⟩ | ⟨_, z, w⟩ | ⟨_, z, w⟩ | ⟨_, _, _, z, _⟩ <;> cases z
      exact ⟨m', Γ'', w1, w2, l2, c2, (g4.trans e2).trans e3⟩
    · rcases z with ⟨Γ3, m', z | z, w⟩ | ⟨_, z, w⟩ | ⟨_, z, w⟩ | ⟨_, _, _, z, w⟩ <;> cases z
      exact T.ex cl fs Γ'' d σ2 _ w ((g4.trans e2).trans e3) l2 c2 x2
/-- if c: body, joined behind: from whatever Γ' the two ways leave -/
theorem z_if {k : Bool} {sa sb : List Stmt} (J : Gm → Prop) (hc : TD X c Γ k) (ha : k = true → SsD X sa Γ (fun o => ∃ Γ', o = .nx Γ' ∧ J Γ')) (hb : k = false → SsD X sb Γ (fun o => ∃ Γ', o = .nx Γ' ∧ J Γ')) (h : ∀ Γ', J Γ' → SsD X sts Γ' Φ) : SsD X (.If c sa sb pos :: sts) Γ Φ :=
  ss_seq (Ψ := fun o => ∃ Γ', o = .nx Γ' ∧ J Γ') (sd_if hc ha hb) (fun Γ' ⟨Γ2, e, j⟩ => by
    cases e
    exact h _ j) fun o h1 ⟨Γ2, e, _⟩ => absurd e (h1 _)
end
end Trk

namespace Trk
open PySem L2 Evl
/-! ### comparisons of numbers, of which one at least is a Fraction -/
def R_cmp (C : Addr) (b : Rat → Rat → Bool) : List D → D → Prop := fun ds d => ∃ p y q, ds = [fr C p, y] ∧ NumV C y q ∧ Sz 4000 p ∧ Sz 4000 q ∧ d = bD (b p q)
def cmpB : CmpOp → Rat → Rat → Bool
  | .Eq, p, q => decide (p = q)
  | .NotEq, p, q => !decide (p = q)
  | .Lt, p, q => decide (p < q)
  | .LtE, p, q => decide (p ≤ q)
  | .Gt, p, q => decide (q < p)
  | .GtE, p, q => decide (q ≤ p)
  | _, _, _ => false
def six : CmpOp → Bool
  | .Eq | .NotEq | .Lt | .LtE | .Gt | .GtE => true
  | _ => false
def mirr : CmpOp → CmpOp
  | .Lt => .Gt
  | .LtE => .GtE
  | .Gt => .Lt
  | .GtE => .LtE
  | o => o
theorem cmpB_mirr {op : CmpOp} (p q : Rat) : cmpB (mirr op) q p = cmpB op p q := by
  cases op <;> first | rfl | (show decide (q = p) = decide (p = q); exact decide_eq_decide.mpr eq_comm) | (show (!decide (q = p)) = !decide (p = q); rw [show decide (q = p) = decide (p = q) from decide_eq_decide.mpr eq_comm])
/-- the six methods keep their promises -/
structure CmpOk (P : Program) (w : World) (K : PySem.W.Frag) (mg : Str → Option Value) (base : Heap) (C : Addr) (op : CmpOp) : Prop where
  ex : ∃ f fd ps, CmpM K C (cmpInfo op).2.1 f ∧ FnOk P w K mg base CX0 6 f fd ps (spD K 2 (R_cmp C (cmpB op))) ∧ Binds K fd ps []
def PairV (C : Addr) (x y : D) (p q : Rat) : Prop := (x = fr C p ∧ NumV C y q) ∨ (y = fr C q ∧ NumV C x p)
section
variable {X : Cx} {Γ : Gm} {d1 d2 : D} {a b : Expr} {pos : Pos} {C : Addr} {p q : Rat}
theorem ed_cmpN {op : CmpOp} (T : FrTxt X.K X.mg C) (HC : ∀ op, six op = true → CmpOk X.prog X.w X.K X.mg X.base C op) (h6 : six op = true) (hr : Room 6 X.A) (ha : ED X a Γ d1) (hb : ED X b Γ d2) (h : PairV C d1 d2 p q) (hp : Sz 4000 p) (hq : Sz 4000 q)
    (hm : behindInMarks op b = false := by exact nomark _) : ED X (.Compare a [op] [b] pos) Γ (bD (cmpB op p q)) := by
  obtain ⟨f, fd, ps, M, F, B⟩ := (HC op h6).ex
  have ro : ∀ a b, compareOp op a b = richCompare op a b := by cases op <;> first | (intro _ _; rfl) | cases h6
  rcases h with ⟨rfl, hy⟩ | ⟨rfl, hx⟩
  · rcases id hy with rfl | ⟨n, rfl, rfl⟩
    · exact ed_cmp (cmp_own ro M F hr B pass0) ha hb (rd_own ⟨p, _, q, rfl, hy, hp, hq, rfl⟩) hm
    · exact ed_cmp (cmp_ownI ro M T.sub1 F hr B pass0) ha hb (rd_ownI ⟨p, _, _, rfl, hy, hp, hq, rfl⟩) hm
  · rcases id hx with rfl | ⟨n, rfl, rfl⟩
    · exact ed_cmp (cmp_own ro M F hr B pass0) ha hb (rd_own ⟨p, _, q, rfl, .inl rfl, hp, hq, rfl⟩) hm
    · have h6' : six (mirr op) = true := by cases op <;> first | rfl | cases h6
      obtain ⟨g, gd, qs, M', F', B'⟩ := (HC (mirr op) h6').ex
      have e : (cmpInfo op).2.2 = (cmpInfo (mirr op)).2.1 := by cases op <;> first | rfl | cases h6
      have M2 : CmpM X.K C (cmpInfo op).2.2 g := by rw [e]; exact M'
      have S : ∃ id B, CmpSlot op id B := by
        cases op <;> first | exact ⟨_, _, cEq⟩ | exact ⟨_, _, cNe⟩ | exact ⟨_, _, cLt⟩ | exact ⟨_, _, cLe⟩ | exact ⟨_, _, cGt⟩ | exact ⟨_, _, cGe⟩ | cases h6
      obtain ⟨id, B0, S⟩ := S
      refine ed_is (ed_cmp (cmp_iown ro S M2 T.sub2 F' hr B' pass0) ha hb (rd_iown ⟨q, _, _, rfl, .inr ⟨n, rfl, rfl⟩, hq, hp, rfl⟩) hm) ?_
      rw [cmpB_mirr]
end
/-! ### the script -/
theorem denL_ints {K : PySem.W.Frag} {H : Hp} : ∀ ns : List Int, DenL K H (ns.map iD) (ns.map V.int)
  | [] => DenL.nil
  | n :: ns => DenL.cons (den_v.mpr rfl) (denL_ints ns)
theorem den_script {K : PySem.W.Frag} {H : Hp} {a : Addr} {ns : List Int} (h : SqL K H a (ns.map V.int)) : Den K H (.lst (ns.map iD)) (.ref a) := by
  simp only [Den]
  exact ⟨a, _, rfl, h, denL_ints ns⟩
/-- _law_cell -/
def R_cell : List D → D → Prop := fun ds d => ∃ (ns : List Int) (k : Nat), ds = [.lst (ns.map iD), iD (k : Int)] ∧ d = iD (ns.getD k 0)
theorem at_nat {α : Type} {xs : List α} {j : Nat} {v : α} (h : xs[j]? = some v) : atI xs (j : Int) = some v := atI_nat h
/-- the law itself -/
def R_law : List D → D → Prop := fun ds d => ∃ ns : List Int, ds = [.lst (ns.map iD)] ∧ ns.length ≤ 63 ∧ d = bD true
theorem sp_law {K : PySem.W.Frag} {H : Hp} {a : Addr} {ns : List Int} {Q : VK} {E : XK} (hl : ns.length ≤ 63) (hS : SqL K H a (ns.map V.int)) (h : ∀ H', Q (.bl true) H') : spD K 1 R_law [.ref a] H Q E :=
  ⟨_, _, rfl, DenL.cons (den_script hS) DenL.nil, ⟨ns, rfl, hl, rfl⟩, fun v H' _ hv => by
    rw [den_v.mp hv]
    exact h H'⟩
end Trk

namespace Trk
open PySem L2 Evl
section
variable {X : Cx} {Γ : Gm} {d d1 d2 : D} {e a b c : Expr} {es : List Expr} {pos : Pos} {st : Stmt} {sts body rest : List Stmt} {Φ Ψ : Out → Prop} {cls : Value} {fs : List (Str × D)}
/-- an expression that raises -/
def XD (X : Cx) (e : Expr) (Γ : Gm) (cls : Value) (fs : List (Str × D)) : Prop :=
  ∃ t, PE X e t ∧ ∀ σ H, Ctx X.K H Γ σ → (∀ d H', Ex H H' → DenX X.K H' d fs → W0 X cls d σ H') → ∀ Q : VK, t σ H Q
theorem sd_exprX (h : XD X e Γ cls fs) (hp : Φ (.ex cls fs Γ)) (hs : swapsWith e none pos.line X.env = pure false := by rfl) : SD X (.Expr e pos) Γ Φ := by
  obtain ⟨t, p, q⟩ := h
  exact ⟨_, ps_expr p hs, fun σ H hl C E T => q σ H C (fun d H' e1 hx => T.ex cls fs Γ d σ H' hp e1 hl (C.mono e1) hx) _⟩
theorem sd_retX (h : XD X e Γ cls fs) (hp : Φ (.ex cls fs Γ)) : SD X (.Return (some e) pos) Γ Φ := by
  obtain ⟨t, p, q⟩ := h
  exact ⟨_, ps_ret p, fun σ H hl C E T => q σ H C (fun d H' e1 hx => T.ex cls fs Γ d σ H' hp e1 hl (C.mono e1) hx) _⟩
theorem sd_asgX (i : Nat) {x : Str} {pos' : Pos} (h : XD X e Γ cls fs) (hd : X.N.Nodup) (hp : Φ (.ex cls fs Γ)) (hN : X.N[i]? = some x := by rfl) (hx : Loc X.env.scope x := by first | exact Or.inl rfl | exact Or.inr rfl)
    (hs : swapsWith e (some (.Name x pos')) pos.line X.env = pure false := by rfl) (hf : X.fn x = true ∨ X.env.scope.names.lookup x = some .local := by first | exact .inl rfl | exact .inr rfl) : SD X (.Assign [.Name x pos'] e pos) Γ Φ := by
  obtain ⟨t, p, q⟩ := h
  exact ⟨_, ps_set (i := i) hd hN hx p hs hf, fun σ H hl C E T => q σ H C (fun d H' e1 hx => T.ex cls fs Γ d σ H' hp e1 hl (C.mono e1) hx) _⟩
/-- a statement that leaves: nothing of the rest is asked -/
theorem ss_out (h : SD X st Γ Φ) (hn : ∀ Γ', ¬ Φ (.nx Γ')) : SsD X (st :: sts) Γ Φ := ss_seq h (fun Γ' z => absurd z (hn Γ')) fun o _ z => z

/-! ### raise X(), an own class without __init__ -/
structure ErT (K : PySem.W.Frag) (mg : Str → Option Value) (x : Str) (C : Addr) : Prop where
  mg : mg x = some (.ref C)
  exc : PySem.W.excIn K C [.type "ValueError", .type "Exception", .type "BaseException", .type "object"] "ValueError.__new__" = true
  kp : PySem.W.keepIn K (.ref C) = true
  be : PySem.W.subIn K (.ref C) (.type "BaseException") = some true
  ty : PySem.W.typeIn K (.ref C) = some (.type "type")
  hd : PySem.W.hasDictIn K C = true
  self : PySem.W.subIn K (.ref C) (.ref C) = some true
theorem pmk_own0 {x : Str} {C : Addr} {p : Pos} (T : ErT X.K X.mg x C) (hg : Gl X x) (hdb : (x == ("__debug__" : Str)) = false := by decide) : PMk X (.Call (.Name x p) [] [] pos) (fun _ H Q => Q (.ref C) none H) := by
  intro pins s σ H Q I h
  refine wpAny_Call_Name_kw (ld_glob I hg T.mg ?_ hdb)
  refine PySem.W.callWith_K0 (first := []) I.kIn T.kp ?_
  obtain ⟨bm, N, nm, qn, bs, hdct, sn, sub, ab, col, dd, k0, k1, k2, k3, k5, mN, hC, hN, hni, OT⟩ := exc_obj I.kIn T.exc
  obtain ⟨hp, g, dr, tk, os⟩ := s
  refine wpAny_call_exc_subT PySem.F.excBase_ValueError OT hC hN hni (fun h' e hm => ?_) (Nat.zero_le _)
  exact mk_of I hm (raises_own T.be T.ty) h (I.hok.gone hm.new)
theorem sd_raise0 {x : Str} {C : Addr} {p p2 : Pos} (hc : X.calm = true) (T : ErT X.K X.mg x C) (h : Φ (.ex (.ref C) [] Γ)) (hg : Gl X x := by rfl) (hdb : (x == ("__debug__" : Str)) = false := by decide) : SD X (.Raise (some (.Call (.Name x p) [] [] pos)) none p2) Γ Φ :=
  ⟨_, ps_raise hc tk0 (pmk_own0 T hg hdb), fun σ H hl C E T => T.ex _ _ Γ none σ H h (Ex.refl H) hl C (.inl ⟨rfl, rfl⟩)⟩

/-! ### what a def that may raise promises -/
def spX (K : PySem.W.Frag) (n : Nat) (R : List D → D → Prop) (RX : List D → Value → List (Str × D) → Prop) : Sp := fun vs H Q E => ∃ ds, ds.length = n ∧ DenL K H ds vs ∧
  ((∃ d, R ds d ∧ ∀ v H', Ex H H' → Den K H' d v → Q v H') ∨ ∃ cls fs, RX ds cls fs ∧ ∀ d H', Ex H H' → DenX K H' d fs → E cls d H')
abbrev WS (X : Cx) : L2.St → XK := fun σ cls d H => W0 X cls d σ H
theorem passW {σ : L2.St} : PassesAt (L2.CX X.prog X.w) X σ (WS X σ) := passAt tk0 σ
/-- f(e, ..) that may raise -/
theorem ed_callX {k n : Nat} {f : Addr} {fd : FuncData} {ps : List Str} {R : List D → D → Prop} {RX : List D → Value → List (Str × D) → Prop} {x : Str} {p : Pos} {ds : List D} (F : FnOk X.prog X.w X.K X.mg X.base (L2.CX X.prog X.w) k f fd ps (spX X.K n R RX)) (hr : Room k X.A) (hm : X.mg x = some (.ref f))
    (hk : PySem.W.keepIn X.K (.ref f) = true) (hb : Binds X.K fd ps []) (ha : AD X (e :: es) Γ ds) (hR : R ds d) (hn : ds.length = n := by rfl) (hg : Gl X x := by rfl) (hdb : (x == ("__debug__" : Str)) = false := by decide)
    (he : starEach (e :: es) X.env = (false, eval e X.env) :: starEach es X.env := by rfl) (hpl : (backTo pos (starEach es X.env)).any (·.1) = false := by rfl) : ED X (.Call (.Name x p) (e :: es) [] pos) Γ d := by
  obtain ⟨t, p, q⟩ := ha
  exact ⟨_, pe_callS F hr hg hm hk hb (fun σ => passW) p hdb he hpl, fun σ H C Q r => q σ H C _ fun vs H1 e1 h1 => ⟨ds, hn, h1, .inl ⟨d, hR, fun v H' e2 h2 => r v H' (e1.trans e2) h2⟩⟩⟩
theorem xd_callX {k n : Nat} {f : Addr} {fd : FuncData} {ps : List Str} {R : List D → D → Prop} {RX : List D → Value → List (Str × D) → Prop} {x : Str} {p : Pos} {ds : List D} (F : FnOk X.prog X.w X.K X.mg X.base (L2.CX X.prog X.w) k f fd ps (spX X.K n R RX)) (hr : Room k X.A) (hm : X.mg x = some (.ref f))
    (hk : PySem.W.keepIn X.K (.ref f) = true) (hb : Binds X.K fd ps []) (ha : AD X (e :: es) Γ ds) (hR : RX ds cls fs) (hn : ds.length = n := by rfl) (hg : Gl X x := by rfl) (hdb : (x == ("__debug__" : Str)) = false := by decide)
    (he : starEach (e :: es) X.env = (false, eval e X.env) :: starEach es X.env := by rfl) (hpl : (backTo pos (starEach es X.env)).any (·.1) = false := by rfl) : XD X (.Call (.Name x p) (e :: es) [] pos) Γ cls fs := by
  obtain ⟨t, p, q⟩ := ha
  exact ⟨_, pe_callS F hr hg hm hk hb (fun σ => passW) p hdb he hpl, fun σ H C r Q => q σ H C _ fun vs H1 e1 h1 => ⟨ds, hn, h1, .inr ⟨cls, fs, hR, fun d H' e2 h2 => r d H' (e1.trans e2) h2⟩⟩⟩

/-- a new instance whose __init__ may raise, at the slots σ -/
theorem new_at {CX : CXT} {k : Nat} {f C : Addr} {fd : FuncData} {ps : List Str} {sp : Sp} {dvs : List V} {ds : List Value} {E : XK} {pins : List (Addr × Obj)} {σ : L2.St} {H : Hp} {s : Shared} {Q : VK} {us : List Value} {vs : List V} (M : Mk X.K C f) (F : FnOk X.prog X.w X.K X.mg X.base CX k f fd ps sp)
    (hr : Room (k + 1) X.A) (hb : Binds X.K fd ps ds) (hd : Vals dvs ds) (pa : PassesAt CX X σ E) (I : Inv X pins σ H s) (r : Vals vs us)
    (go : ∀ x dx, H x = none → H dx = none → dx ≠ x → sp (.ref x :: (vs ++ dvs)) (upd (upd H dx (.own x)) x (.ins C dx [])) (fun v H2 => v = .non ∧ Q (.ref x) H2) E) : wpAny (model X.prog X.w) X.A (call (.ref C) us) (EP X pins σ Q) X.xe s := by
  let n := s.heap.objs.size
  have J : Inv X pins σ _ _ := Inv.made (C := C) I
  have told := go (n + 1) n (I.hok.fresh (Nat.le_succ _)) (I.hok.fresh (Nat.le_refl _)) (Nat.ne_of_lt (Nat.lt_succ_self _))
  have rel : Vals (V.ref (n + 1) :: (vs ++ dvs)) (Value.ref (n + 1) :: (us ++ ds)) := .cons (show RelV (V.ref (n + 1)) (Value.ref (n + 1)) from rfl) (r.append hd)
  have len : (Value.ref (n + 1) :: us ++ ds).length = ps.length := (rel.length.symm.trans (F.len _ _ _ _ told))
  have bound := hb _ (Value.ref (n + 1) :: us) J.kIn len
  have ran := F.run _ X.stack _ _ ⟨Value.ref (n + 1) :: us, []⟩ (Value.ref (n + 1) :: (us ++ ds)) _ _ E (hr.make C us []) (J.env0.make C us []) bound rel told
  refine wpAny_call (make_map (f := f) I.kIn M.makes M.init (beq_iff_eq.mp M.fn) (codeAny_mono ran fun res s' out => ?_))
  rcases res with err | fl
  · exact pa pins _ _ err s' J out
  · cases fl with
    | ret u =>
      obtain ⟨y, H', I3, ry, ey, q3⟩ := J.after out
      subst ey
      exact ⟨ry, ⟨V.ref (n + 1), H', I3, rfl, q3⟩⟩
    | next => exact out.elim
    | brk => exact out.elim
    | cont => exact out.elim
def tMakeS (C : Addr) (sp : Sp) (dvs : List V) (E : L2.St → XK) (t : TA) : TE := fun σ H Q => t σ H fun vs H1 => ∀ x dx, H1 x = none → H1 dx = none → dx ≠ x → sp (.ref x :: (vs ++ dvs)) (upd (upd H1 dx (.own x)) x (.ins C dx [])) (fun v H2 => v = .non ∧ Q (.ref x) H2) (E σ)
theorem pe_makeS {CX : CXT} {k : Nat} {f C : Addr} {fd : FuncData} {ps : List Str} {sp : Sp} {dvs : List V} {ds : List Value} {E : L2.St → XK} {x : Str} {p : Pos} {t : TA} (M : Mk X.K C f) (F : FnOk X.prog X.w X.K X.mg X.base CX k f fd ps sp) (hr : Room (k + 1) X.A) (hg : Gl X x) (hm : X.mg x = some (.ref C))
    (hb : Binds X.K fd ps ds) (hd : Vals dvs ds) (pa : ∀ σ, PassesAt CX X σ (E σ)) (ha : PA X (e :: es) t) (hdb : (x == ("__debug__" : Str)) = false := by decide) (he : starEach (e :: es) X.env = (false, eval e X.env) :: starEach es X.env := by rfl)
    (hpl : (backTo pos (starEach es X.env)).any (·.1) = false := by rfl) : PE X (.Call (.Name x p) (e :: es) [] pos) (tMakeS C sp dvs E t) := by
  refine ⟨fun pins s σ H Q I h => wpAny_Call_Name_kw (ld_glob I hg hm ?_ hdb)⟩
  exact PySem.W.callWith_K (h₀ := X.base) I.ok.mod.kin M.kp (thn (ha.run pos pins s σ H _ I h) fun us s1 ⟨vs, H1, I1, r, q⟩ => ⟨I1.kIn, new_at M F hr hb hd (pa σ) I1 r q⟩) he hpl

/-! ### try: .. except X: .. -/
theorem names_own {x : Str} {C : Addr} (hm : X.mg x = some (.ref C)) (hg : Gl X x := by rfl) (hdb : (x == ("__debug__" : Str)) = false := by decide) : Names X x (.ref C) := ⟨hg, hdb, .inl hm⟩
/-- what the body does, whatever is around it -/
def bodyT (X : Cx) (body : List Stmt) : WX → TS := fun W E σ H => ∀ (pn : List (Addr × Obj)) (xe : Value → Shared → Prop), L2.Takes (X.tr pn xe) W → PassesOwn (model X.prog X.w) X.A X.env xe → allS (X.tr pn xe) body E σ H
def suiteT (X : Cx) (suite : List Stmt) : Addr → Value → Option Addr → TS := fun a cls d E σ H => ∀ (oe : Obj) (pn : List (Addr × Obj)), Zc cls d oe → (∃ vs, oe.data = .fields vs) → allS (X.suite a ((a, oe) :: pn)) suite E σ H
theorem sd_try {x : Str} {C : Addr} {b₀ : Stmt} {suite : List Stmt} {np pos' : Pos} (hs : X.stack = X.env :: X.outer) (hf : X.env.frame = some X.env.locals) (hc : Names X x (.ref C))
    (hb : ∀ pn xe, PassesOwn (model X.prog X.w) X.A X.env xe → SsD (X.tr pn xe) body Γ Ψ)
    (ho : ∀ o, (∀ c fs Γ', o ≠ .ex c fs Γ') → Ψ o → Φ o)
    (hx : ∀ c fs Γ', Ψ (.ex c fs Γ') → ∃ k, PySem.W.exmOne X.K c (.ref C) = some k ∧ (k = true → ∀ a oe d pn, Zc c d oe → (∃ vs, oe.data = .fields vs) → SsD (X.suite a ((a, oe) :: pn)) (b₀ :: suite) Γ' (fun o => (∀ c fs Γ2, o ≠ .ex c fs Γ2) ∧ Φ o)) ∧ (k = false → Φ (.ex c fs Γ'))) :
    SD X (.Try body [.ExceptHandler (some (.Name x np)) none (b₀ :: suite) pos'] [] [] pos) Γ Φ := by
  refine ⟨_, ps_try_only hs hf hc (tk0 (X := X)) (tb := bodyT X body) (ts := suiteT X (b₀ :: suite)) (fun W pn xe tk hp => ⟨fun pins s σ H E I h => h pn xe tk hp pins s I⟩)
    (fun a oe cls d pn hz hfl => ⟨fun pins s σ H E I h => h oe pn hz hfl pins s I⟩), fun σ H hl C0 E T => ?_⟩
  intro pn xe tk hp
  refine (hb pn xe hp).all hl C0 ?_
  refine ⟨fun Γ' σ' H' z e1 l1 c1 => T.nx Γ' σ' H' (ho _ (fun _ _ _ w => by cases w) z) e1 l1 c1, fun d v H' z e1 hv => T.rt d v H' (ho _ (fun _ _ _ w => by cases w) z) e1 hv,
    fun Γ' σ' H' z e1 l1 c1 => T.bk Γ' σ' H' (ho _ (fun _ _ _ w => by cases w) z) e1 l1 c1, fun Γ' σ' H' z e1 l1 c1 => T.ct Γ' σ' H' (ho _ (fun _ _ _ w => by cases w) z) e1 l1 c1, fun c fs Γ' d σ' H' z e1 l1 c1 x1 => ?_⟩
  refine w0_of tk ?_
  obtain ⟨k, h1, h2, h3⟩ := hx c fs Γ' z
  refine ⟨k, h1, fun hk a na => ?_, fun hk => T.ex c fs Γ' d σ' H' (h3 hk) e1 l1 c1 x1⟩
  intro oe pn2 hz hfl
  refine (h2 hk a oe d pn2 hz hfl).all l1 c1 ?_
  have T' := T.mono e1
  exact ⟨fun Γ2 σ2 H2 z2 => T'.nx Γ2 σ2 H2 z2.2, fun d2 v H2 z2 => T'.rt d2 v H2 z2.2, fun Γ2 σ2 H2 z2 => T'.bk Γ2 σ2 H2 z2.2, fun Γ2 σ2 H2 z2 => T'.ct Γ2 σ2 H2 z2.2, fun c2 fs2 Γ2 d2 σ2 H2 z2 => absurd rfl (z2.1 c2 fs2 Γ2)⟩
theorem Ctx.unset {K : PySem.W.Frag} {H : Hp} {Γ : Gm} {σ : L2.St} {i : Nat} (c : Ctx K H Γ σ) : Ctx K H (Γ.set i none) (σ.set i none) := fun j d' e => by
  by_cases hj : i = j
  · subst hj
    rw [List.getElem?_set] at e
    simp only [if_true] at e
    split at e <;> cases e
  · rw [List.getElem?_set_ne hj] at e
    obtain ⟨w, h1, h2⟩ := c j d' e
    exact ⟨w, by rw [List.getElem?_set_ne hj]; exact h1, h2⟩
/-- what is behind the suite: the name is gone -/
def gone (i : Nat) (Φ : Out → Prop) : Out → Prop
  | .nx Γ => Φ (.nx (Γ.set i none))
  | .bk Γ => Φ (.bk (Γ.set i none))
  | .ct Γ => Φ (.ct (Γ.set i none))
  | .rt d => Φ (.rt d)
  | .ex _ _ _ => False
theorem sd_tryAs (i : Nat) {x n : Str} {C : Addr} {b₀ : Stmt} {suite : List Stmt} {np pos' : Pos} (hs : X.stack = X.env :: X.outer) (hf : X.env.frame = some X.env.locals) (hd : X.N.Nodup) (hc : Names X x (.ref C))
    (hb : ∀ pn xe, PassesOwn (model X.prog X.w) X.A X.env xe → SsD (X.tr pn xe) body Γ Ψ)
    (ho : ∀ o, (∀ c fs Γ', o ≠ .ex c fs Γ') → Ψ o → Φ o)
    (hx : ∀ c fs Γ', Ψ (.ex c fs Γ') → ∃ k, PySem.W.exmOne X.K c (.ref C) = some k ∧ (k = true → ∀ a oe d pn, Zc c d oe → (fs = [] → d = none) → (∃ vs, oe.data = .fields vs) → SsD (X.suite a ((a, oe) :: pn)) (b₀ :: suite) (Γ'.set i (some (.v (.ref a)))) (gone i Φ)) ∧ (k = false → Φ (.ex c fs Γ')))
    (hN : X.N[i]? = some n := by rfl) (hln : X.env.kindOf n = some .local := by rfl) :
    SD X (.Try body [.ExceptHandler (some (.Name x np)) (some n) (b₀ :: suite) pos'] [] [] pos) Γ Φ := by
  refine ⟨_, ps_try_as (i := i) hs hf hd hN hln hc (tk0 (X := X)) (tb := bodyT X body) (ts := suiteT X (b₀ :: suite)) (fun W pn xe tk hp => ⟨fun pins s σ H E I h => h pn xe tk hp pins s I⟩)
    (fun a oe cls d pn hz hfl => ⟨fun pins s σ H E I h => h oe pn hz hfl pins s I⟩), fun σ H hl C0 E T => ?_⟩
  intro pn xe tk hp
  refine (hb pn xe hp).all hl C0 ?_
  refine ⟨fun Γ' σ' H' z e1 l1 c1 => T.nx Γ' σ' H' (ho _ (fun _ _ _ w => by cases w) z) e1 l1 c1, fun d v H' z e1 hv => T.rt d v H' (ho _ (fun _ _ _ w => by cases w) z) e1 hv,
    fun Γ' σ' H' z e1 l1 c1 => T.bk Γ' σ' H' (ho _ (fun _ _ _ w => by cases w) z) e1 l1 c1, fun Γ' σ' H' z e1 l1 c1 => T.ct Γ' σ' H' (ho _ (fun _ _ _ w => by cases w) z) e1 l1 c1, fun c fs Γ' d σ' H' z e1 l1 c1 x1 => ?_⟩
  refine w0_of tk ?_
  obtain ⟨k, h1, h2, h3⟩ := hx c fs Γ' z
  refine ⟨k, h1, fun hk a na => ?_, fun hk => T.ex c fs Γ' d σ' H' (h3 hk) e1 l1 c1 x1⟩
  intro oe pn2 hz hfl
  have hi : i < σ'.length := by
    rw [l1]
    exact (List.getElem?_eq_some_iff.mp hN).1
  have hd0 : fs = [] → d = none := fun e0 => by
    rcases x1 with ⟨_, q⟩ | ⟨dd, gs, q, _⟩
    · exact q
    · exact absurd e0 q
  refine (h2 hk a oe d pn2 hz hd0 hfl).all (by rw [List.length_set]; exact l1) (c1.set hi (den_v.mpr rfl)) ?_
  have T' := T.mono e1
  exact ⟨fun Γ2 σ2 H2 z2 e2 l2 c2 => T'.nx _ _ H2 z2 e2 (by rw [List.length_set]; exact l2) c2.unset, fun d2 v H2 z2 => T'.rt d2 v H2 z2, fun Γ2 σ2 H2 z2 e2 l2 c2 => T'.bk _ _ H2 z2 e2 (by rw [List.length_set]; exact l2) c2.unset,
    fun Γ2 σ2 H2 z2 e2 l2 c2 => T'.ct _ _ H2 z2 e2 (by rw [List.length_set]; exact l2) c2.unset, fun c2 fs2 Γ2 d2 σ2 H2 z2 => z2.elim⟩
end

/-! ### lists of ints compared -/
theorem py_ints {K : PySem.W.Frag} {H : Hp} : ∀ {ns : List Int} {ys : List V}, DenL K H (ns.map iD) ys → DpAll K H ys (ns.map PyData.int)
  | [], ys, h => by
    simp only [List.map_nil, DenL] at h
    subst h
    exact .nil
  | n :: ns, ys, h => by
    simp only [List.map_cons, DenL] at h
    obtain ⟨z, zs, rfl, h1, h2⟩ := h
    rw [den_v.mp h1]
    exact .cons (.int n) (py_ints h2)
theorem py_lay : ∀ ns : List Int, PyData.canLayAll0 (ns.map PyData.int) = true
  | [] => by simp [PyData.canLayAll0]
  | n :: ns => by
    rw [List.map_cons]
    simp only [PyData.canLayAll0, PyData.canLay0, py_lay ns, Bool.and_self]
theorem py_dep : ∀ ns : List Int, PyData.depthAll (ns.map PyData.int) = 0
  | [] => by simp [PyData.depthAll]
  | n :: ns => by
    rw [List.map_cons]
    simp [PyData.depthAll, PyData.depth, py_dep ns]
theorem py_shaped (ns : List Int) : SeqAt.shaped (.list (ns.map PyData.int)) = true := by
  unfold SeqAt.shaped
  simp [PyData.canLay0, PyData.depth, py_lay, py_dep]
theorem py_eqv : ∀ ns ms : List Int, PyData.eqvAll (ns.map PyData.int) (ms.map PyData.int) = decide (ns = ms)
  | [], [] => by simp [PyData.eqvAll]
  | [], m :: ms => by simp [PyData.eqvAll]
  | n :: ns, [] => by simp [PyData.eqvAll]
  | n :: ns, m :: ms => by
    simp only [List.map_cons, PyData.eqvAll, PyData.eqv, py_eqv ns ms]
    by_cases h : n = m
    · subst h
      simp
    · simp [h]
theorem dp_ints {K : PySem.W.Frag} {H : Hp} {ns : List Int} {y : V} (h : Den K H (.lst (ns.map iD)) y) : Dp K H y (.list (ns.map PyData.int)) := by
  simp only [Den] at h
  obtain ⟨a, ys, rfl, h1, h2⟩ := h
  exact .lst h1 (py_ints h2)
theorem rd_eqL {K : PySem.W.Frag} {ns ms : List Int} : RD K (rEqD K) (.lst (ns.map iD)) (.lst (ms.map iD)) (bD (decide (ns = ms))) := fun x y H h1 h2 Q q =>
  ⟨_, _, dp_ints h1, dp_ints h2, py_shaped ns, py_shaped ms, by
    have e : PyData.eqv (.list (ns.map PyData.int)) (.list (ms.map PyData.int)) = decide (ns = ms) := by
      simp only [PyData.eqv]
      exact py_eqv ns ms
    rw [e]
    exact q _ H (Ex.refl H) (den_v.mpr rfl)⟩
theorem rd_neL {K : PySem.W.Frag} {ns ms : List Int} : RD K (rNeD K) (.lst (ns.map iD)) (.lst (ms.map iD)) (bD (!decide (ns = ms))) := fun x y H h1 h2 Q q =>
  ⟨_, _, dp_ints h1, dp_ints h2, py_shaped ns, py_shaped ms, by
    have e : PyData.eqv (.list (ns.map PyData.int)) (.list (ms.map PyData.int)) = decide (ns = ms) := by
      simp only [PyData.eqv]
      exact py_eqv ns ms
    rw [e]
    exact q _ H (Ex.refl H) (den_v.mpr rfl)⟩

/-! ### Fraction(a, 0) -/
def spInitX (C CB : Addr) : Sp := fun vs H Q E => ∃ (p dx : Addr) (a b : Int), vs = [.ref p, .int a, .int b] ∧ H p = some (.ins C dx []) ∧
  ((b ≠ 0 ∧ b.natAbs < 2 ^ 8900 ∧ Q .non (upd H p (.ins C dx [("top", .int (Rat.divInt a b).num), ("bottom", .int ((Rat.divInt a b).den : Int))]))) ∨ (b = 0 ∧ E (.ref CB) none H))
section
variable {X : Cx} {Γ : Gm} {d : D} {e a c : Expr} {es : List Expr} {pos : Pos} {C CB : Addr}
theorem ex_new2 {H H1 : Hp} {x dx : Addr} {o u : HO} (e1 : Ex H H1) (nx : H1 x = none) (ndx : H1 dx = none) : Ex H (upd (upd H1 dx o) x u) := fun b w hw => by
  have h1 := e1 b w hw
  rw [upd_ne (ne_of_none h1 nx), upd_ne (ne_of_none h1 ndx)]
  exact h1
theorem xd_mk {k : Nat} {f : Addr} {fd : FuncData} {ps : List Str} {p : Pos} {i : Int} (M : Mk X.K C f) (F : FnOk X.prog X.w X.K X.mg X.base (L2.CX X.prog X.w) k f fd ps (spInitX C CB)) (hr : Room (k + 1) X.A) (hm : X.mg "Fraction" = some (.ref C))
    (hb : Binds X.K fd ps []) (ha : AD X (e :: es) Γ [iD i, iD 0]) (hg : Gl X "Fraction" := by rfl) (he : starEach (e :: es) X.env = (false, eval e X.env) :: starEach es X.env := by rfl)
    (hpl : (backTo pos (starEach es X.env)).any (·.1) = false := by rfl) : XD X (.Call (.Name "Fraction" p) (e :: es) [] pos) Γ (.ref CB) [] := by
  obtain ⟨t, pp, q⟩ := ha
  refine ⟨_, pe_makeS M F hr hg hm hb .nil (fun σ => passW) pp (by decide) he hpl, fun σ H Cc w Q => q σ H Cc _ fun vs H1 e1 h1 x dx nx ndx ne => ?_⟩
  obtain ⟨x1, x2, rfl, h2, h3⟩ := denL_two h1
  rw [den_v.mp h2, den_v.mp h3]
  exact ⟨x, dx, i, 0, rfl, upd_same, .inr ⟨rfl, w none _ (ex_new2 e1 nx ndx) (.inl ⟨rfl, rfl⟩)⟩⟩
theorem ed_mkX {k : Nat} {f : Addr} {fd : FuncData} {ps : List Str} {p : Pos} {i j : Int} (M : Mk X.K C f) (F : FnOk X.prog X.w X.K X.mg X.base (L2.CX X.prog X.w) k f fd ps (spInitX C CB)) (hr : Room (k + 1) X.A) (hm : X.mg "Fraction" = some (.ref C))
    (hb : Binds X.K fd ps []) (ha : AD X (e :: es) Γ [iD i, iD j]) (h0 : j ≠ 0) (hz : j.natAbs < 2 ^ 8900) (hg : Gl X "Fraction" := by rfl) (he : starEach (e :: es) X.env = (false, eval e X.env) :: starEach es X.env := by rfl)
    (hpl : (backTo pos (starEach es X.env)).any (·.1) = false := by rfl) : ED X (.Call (.Name "Fraction" p) (e :: es) [] pos) Γ (fr C (Rat.divInt i j)) := by
  obtain ⟨t, pp, q⟩ := ha
  refine ⟨_, pe_makeS M F hr hg hm hb .nil (fun σ => passW) pp (by decide) he hpl, fun σ H Cc r => fun w => q σ H Cc _ fun vs H1 e1 h1 x dx nx ndx ne => ?_⟩
  obtain ⟨x1, x2, rfl, h2, h3⟩ := denL_two h1
  rw [den_v.mp h2, den_v.mp h3]
  refine ⟨x, dx, i, j, rfl, upd_same, .inl ⟨h0, hz, rfl, w _ _ (fun b o ho => ?_) (den_fr.mpr ⟨x, dx, rfl, upd_same⟩)⟩⟩
  have h1 : H1 b = some o := e1 b o ho
  rw [upd_ne (ne_of_none h1 nx), upd_ne (ne_of_none h1 nx), upd_ne (ne_of_none h1 ndx)]
  exact h1
/-- Fraction(bottom=b, top=a) -/
theorem ed_mkK {CX : CXT} {k : Nat} {f : Addr} {fd : FuncData} {ps : List Str} {E : XK} {p q1 q2 : Pos} {i j : Int} {eb ea : Expr} (M : Mk X.K C f) (F : FnOk X.prog X.w X.K X.mg X.base CX k f fd ps (spInit C)) (hr : Room (k + 1) X.A) (hm : X.mg "Fraction" = some (.ref C))
    {g : List Value → List Value → List Value} {gV : List V → List V → List V} (hb : KBn X.K fd ps 1 ["bottom", "top"] g gV) (hgV : ∀ x y z, gV [x] [y, z] = [x, z, y]) (hx : Passes CX X E) (hB : ED X eb Γ (iD j)) (hA : ED X ea Γ (iD i)) (h0 : j ≠ 0) (hz : j.natAbs < 2 ^ 8900)
    (hg : Gl X "Fraction" := by rfl) (hall : (backToKw pos (keywordEach [⟨some "bottom", eb, q1⟩, ⟨some "top", ea, q2⟩] X.env)).all (·.1.isSome) = true := by rfl) (hks : (backToKw pos (keywordEach [⟨some "bottom", eb, q1⟩, ⟨some "top", ea, q2⟩] X.env)).filterMap (·.1) = (["bottom", "top"] : List Str) := by rfl)
    (hpl : ((backTo pos (starEach [] X.env)).any (·.1) || (backToKw pos (keywordEach [⟨some "bottom", eb, q1⟩, ⟨some "top", ea, q2⟩] X.env)).any (·.1.isNone)) = false := by rfl) :
    ED X (.Call (.Name "Fraction" p) [] [⟨some "bottom", eb, q1⟩, ⟨some "top", ea, q2⟩] pos) Γ (fr C (Rat.divInt i j)) := by
  obtain ⟨tb, pb, qb⟩ := hB
  obtain ⟨ta, pa, qa⟩ := hA
  refine ⟨_, pe_makeK0 M F hr hg hm hb hx (pk_cons pb (pk_cons pa pk_nil)) hall hks (by decide) hpl, fun σ H Cc Q r => ?_⟩
  refine qb σ H Cc _ fun v1 H1 e1 h1 => qa σ H1 (Cc.mono e1) _ fun v2 H2 e2 h2 => ⟨rfl, rfl, fun x dx nx ndx ne => ?_⟩
  rw [hgV, den_v.mp h1, den_v.mp h2]
  exact init_new h0 hz nx ndx ne (e1.trans e2) r

/-! ### isinstance of the error that a suite holds -/
theorem ed_isE {A0 DA : Addr} {oe : Obj} {pn : List (Addr × Obj)} {k : Bool} {u : Value} {cv : V} {p : Pos} (EC : ExcC X.K DA) (hz : Zc (.ref DA) none oe) (hf : ∃ vs, oe.data = .fields vs) (hm : X.mg "isinstance" = none)
    (ha : ED (X.suite A0 ((A0, oe) :: pn)) a Γ (.v (.ref A0))) (hc : ED (X.suite A0 ((A0, oe) :: pn)) c Γ (.v cv)) (hcv : ClsV cv u) (hk : PySem.W.kitOne X.K (.ref DA) u = some k) (hg : Gl X "isinstance" := by rfl)
    (he : starEach (a :: [c]) X.env = (false, eval a X.env) :: starEach [c] X.env := by rfl) (hs1 : starEach (c :: []) X.env = (false, eval c X.env) :: starEach [] X.env := by rfl) (hpl : (backTo pos (starEach [c] X.env)).any (·.1) = false := by rfl) :
    ED (X.suite A0 ((A0, oe) :: pn)) (.Call (.Name "isinstance" p) [a, c] [] pos) Γ (bD k) := by
  refine ed_callB (X := X.suite A0 ((A0, oe) :: pn)) (d := bD k) (r := rIsE X.K DA A0) (call_isE EC hz hf) hm (by decide +kernel) (ad_cons ha (ad_cons hc ad_nil hs1) he) (fun xs H h Q q => ?_) hg (by decide) (by decide) he hpl
  obtain ⟨x, y, rfl, h1, h2⟩ := denL_two h
  rw [den_v.mp h2, den_v.mp h1]
  exact ⟨cv, u, k, rfl, fun w hw => hcv.eq hw, hk, q _ H (Ex.refl H) (den_v.mpr rfl)⟩
end
end Trk

namespace Trk
open PySem L2 Evl
def R_bin (C : Addr) (b : Rat → Rat → Rat) : List D → D → Prop := fun ds d => ∃ p y q, ds = [fr C p, y] ∧ NumV C y q ∧ Sz 4000 p ∧ Sz 4000 q ∧ d = fr C (b p q)
/-- a sign's two methods keep their promises -/
structure BinOk (P : Program) (w : World) (K : PySem.W.Frag) (mg : Str → Option Value) (base : Heap) (C : Addr) (op : Operator) (b : Rat → Rat → Rat) : Prop where
  ex : ∃ f g fd gd ps qs, NumOp K C op f g ∧ FnOk P w K mg base CX0 8 f fd ps (spD K 2 (R_bin C b)) ∧ Binds K fd ps [] ∧ FnOk P w K mg base CX0 8 g gd qs (spD K 2 (R_bin C fun p q => b q p)) ∧ Binds K gd qs []
/-- what int says of the sign -/
structure IntOp (K : PySem.W.Frag) (op : Operator) : Prop where
  ex : ∃ id B fo ro, Trk.IntSlot op.info.2 id B ∧ PySem.W.findIn K (.type "int") (PySem.dunder op.info.2) = some fo ∧ PySem.W.findIn K (.type "int") (dunderR op.info.2) = some ro ∧ ((fo.isSome && !isSeqSlot fo) || (ro.isSome && !isSeqSlot ro)) = true
theorem iAdd {K : PySem.W.Frag} : IntOp K .Add := ⟨_, _, some (.builtin "int.__add__"), some (.builtin "int.__radd__"), sAdd, by kernel_rfl, by kernel_rfl, by decide +kernel⟩
theorem iSub {K : PySem.W.Frag} : IntOp K .Sub := ⟨_, _, some (.builtin "int.__sub__"), some (.builtin "int.__rsub__"), sSub, by kernel_rfl, by kernel_rfl, by decide +kernel⟩
theorem iMul {K : PySem.W.Frag} : IntOp K .Mult := ⟨_, _, some (.builtin "int.__mul__"), some (.builtin "int.__rmul__"), sMul, by kernel_rfl, by kernel_rfl, by decide +kernel⟩
section
variable {X : Cx} {Γ : Gm} {d d1 d2 : D} {a b e : Expr} {es : List Expr} {pos : Pos} {C : Addr} {p q : Rat} {op : Operator} {bf : Rat → Rat → Rat} {Φ : Out → Prop} {sts : List Stmt}
theorem ed_binN (T : FrTxt X.K X.mg C) (O : BinOk X.prog X.w X.K X.mg X.base C op bf) (S : IntOp X.K op) (hr : Room 8 X.A) (ha : ED X a Γ d1) (hb : ED X b Γ d2) (h : PairV C d1 d2 p q) (hp : Sz 4000 p) (hq : Sz 4000 q) : ED X (.BinOp a op b pos) Γ (fr C (bf p q)) := by
  obtain ⟨f, g, fd, gd, ps, qs, M, F, B, G, B'⟩ := O.ex
  obtain ⟨sid, BB, fo, ro, sl, h1, h2, hl⟩ := S.ex
  rcases h with ⟨rfl, hy⟩ | ⟨rfl, hx⟩
  · rcases id hy with rfl | ⟨n, rfl, rfl⟩
    · exact ed_op (op_own M F hr B pass0) ha hb (rd_own ⟨p, _, q, rfl, hy, hp, hq, rfl⟩)
    · exact ed_op (op_ownI M h1 h2 F hr B pass0) ha hb (rd_ownI ⟨p, _, _, rfl, hy, hp, hq, rfl⟩)
  · rcases id hx with rfl | ⟨n, rfl, rfl⟩
    · exact ed_op (op_own M F hr B pass0) ha hb (rd_own ⟨p, _, q, rfl, .inl rfl, hp, hq, rfl⟩)
    · exact ed_op (op_iown sl M h1 h2 hl G hr B' pass0) ha hb (rd_iown ⟨q, _, _, rfl, .inr ⟨n, rfl, rfl⟩, hq, hp, rfl⟩)
/-! ### x op= e -/
structure InpOk (K : PySem.W.Frag) (C : Addr) (op : Operator) : Prop where
  under : Trk.underObject K C = true
  no : PySem.W.findIn K (.ref C) (dunderI op.info.2) = some none
  noO : PySem.W.findIn K (.type "object") (dunderI op.info.2) = some none
theorem pip_own {CX : CXT} {k : Nat} {f g : Addr} {fd : FuncData} {ps : List Str} {sp : Sp} {E : XK} (N : InpOk X.K C op) (M : NumOp X.K C op f g) (F : FnOk X.prog X.w X.K X.mg X.base CX k f fd ps sp) (hr : Room k X.A) (hb : Binds X.K fd ps []) (hx : Passes CX X E) : PIp X op (rOwn C sp E) := by
  intro pins s σ H x y v u Q I rx ry h
  obtain ⟨a, b, dx, dy, fs, gs, rfl, rfl, ha, hb', hsp⟩ := h
  cases rx
  cases ry
  obtain ⟨mA, J, _⟩ := ins_get I.hok ha
  obtain ⟨mB, J', _⟩ := ins_get I.hok hb'
  obtain ⟨od, J, _⟩ := J.look
  obtain ⟨od', J', _⟩ := J'.look
  obtain ⟨m, hF⟩ := I.fr
  refine Trk.inplace_by I.kIn J N.under N.no N.noO (Trk.bin1_own hF I.ok.mod.kin J J'.type M.first M.find M.fn ?_)
  refine thn (back_of F hr hb hx I (vals_rr a b) hsp) fun z s' hz => ?_
  cases z <;> first | exact hz | exact ⟨_, rfl, hz⟩
theorem pip_ownI {CX : CXT} {k : Nat} {f g : Addr} {fd : FuncData} {ps : List Str} {sp : Sp} {E : XK} {fo ro : Option Value} (N : InpOk X.K C op) (M : NumOp X.K C op f g) (h1 : PySem.W.findIn X.K (.type "int") (PySem.dunder op.info.2) = some fo) (h2 : PySem.W.findIn X.K (.type "int") (dunderR op.info.2) = some ro)
    (F : FnOk X.prog X.w X.K X.mg X.base CX k f fd ps sp) (hr : Room k X.A) (hb : Binds X.K fd ps []) (hx : Passes CX X E) : PIp X op (rOwnI C sp E) := by
  intro pins s σ H x y v u Q I rx ry h
  obtain ⟨a, dx, fs, n, rfl, rfl, ha, hsp⟩ := h
  cases rx
  obtain ⟨t, rfl⟩ := ry
  obtain ⟨mA, J, _⟩ := ins_get I.hok ha
  obtain ⟨od, J, _⟩ := J.look
  obtain ⟨m, hF⟩ := I.fr
  refine Trk.inplace_by I.kIn J N.under N.no N.noO (Trk.bin1_int hF I.ok.mod.kin J M.first M.find M.fn M.rfind (.inr ⟨_, rfl⟩) h1 h2 M.sub1 ?_)
  refine thn (back_of F hr hb hx I (vals_ri a n t) hsp) fun z s' hz => ?_
  cases z <;> first | exact hz | exact ⟨_, rfl, hz⟩
theorem sd_aug {ti : TIp} (i : Nat) {x : Str} {pos' : Pos} (hi : PIp X op ti) (hg : Γ[i]? = some (some d1)) (he : ED X e Γ d2) (hr : RD X.K ti d1 d2 d) (hd : X.N.Nodup) (h : Φ (.nx (Γ.set i (some d)))) (hN : X.N[i]? = some x := by rfl) (hx : Loc X.env.scope x := by first | exact Or.inl rfl | exact Or.inr rfl)
    (hf : X.fn x = true ∨ X.env.scope.names.lookup x = some .local := by first | exact .inl rfl | exact .inr rfl) : SD X (.AugAssign (.Name x pos') op e pos) Γ Φ := by
  obtain ⟨t, p, q⟩ := he
  refine ⟨_, ps_aug (i := i) hd hN hx p hi hf, fun σ H hl C E T => ?_⟩
  obtain ⟨v, h1, h2⟩ := C i d1 hg
  refine ⟨v, h1, q σ H C _ fun y H1 e1 hy => hr v y H1 (h2.mono e1) hy _ fun z H2 e2 hz => ?_⟩
  exact T.nx _ _ H2 h (e1.trans e2) (by rw [List.length_set]; exact hl) ((C.mono (e1.trans e2)).set (by rw [hl]; exact (List.getElem?_eq_some_iff.mp hN).1) hz)
theorem z_augN (i : Nat) {x : Str} {pos' : Pos} (O : BinOk X.prog X.w X.K X.mg X.base C op bf) (S : IntOp X.K op) (N : InpOk X.K C op) (hr : Room 8 X.A) (hg : Γ[i]? = some (some (fr C p))) (he : ED X e Γ d2) (hy : NumV C d2 q) (hp : Sz 4000 p) (hq : Sz 4000 q) (hd : X.N.Nodup)
    (k : SsD X sts (Γ.set i (some (fr C (bf p q)))) Φ) (hN : X.N[i]? = some x := by rfl) (hx : Loc X.env.scope x := by first | exact Or.inl rfl | exact Or.inr rfl)
    (hf : X.fn x = true ∨ X.env.scope.names.lookup x = some .local := by first | exact .inl rfl | exact .inr rfl) : SsD X (.AugAssign (.Name x pos') op e pos :: sts) Γ Φ := by
  refine ss_seq (Ψ := fun o => o = .nx (Γ.set i (some (fr C (bf p q))))) ?_ (fun Γ' h => by
    cases h
    exact k) fun o h1 h2 => absurd h2 (h1 _)
  obtain ⟨f, g, fd, gd, ps, qs, M, F, B, G, B'⟩ := O.ex
  obtain ⟨sid, BB, fo, ro, sl, h1, h2, hl⟩ := S.ex
  rcases id hy with rfl | ⟨n, rfl, rfl⟩
  · exact sd_aug i (pip_own N M F hr B pass0) hg he (rd_own ⟨p, _, q, rfl, hy, hp, hq, rfl⟩) hd rfl hN hx hf
  · exact sd_aug i (pip_ownI N M h1 h2 F hr B pass0) hg he (rd_ownI ⟨p, _, _, rfl, hy, hp, hq, rfl⟩) hd rfl hN hx hf
/-! ### -x, abs(x), bool(x) -/
def R_un (C : Addr) (u : Rat → D) : List D → D → Prop := fun ds d => ∃ p, ds = [fr C p] ∧ Sz 4000 p ∧ d = u p
theorem run_in {A : Around} {CX : CXT} {k : Nat} {f : Addr} {fd : FuncData} {ps : List Str} {sp : Sp} {E : XK} {pins : List (Addr × Obj)} {σ : L2.St} {H : Hp} {s : Shared} {Q : VK} {us : List Value} {vs : List V} (F : FnOk X.prog X.w X.K X.mg X.base CX k f fd ps sp) (hr : Room k A)
    (e0 : Env0 X.prog X.w X.K X.mg X.base A X.stack s H) (hb : Binds X.K fd ps []) (hx : Passes CX X E) (I : Inv X pins σ H s) (r : Vals vs us) (h : sp vs H Q E) : wpAny (model X.prog X.w) A (call (.ref f) us) (EP X pins σ Q) X.xe s := by
  have len : (us ++ []).length = ps.length := by
    rw [List.append_nil, ← r.length]
    exact F.len _ _ _ _ h
  have bound := hb s us I.kIn len
  rw [List.append_nil] at bound
  refine wpAny_call (codeAny_mono (F.run A X.stack s H ⟨us, []⟩ us vs Q E hr e0 bound r h) fun res s' out => ?_)
  rcases res with err | fl
  · exact hx pins σ H s err s' I out
  · cases fl with
    | ret u => exact I.after out
    | next => exact out.elim
    | brk => exact out.elim
    | cont => exact out.elim
theorem vals_r (a : Addr) : Vals [V.ref a] [Value.ref a] := .cons (show RelV (V.ref a) (Value.ref a) from rfl) .nil
theorem ed_negN {CX : CXT} {k : Nat} {f : Addr} {fd : FuncData} {ps : List Str} {E : XK} {u : Rat → D} (M : CmpM X.K C "__neg__" f) (F : FnOk X.prog X.w X.K X.mg X.base CX k f fd ps (spD X.K 1 (R_un C u))) (hr : Room k X.A) (hb : Binds X.K fd ps []) (hx : Passes CX X E) (ha : ED X a Γ (fr C p)) (hp : Sz 4000 p) :
    ED X (.UnaryOp .USub a pos) Γ (u p) := by
  refine ed_un (r := fun x H Q => ∃ a dx fs, x = .ref a ∧ H a = some (.ins C dx fs) ∧ spD X.K 1 (R_un C u) [x] H Q E) ?_ ha ?_
  · intro pins s σ H x v Q I rx h
    obtain ⟨a, dx, fs, rfl, ha, hsp⟩ := h
    cases rx
    obtain ⟨mA, J, _⟩ := ins_get I.hok ha
    obtain ⟨od, J, _⟩ := J.look
    obtain ⟨m, hF⟩ := I.fr
    exact PySem.W.ksp_neg hF I.ok.mod.kin J M.find M.fn (run_in F hr I.env0 hb hx I (vals_r a) hsp)
  · intro x H hx Q q
    have hx' := hx
    obtain ⟨a, dx, rfl, h⟩ := den_fr.mp hx
    exact ⟨a, dx, _, rfl, h, _, _, rfl, DenL.cons hx' DenL.nil, ⟨p, rfl, hp, rfl⟩, q⟩
theorem ed_absN {CX : CXT} {k : Nat} {f : Addr} {fd : FuncData} {ps : List Str} {E : XK} {u : Rat → D} {p1 : Pos} (M : CmpM X.K C "__abs__" f) (F : FnOk X.prog X.w X.K X.mg X.base CX k f fd ps (spD X.K 1 (R_un C u))) (hr : Room (k + 1) X.A) (hb : Binds X.K fd ps []) (hx : Passes CX X E) (hm : X.mg "abs" = none)
    (ha : ED X a Γ (fr C p)) (hp : Sz 4000 p) (hg : Gl X "abs" := by rfl) (he : starEach (a :: []) X.env = (false, eval a X.env) :: starEach [] X.env := by rfl) (hpl : (backTo pos (starEach [] X.env)).any (·.1) = false := by rfl) :
    ED X (.Call (.Name "abs" p1) [a] [] pos) Γ (u p) := by
  refine ed_callB (id := "abs") (r := fun xs H Q => ∃ a dx fs, xs = [.ref a] ∧ H a = some (.ins C dx fs) ∧ spD X.K 1 (R_un C u) xs H Q E) ?_ hm (by decide +kernel) (ad_cons ha ad_nil he) ?_ hg (by decide) (by decide) he hpl
  · intro pins s σ H xs us Q I r h
    obtain ⟨a, dx, fs, rfl, ha, hsp⟩ := h
    obtain ⟨w1, rfl, rx⟩ := vals1 r
    cases rx
    obtain ⟨mA, J, _⟩ := ins_get I.hok ha
    obtain ⟨od, J, _⟩ := J.look
    exact Trk.abs_own I.kIn J M.find M.fn (run_in F hr.in1 I.env0.in1 hb hx I (vals_r a) hsp)
  · intro xs H hxs Q q
    have hx' := hxs
    obtain ⟨x, rfl, hx1⟩ := denL_one hxs
    obtain ⟨a, dx, rfl, h⟩ := den_fr.mp hx1
    exact ⟨a, dx, _, rfl, h, _, _, rfl, hx', ⟨p, rfl, hp, rfl⟩, q⟩
theorem ed_boolN {CX : CXT} {k : Nat} {f : Addr} {fd : FuncData} {ps : List Str} {E : XK} {u : Rat → Bool} {p1 : Pos} (M : CmpM X.K C "__bool__" f) (F : FnOk X.prog X.w X.K X.mg X.base CX k f fd ps (spD X.K 1 (R_un C fun q => bD (u q)))) (hr : Room (k + 2) X.A) (hb : Binds X.K fd ps []) (hx : Passes CX X E) (hm : X.mg "bool" = none)
    (ha : ED X a Γ (fr C p)) (hp : Sz 4000 p) (hg : Gl X "bool" := by rfl) (he : starEach (a :: []) X.env = (false, eval a X.env) :: starEach [] X.env := by rfl) (hpl : (backTo pos (starEach [] X.env)).any (·.1) = false := by rfl) :
    ED X (.Call (.Name "bool" p1) [a] [] pos) Γ (bD (u p)) := by
  refine ed_callTy (T := "bool") (r := fun xs H Q => ∃ a dx fs, xs = [.ref a] ∧ H a = some (.ins C dx fs) ∧ spD X.K 1 (R_un C fun q => bD (u q)) xs H (fun v H' => v = .bl (u p) ∧ Q v H') E) ?_ hm (by decide +kernel) (ad_cons ha ad_nil he) ?_ hg (by decide) (by decide) he hpl
  · intro pins s σ H xs us Q I r h
    obtain ⟨a, dx, fs, rfl, ha, hsp⟩ := h
    obtain ⟨w1, rfl, rx⟩ := vals1 r
    cases rx
    obtain ⟨mA, J, _⟩ := ins_get I.hok ha
    obtain ⟨od, J, _⟩ := J.look
    obtain ⟨m, hF⟩ := I.fr
    refine Trk.bool_own hF I.ok.mod.kin J M.find M.fn (thn (run_in F hr.in1.in1 I.env0.in1.in1 hb hx I (vals_r a) hsp) fun z s' hz => ?_)
    obtain ⟨v, H', I', rv, ev, q⟩ := hz
    subst ev
    cases rv
    exact ⟨V.bl (u p), H', I', rfl, q⟩
  · intro xs H hxs Q q
    have hx' := hxs
    obtain ⟨x, rfl, hx1⟩ := denL_one hxs
    obtain ⟨a, dx, rfl, h⟩ := den_fr.mp hx1
    exact ⟨a, dx, _, rfl, h, _, _, rfl, hx', ⟨p, rfl, hp, rfl⟩, fun v H' e hv => ⟨den_v.mp hv, q v H' e hv⟩⟩
/-- a sign within the class's own text: the left one is of the class -/
theorem ed_leftN {CX : CXT} {k : Nat} {f g : Addr} {fd : FuncData} {ps : List Str} {E : XK} (M : NumOp X.K C op f g) (S : IntOp X.K op) (F : FnOk X.prog X.w X.K X.mg X.base CX k f fd ps (spD X.K 2 (R_bin C bf))) (hr : Room k X.A) (hb : Binds X.K fd ps []) (hx : Passes CX X E)
    (ha : ED X a Γ (fr C p)) (hB : ED X b Γ d2) (hy : NumV C d2 q) (hp : Sz 4000 p) (hq : Sz 4000 q) : ED X (.BinOp a op b pos) Γ (fr C (bf p q)) := by
  obtain ⟨sid, BB, fo, ro, sl, h1, h2, hl⟩ := S.ex
  rcases id hy with rfl | ⟨n, rfl, rfl⟩
  · exact ed_op (op_own M F hr hb hx) ha hB (rd_own ⟨p, _, q, rfl, hy, hp, hq, rfl⟩)
  · exact ed_op (op_ownI M h1 h2 F hr hb hx) ha hB (rd_ownI ⟨p, _, _, rfl, hy, hp, hq, rfl⟩)
theorem ed_toBool {i : Int} {p : Pos} (hm : X.mg "bool" = none) (ha : ED X a Γ (iD i)) (hg : Gl X "bool" := by rfl) (he : starEach (a :: []) X.env = (false, eval a X.env) :: starEach [] X.env := by rfl) (hpl : (backTo pos (starEach [] X.env)).any (·.1) = false := by rfl) :
    ED X (.Call (.Name "bool" p) [a] [] pos) Γ (bD (i != 0)) := by
  refine ed_callTy (d := bD (i != 0)) call_bool1 hm (by decide +kernel) (ad_cons ha ad_nil he) (fun xs H h Q q => ?_) hg (by decide) (by decide) he hpl
  obtain ⟨x, rfl, h1⟩ := denL_one h
  rw [den_v.mp h1]
  exact .inl ⟨i, rfl, q _ H (Ex.refl H) (den_v.mpr rfl)⟩
/-! ### o.m(k = v) that may raise -/
def tMethKS (C : Addr) (m : Str) (n : Nat) (sp : Sp) (gV : List V → List V → List V) (E : L2.St → XK) (ta : TE) (tk : TA) : TE := fun σ H Q => ta σ H fun x H1 => ∃ a dx fs, x = .ref a ∧ H1 a = some (.ins C dx fs) ∧ fs.lookup m = none ∧
  tk σ H1 fun zs H2 => zs.length = n ∧ sp (gV [x] zs) H2 Q (E σ)
theorem pe_methKS {CX : CXT} {k : Nat} {f : Addr} {fd : FuncData} {ps ks : List Str} {sp : Sp} {E : L2.St → XK} {pl : Sem Bool} {o : Expr} {m : Str} {apos : Pos} {kws : List Keyword} {ta : TE} {tk : TA} {g : List Value → List Value → List Value} {gV : List V → List V → List V}
    (he : PE X o ta) (c : Cls X.K C) (hm : Meth X.K C m f) (F : FnOk X.prog X.w X.K X.mg X.base CX k f fd ps sp) (hr : Room k X.A) (hb : KBn X.K fd ps 1 ks g gV) (pa : ∀ σ, PassesAt CX X σ (E σ)) (hkw : PK X kws tk)
    (hall : (backToKw pos (keywordEach kws X.env)).all (·.1.isSome) = true := by rfl) (hks : (backToKw pos (keywordEach kws X.env)).filterMap (·.1) = ks := by rfl)
    (hpl : ((backTo pos (starEach [] X.env)).any (·.1) || (backToKw pos (keywordEach kws X.env)).any (·.1.isNone)) = false := by rfl)
    (ht : eval (.Call (.Attribute o m apos) [] kws pos) X.env = (do
      let ov ← eval o X.env
      standAt apos.atName
      let (f, first) ← holding [ov] (getMethod ov m pl)
      callWith pos f first (backTo pos (starEach [] X.env)) (backToKw pos (keywordEach kws X.env))) := by rfl) :
    PE X (.Call (.Attribute o m apos) [] kws pos) (tMethKS C m ks.length sp gV E ta tk) := by
  refine ⟨fun pins s σ H Q I h => ?_⟩
  refine PySem.W.methodCall_KW (pl := pl) (thn (he.run pins s σ H _ I h) fun u s1 got => ?_) ht
  obtain ⟨x, H1, I1, rx, a, dx, fs, ex, ea, l, q⟩ := got
  subst ex
  obtain rfl : u = Value.ref a := rx
  refine getmeth_ok I1 ea c hm l ?_
  refine PySem.W.callWith_KW0 (first := [.ref a]) (h₀ := X.base) I.ok.mod.kin hm.kp hall ?_ hpl
  refine thn (hkw.run pos pins s1 σ H1 _ I1 q) fun ws s2 got2 => ?_
  obtain ⟨zs, H2, I2, rz, lz, q2⟩ := got2
  refine ⟨I2.kIn, ?_⟩
  rw [hks, List.append_nil]
  have rel := hb.rel (vals_r a) rz
  have bound := hb.to s2 [Value.ref a] ws I2.kIn rfl (rz.length.symm.trans lz)
  refine wpAny_call (codeAny_mono (F.run X.A X.stack s2 H2 ⟨[Value.ref a], ks.zip ws⟩ _ _ Q (E σ) hr I2.env0 bound rel q2) fun res s' out => ?_)
  rcases res with err | fl
  · exact pa σ pins H2 s2 err s' I2 out
  · cases fl with
    | ret u => exact I2.after out
    | next => exact out.elim
    | brk => exact out.elim
    | cont => exact out.elim
/-- one keyword -/
theorem kw_one {k : Nat} {f : Addr} {fd : FuncData} {ps : List Str} {R : List D → D → Prop} {RX : List D → Value → List (Str × D) → Prop} {pl : Sem Bool} {o ev : Expr} {m kn : Str} {apos q1 : Pos} {g : List Value → List Value → List Value} {gV : List V → List V → List V} {fs : List (Str × D)}
    (ho : ED X o Γ (.obj C fs)) (hl : ∀ {H gs}, DenF X.K H fs gs → gs.lookup m = none) (c : Cls X.K C) (hm : Meth X.K C m f) (F : FnOk X.prog X.w X.K X.mg X.base (L2.CX X.prog X.w) k f fd ps (spX X.K 2 R RX)) (hr : Room k X.A) (hb : KBn X.K fd ps 1 [kn] g gV) (hgV : ∀ x y, gV [x] [y] = [x, y]) (hv : ED X ev Γ d2)
    (hall : (backToKw pos (keywordEach [⟨some kn, ev, q1⟩] X.env)).all (·.1.isSome) = true := by rfl) (hks : (backToKw pos (keywordEach [⟨some kn, ev, q1⟩] X.env)).filterMap (·.1) = [kn] := by rfl)
    (hpl : ((backTo pos (starEach [] X.env)).any (·.1) || (backToKw pos (keywordEach [⟨some kn, ev, q1⟩] X.env)).any (·.1.isNone)) = false := by rfl)
    (ht : eval (.Call (.Attribute o m apos) [] [⟨some kn, ev, q1⟩] pos) X.env = (do
      let ov ← eval o X.env
      standAt apos.atName
      let (f, first) ← holding [ov] (getMethod ov m pl)
      callWith pos f first (backTo pos (starEach [] X.env)) (backToKw pos (keywordEach [⟨some kn, ev, q1⟩] X.env))) := by rfl) :
    (∀ d, R [.obj C fs, d2] d → ED X (.Call (.Attribute o m apos) [] [⟨some kn, ev, q1⟩] pos) Γ d) ∧ ∀ cls xs, RX [.obj C fs, d2] cls xs → XD X (.Call (.Attribute o m apos) [] [⟨some kn, ev, q1⟩] pos) Γ cls xs := by
  obtain ⟨ta, pa, qa⟩ := ho
  obtain ⟨tv, pv, qv⟩ := hv
  have P := pe_methKS pa c hm F hr hb (fun σ => passW) (pk_cons pv pk_nil) hall hks hpl ht
  constructor
  · intro d hR
    refine ⟨_, P, fun σ H Cc Q r => qa σ H Cc _ fun x H1 e1 h1 => ?_⟩
    have h1' := h1
    simp only [Den] at h1'
    obtain ⟨a, dx, gs, rfl, ha, hF⟩ := h1'
    refine ⟨a, dx, gs, rfl, ha, hl hF, qv σ H1 (Cc.mono e1) _ fun y H2 e2 h2 => ⟨rfl, ?_⟩⟩
    rw [hgV]
    exact ⟨_, rfl, DenL.cons (h1.mono e2) (DenL.cons h2 DenL.nil), .inl ⟨d, hR, fun v H' e3 h3 => r v H' ((e1.trans e2).trans e3) h3⟩⟩
  · intro cls xs hR
    refine ⟨_, P, fun σ H Cc r Q => qa σ H Cc _ fun x H1 e1 h1 => ?_⟩
    have h1' := h1
    simp only [Den] at h1'
    obtain ⟨a, dx, gs, rfl, ha, hF⟩ := h1'
    refine ⟨a, dx, gs, rfl, ha, hl hF, qv σ H1 (Cc.mono e1) _ fun y H2 e2 h2 => ⟨rfl, ?_⟩⟩
    rw [hgV]
    exact ⟨_, rfl, DenL.cons (h1.mono e2) (DenL.cons h2 DenL.nil), .inr ⟨cls, xs, hR, fun d H' e3 h3 => r d H' ((e1.trans e2).trans e3) h3⟩⟩
end
/-- a def that may raise -/
theorem fn_X {P : Program} {w : World} {K : PySem.W.Frag} {mg : Str → Option Value} {base : Heap} {x qual : Str} {st : Stmt} {f : Addr} {fd : FuncData} {N ps : List Str} {k : Nat} {R : List D → D → Prop} {RX : List D → Value → List (Str × D) → Prop} (F : Fun K x qual st f fd) (S : FnScope N ps (defScope st))
    (hN : ps.length ≤ N.length)
    (h : ∀ (cdv : Value) (A : Around) (outer : List Env) (s : Shared) (H : Hp) (E : XK) (ds : List D) (Φ : Out → Prop), Room k (A.deeper (PyProof.Rows.envOfC qual (defScope st) s.heap.objs.size f cdv)) → ds.length = ps.length →
      ((∃ d, R ds d ∧ Φ = fun o => o = .rt d ∨ (d = .v .non ∧ ∃ Γ, o = .nx Γ)) ∨ ∃ cls fs, RX ds cls fs ∧ Φ = fun o => ∃ Γ, o = .ex cls fs Γ) →
      SsD (cxOf (L2.CX P w) P w K mg base N qual (defScope st) f cdv A outer s H E) (defBody st) (ds.map some ++ List.replicate (N.length - ds.length) none) Φ) :
    FnOk P w K mg base (L2.CX P w) (k + 1) f fd ps (spX K ps.length R RX) := by
  refine F.okX S (fun vs H Q E ⟨ds, h1, h2, _⟩ => by rw [← h2.len, h1]) fun cdv A outer s H vs Q E hr hsp => ?_
  obtain ⟨ds, h1, h2, h3⟩ := hsp
  have hl : (L2.start N vs).length = N.length := by
    unfold L2.start
    rw [List.length_append, List.length_map, List.length_replicate, ← h2.len, h1]
    omega
  rcases h3 with ⟨d, hR, q⟩ | ⟨cls, fs, hR, q⟩
  · obtain ⟨t, p, r⟩ := h cdv A outer s H E ds _ hr h1 (.inl ⟨d, hR, rfl⟩)
    refine ⟨t, p, r (L2.start N vs) H hl (start_ctx h2) _ ⟨fun Γ σ H' z e1 _ _ => ?_, fun d' v H' z e1 hv => ?_, fun Γ σ H' z => ?_, fun Γ σ H' z => ?_, fun c fs Γ d σ H' z => ?_⟩⟩
    · rcases z with z | ⟨z, _⟩
      · cases z
      · subst z
        exact q _ H' e1 (den_v.mpr rfl)
    · rcases z with z | ⟨_, _, z⟩
      · cases z
        exact q v H' e1 hv
      · cases z
    · rcases z with z | ⟨_, _, z⟩ <;> cases z
    · rcases z with z | ⟨_, _, z⟩ <;> cases z
    · rcases z with z | ⟨_, _, z⟩ <;> cases z
  · obtain ⟨t, p, r⟩ := h cdv A outer s H E ds _ hr h1 (.inr ⟨cls, fs, hR, rfl⟩)
    refine ⟨t, p, r (L2.start N vs) H hl (start_ctx h2) _ ⟨fun Γ σ H' ⟨_, z⟩ => (by cases z), fun d' v H' ⟨_, z⟩ => (by cases z), fun Γ σ H' ⟨_, z⟩ => (by cases z), fun Γ σ H' ⟨_, z⟩ => (by cases z), fun c fs' Γ d σ H' ⟨_, z⟩ e1 l1 c1 x1 => ?_⟩⟩
    cases z
    exact w0_of (W := fun cls d _ H => E cls d H) (takes_of rfl rfl rfl rfl) (q d H' e1 x1)
/-- a def without defaults, called with keywords -/
theorem fun_kb {K : PySem.W.Frag} {x qual : Str} {st : Stmt} {f : Addr} {fd : FuncData} {ps : List Str} (F : Fun K x qual st f fd) (n : Nat) (ks : List Str) (g : {α : Type} → List α → List α → List α) (hrel : ∀ {vs zs : List V} {us ws : List Value}, Vals vs us → Vals zs ws → Vals (g vs zs) (g us ws))
    (h : ∀ (kV doc pm : Value) (an : Option Addr) (cdv ct : Value) (us ws : List Value), us.length = n → ws.length = ks.length → bindArgs (PySem.W.fnOf x qual (defArgs st) (defBody st) (defScope st) .none kV doc pm an cdv ct) ⟨us, ks.zip ws⟩ = pure (ps.zip (g us ws))) :
    KBn K fd ps n ks (fun us ws => g us ws) (fun vs zs => g vs zs) := by
  obtain ⟨oc, od, kV, doc, pm, an, cdv, ct, osl, rfl, lk, hcd⟩ := F.ex
  exact ⟨fun s us ws X l1 l2 => .of_eq (h kV doc pm an cdv ct us ws l1 l2), fun r1 r2 => hrel r1 r2⟩
end Trk

namespace Trk
open PySem L2 Evl
/-! ### a class of errors right below another one, that below ValueError -/
def ecB (K : PySem.W.Frag) (C BE : Addr) : Bool :=
  match K.lookup C with
  | some ⟨.type "type", _, .cls cd, sl⟩ => (match sl.toList with
    | [_, _, _, _, some (.builtin n), _] => n == "ValueError.__new__" && !cd.hasDel && cd.hasDict && cd.mro == [.ref C, .ref BE, .type "ValueError", .type "Exception", .type "BaseException", .type "object"]
    | _ => false)
  | _ => false
theorem ec_of {K : PySem.W.Frag} {C BE : Addr} (h : ecB K C BE = true) : ∃ nm q N bs sn sub ab col dd k0 k1 k2 k3 k5, K.lookup C = some (excClassObj nm q C N bs [.ref BE, .type "ValueError", .type "Exception", .type "BaseException", .type "object"] true sn sub ab col dd k0 k1 k2 k3 k5 "ValueError.__new__") := by
  unfold ecB at h
  split at h
  · rename_i dd cd sl ho
    split at h
    · rename_i k0 k1 k2 k3 n k5 hs
      simp only [Bool.and_eq_true, beq_iff_eq, Bool.not_eq_true'] at h
      obtain ⟨⟨⟨rfl, hdel⟩, hd⟩, hm⟩ := h
      obtain ⟨nm, bs, mro, ns, qn, hd', sn, sub, ab, col, del⟩ := cd
      dsimp only at hm hdel hd
      subst hm hdel hd
      have hsl : sl = #[k0, k1, k2, k3, some (.builtin "ValueError.__new__"), k5] := by
        obtain ⟨l⟩ := sl
        simp only at hs
        rw [hs]
      subst hsl
      exact ⟨nm, qn, ns, bs, sn, sub, ab, col, dd, k0, k1, k2, k3, k5, ho⟩
    · cases h
  · cases h
theorem ec_cls {K : PySem.W.Frag} {C BE : Addr} (h : ecB K C BE = true) : ∃ cd, PySem.W.clsIn K C = some cd ∧ cd.mro = [.ref C, .ref BE, .type "ValueError", .type "Exception", .type "BaseException", .type "object"] ∧ cd.hasDict = true := by
  obtain ⟨nm, q, N, bs, sn, sub, ab, col, dd, k0, k1, k2, k3, k5, e⟩ := ec_of h
  unfold PySem.W.clsIn
  rw [e]
  exact ⟨_, rfl, rfl, rfl⟩
theorem ec_ty {K : PySem.W.Frag} {C BE : Addr} (h : ecB K C BE = true) : PySem.W.typeIn K (.ref C) = some (.type "type") := by
  obtain ⟨nm, q, N, bs, sn, sub, ab, col, dd, k0, k1, k2, k3, k5, e⟩ := ec_of h
  show (K.lookup C).map (·.cls) = _
  rw [e]
  rfl
theorem ec_mro {K : PySem.W.Frag} {C BE : Addr} (h : ecB K C BE = true) (v : Value) : PySem.W.mroIn K C v = some ([Value.ref C, .ref BE, .type "ValueError", .type "Exception", .type "BaseException", .type "object"].contains v) := by
  obtain ⟨cd, e, m, _⟩ := ec_cls h
  unfold PySem.W.mroIn
  rw [e, Option.bind_some, m]
  rfl
theorem ec_hd {K : PySem.W.Frag} {C BE : Addr} (h : ecB K C BE = true) : PySem.W.hasDictIn K C = true := by
  obtain ⟨cd, e, _, m⟩ := ec_cls h
  unfold PySem.W.hasDictIn
  rw [e]
  exact m
structure EcT (K : PySem.W.Frag) (mg : Str → Option Value) (x : Str) (C BE : Addr) : Prop where
  mg : mg x = some (.ref C)
  ec : ecB K C BE = true
  sa : PySem.W.findIn K (.ref C) "__setattr__" = some (some (.builtin "object.__setattr__"))
  ga : PySem.W.findIn K (.ref C) "__getattribute__" = some (some (.builtin "BaseException.__getattribute__"))
  gg : PySem.W.findIn K (.ref C) "__getattr__" = some none
  ca : PySem.W.findIn K (.ref C) "__class__" = some (some (.builtin "object.__class__"))
  cn : PySem.W.specialIn K (.builtin "object.__class__") "__get__" = some (some (.builtin "getset_descriptor.__get__"))
  ct : PySem.W.takesIn K (.builtin "object.__class__") = some true
  kp : PySem.W.keepIn K (.ref C) = true
section
variable {K : PySem.W.Frag} {mg : Str → Option Value} {x : Str} {C BE U : Addr}
theorem EcT.be (T : EcT K mg x C BE) : PySem.W.subIn K (.ref C) (.type "BaseException") = some true := by
  show PySem.W.mroIn K C _ = _
  rw [ec_mro T.ec]
  simp
theorem EcT.ve (T : EcT K mg x C BE) : PySem.W.subIn K (.ref C) (.type "ValueError") = some true := by
  show PySem.W.mroIn K C _ = _
  rw [ec_mro T.ec]
  simp
theorem EcT.ob (T : EcT K mg x C BE) : PySem.W.mroIn K C (.type "object") = some true := by
  rw [ec_mro T.ec]
  simp
theorem EcT.sub (T : EcT K mg x C BE) : PySem.W.subIn K (.ref C) (.ref U) = some (decide (U = C) || decide (U = BE)) := by
  show PySem.W.mroIn K C _ = _
  rw [ec_mro T.ec]
  congr 1
  rw [Bool.eq_iff_iff]
  simp
theorem EcT.oex (T : EcT K mg x C BE) : OexC K C := by
  obtain ⟨nm, q, N, bs, sn, sub, ab, col, dd, k0, k1, k2, k3, k5, e⟩ := ec_of T.ec
  exact ⟨⟨nm, q, N, bs, _, sn, sub, ab, col, dd, k0, k1, k2, k3, k5, e, (by show HandSPX.refsVE [.type "ValueError", .type "Exception", .type "BaseException", .type "object"] = true; decide +kernel)⟩, T.sa, T.be, ec_ty T.ec, T.kp⟩
theorem EcT.xf (T : EcT K mg x C BE) : XfC K C := ⟨T.ga, T.gg, T.be, ec_hd T.ec⟩
theorem EcT.erT (T : EcT K mg x C BE) (e : PySem.W.excIn K C [.type "ValueError", .type "Exception", .type "BaseException", .type "object"] "ValueError.__new__" = true) : ErT K mg x C := ⟨T.mg, e, T.kp, T.be, ec_ty T.ec, ec_hd T.ec, by
  rw [T.sub]
  simp⟩
theorem EcT.isC (T : EcT K mg x C BE) : (PySem.W.clsIn K C).isSome = true := by
  obtain ⟨cd, e, _⟩ := ec_cls T.ec
  rw [e]
  rfl
theorem EcT.kit {mg2 : Str → Option Value} {y : Str} {V : Addr} (T : EcT K mg x C BE) (T2 : EcT K mg2 y U V) (hn : U ≠ BE) : PySem.W.kitOne K (.ref C) (.ref U) = some (decide (C = U)) := by
  by_cases h : C = U
  · subst h
    rw [kit_self, decide_eq_true rfl]
  · rw [kit_sub T2.isC (ec_ty T2.ec) T.sub (rf_ne h), decide_eq_false h, decide_eq_false (fun z => h z.symm), decide_eq_false hn]
    rfl
theorem EcT.kitT (T : EcT K mg x C BE) (ic : PySem.W.isClsIn K BE = true) (ty : PySem.W.typeIn K (.ref BE) = some (.type "type")) (hn : C ≠ BE) : PySem.W.kitOne K (.ref C) (.ref BE) = some true := by
  rw [kit_sub ic ty T.sub (rf_ne hn), decide_eq_true (rfl : BE = BE), Bool.or_true]
theorem EcT.kitV (T : EcT K mg x C BE) : PySem.W.kitOne K (.ref C) (.type "ValueError") = some true := by
  unfold PySem.W.kitOne PySem.W.kitCls
  rw [if_neg (by rw [show (Value.ref C == Value.type "ValueError") = false from Bool.eq_false_iff.mpr fun q => by cases beq_iff_eq.mp q]; exact Bool.false_ne_true)]
  show (if PySem.W.kitMeta "ValueError" = true then PySem.W.subIn K (.ref C) (.type "ValueError") else none) = some true
  rw [if_pos (by decide +kernel), T.ve]
end
/-! ### what isinstance and a dot see of such an object -/
/-- the object at a is an exception of the class C: by what is tracked, or by a pin -/
theorem instX {X : Cx} {pins : List (Addr × Obj)} {σ : L2.St} {H : Hp} {s : Shared} {a C : Addr} {d : Option Addr} {oe : Obj} {vs : Array Value} (I : Inv X pins σ H s) (hget : s.heap.get? a = some oe) (hz : Zc (.ref C) d oe) (hv : oe.data = .fields vs)
    (hd : d = none ∨ ∃ dd gs, d = some dd ∧ (H dd = some (exd dd gs) ∨ H dd = some (.xd gs))) : ∃ od, PySem.W.InstAt s.heap a oe C od ∧ ∀ dd gs, d = some dd → (H dd = some (exd dd gs) ∨ H dd = some (.xd gs)) → ∀ f v, gs.lookup f = some v → ∃ o u, od = some o ∧ PySem.W.lookIn f o = some (some u) ∧ RelV v u := by
  have nc : PySem.W.notCls oe = true := by
    unfold PySem.W.notCls
    rw [hv] <;> rfl
  have ns : ∀ dd gs, (H dd = some (exd dd gs) ∨ H dd = some (.xd gs)) → ∃ mA, s.heap.Ns1 dd mA ∧ ∀ f, RelO (gs.lookup f) (mA f) := fun dd gs z => by
    rcases z with z | z
    · exact exd_at I.hok z
    · have x : ObjOk X.prog X.w H s.heap dd (.xd gs) := I.hok dd _ z
      exact x
  rcases hd with rfl | ⟨dd, gs, rfl, hd⟩
  · exact ⟨none, ⟨hget, hz.1, nc, by rw [hz.2]; trivial⟩, fun dd gs z => by cases z⟩
  · obtain ⟨mA, hns, _⟩ := ns dd gs hd
    obtain ⟨od, ho, hl⟩ := lookIn_ns hns
    refine ⟨some od, ⟨hget, hz.1, nc, by rw [hz.2]; exact ho⟩, fun dd2 gs2 z hd2 f v l => ?_⟩
    cases z
    obtain ⟨mA2, hns2, hr2⟩ := ns dd gs2 hd2
    obtain ⟨od2, ho2, hl2⟩ := lookIn_ns hns2
    rw [ho] at ho2
    cases ho2
    obtain ⟨u, hu, ru⟩ := RelO.some_of (v := v) (o := mA2 f) (by rw [← l]; exact hr2 f)
    exact ⟨od, u, rfl, by rw [hl2, hu], ru⟩
/-- the object of the D-value at a -/
def SeenX (X : Cx) (C : Addr) (d : D) (fs : List (Str × D)) : Prop := d = .exc C fs ∨ ∃ a oe dx vs, d = .ced a dx fs ∧ (a, oe) ∈ X.pn ∧ Zc (.ref C) dx oe ∧ oe.data = .fields vs
theorem seenX {X : Cx} {C : Addr} {d : D} {fs : List (Str × D)} {pins : List (Addr × Obj)} {σ : L2.St} {H : Hp} {s : Shared} {v : V} (h : SeenX X C d fs) (I : Inv X pins σ H s) (hd : Den X.K H d v) :
    ∃ a oe od, v = .ref a ∧ PySem.W.InstAt s.heap a oe C od ∧ ∀ f d2, fs.lookup f = some d2 → ∃ y o u, od = some o ∧ PySem.W.lookIn f o = some (some u) ∧ RelV y u ∧ Den X.K H d2 y := by
  have key : ∀ {fs : List (Str × D)} {gs : List (Str × V)} {f : Str} {d2 : D}, DenF X.K H fs gs → fs.lookup f = some d2 → ∃ y, gs.lookup f = some y ∧ Den X.K H d2 y := by
    intro fs
    induction fs with
    | nil =>
      intro gs f d2 _ h
      cases h
    | cons p r ih =>
      intro gs f d2 hF hl
      obtain ⟨g, x⟩ := p
      simp only [DenF] at hF
      obtain ⟨z, zs, rfl, hz, hzs⟩ := hF
      rw [lookup_put] at hl ⊢
      by_cases hfg : f = g
      · rw [if_pos hfg] at hl ⊢
        cases hl
        exact ⟨z, rfl, hz⟩
      · rw [if_neg hfg] at hl ⊢
        exact ih hzs hl
  rcases h with rfl | ⟨a, oe, dx, vs, rfl, hp, hz, hv⟩
  · simp only [Den] at hd
    obtain ⟨a, o, rfl, ha, hd⟩ := hd
    rcases hd with ⟨rfl, hx⟩ | ⟨dd, gs, hne, hx, hdd, hF⟩
    · obtain ⟨oe, vs, hg, hz, hv⟩ := hx _ _ _ _ (I.hok a o ha)
      obtain ⟨od, J, _⟩ := instX I hg hz hv (.inl rfl)
      exact ⟨a, oe, od, rfl, J, fun f d2 l => by cases l⟩
    · obtain ⟨oe, vs, hg, hz, hv⟩ := hx _ _ _ _ (I.hok a o ha)
      obtain ⟨od, J, L⟩ := instX I hg hz hv (.inr ⟨dd, gs, rfl, .inl hdd⟩)
      refine ⟨a, oe, od, rfl, J, fun f d2 l => ?_⟩
      obtain ⟨y, ly, hy⟩ := key hF l
      obtain ⟨o2, u, eo, lu, ru⟩ := L dd gs rfl (.inl hdd) f y ly
      exact ⟨y, o2, u, eo, lu, ru, hy⟩
  · simp only [Den] at hd
    obtain ⟨rfl, hd⟩ := hd
    obtain ⟨hg, _⟩ := I.pin (a, oe) (List.mem_append_left _ hp)
    rcases hd with ⟨rfl, rfl⟩ | ⟨dd, gs, hne, rfl, hdd, hF⟩
    · obtain ⟨od, J, _⟩ := instX I hg hz hv (.inl rfl)
      exact ⟨a, oe, od, rfl, J, fun f d2 l => by cases l⟩
    · obtain ⟨od, J, L⟩ := instX I hg hz hv (.inr ⟨dd, gs, rfl, .inr hdd⟩)
      refine ⟨a, oe, od, rfl, J, fun f d2 l => ?_⟩
      obtain ⟨y, ly, hy⟩ := key hF l
      obtain ⟨o2, u, eo, lu, ru⟩ := L dd gs rfl (.inr hdd) f y ly
      exact ⟨y, o2, u, eo, lu, ru, hy⟩
section
variable {X : Cx} {Γ : Gm} {d d1 d2 : D} {e a b c : Expr} {es : List Expr} {pos : Pos} {st : Stmt} {sts body rest : List Stmt} {Φ Ψ : Out → Prop} {C BE : Addr} {fs : List (Str × D)} {x : Str}
/-- isinstance(e, c) -/
theorem ed_isX {mg : Str → Option Value} {k : Bool} {u : Value} {cv : V} {p : Pos} (T : EcT X.K mg x C BE) (hm : X.mg "isinstance" = none) (ha : ED X a Γ d1) (hs : SeenX X C d1 fs) (hc : ED X c Γ (.v cv)) (hcv : ClsV cv u) (hk : PySem.W.kitOne X.K (.ref C) u = some k) (hg : Gl X "isinstance" := by rfl)
    (he : starEach (a :: [c]) X.env = (false, eval a X.env) :: starEach [c] X.env := by rfl) (hs1 : starEach (c :: []) X.env = (false, eval c X.env) :: starEach [] X.env := by rfl) (hpl : (backTo pos (starEach [c] X.env)).any (·.1) = false := by rfl) :
    ED X (.Call (.Name "isinstance" p) [a, c] [] pos) Γ (bD k) := by
  have hcall : CallR X (.builtin "isinstance") (fun xs H Q => ∃ z, xs = [z, cv] ∧ Den X.K H d1 z ∧ Q (.bl k) H) := by
    intro pins s σ H xs us Q I r h
    obtain ⟨z, rfl, hz, q⟩ := h
    obtain ⟨a, oe, od, rfl, J, _⟩ := seenX hs I hz
    cases r with
    | cons rx rr =>
      cases rr with
      | cons rt rr =>
        cases rr
        cases rx
        have ec := hcv.eq rt
        subst ec
        exact PySem.W.kia_one (PySem.W.kitx_exc T.isC T.ga T.gg T.be T.ca T.cn T.ct T.ob) I.kIn J hk (fun z => nomatch z) fun tk => ⟨.bl k, H, I.kept (t' := tk) fun _ _ z => z, rfl, q⟩
  refine ed_callB (d := bD k) hcall hm (by decide +kernel) (ad_cons ha (ad_cons hc ad_nil hs1) he) (fun xs H h Q q => ?_) hg (by decide) (by decide) he hpl
  obtain ⟨z, y, rfl, h1, h2⟩ := denL_two h
  rw [den_v.mp h2]
  exact ⟨z, rfl, h1, q _ H (Ex.refl H) (den_v.mpr rfl)⟩
/-- e.f -/
theorem ed_xf {mg : Str → Option Value} {f : Str} {p : Pos} (T : EcT X.K mg x C BE) (ha : ED X a Γ d1) (hs : SeenX X C d1 fs) (hno : PySem.W.findIn X.K (.ref C) f = some none) (l : fs.lookup f = some d) (hb : attributeBase a f X.env (eval a X.env) = eval a X.env := by rfl) : ED X (.Attribute a f p) Γ d := by
  obtain ⟨t, pp, qq⟩ := ha
  refine ⟨fun σ H Q => t σ H fun z H1 => Den X.K H1 d1 z ∧ ∀ v, Den X.K H1 d v → Q v H1, ⟨fun pins s σ H Q I h => ?_⟩, fun σ H Cc Q q => qq σ H Cc _ fun v H1 e1 h1 => ⟨h1, fun w hw => q w H1 e1 hw⟩⟩
  refine attr_of hb (thn (pp.run pins s σ H _ I h) fun u s1 hh => ?_)
  obtain ⟨z, H1, I1, rz, hz, k⟩ := hh
  obtain ⟨a, oe, od, rfl, J, L⟩ := seenX hs I1 hz
  obtain rfl : u = Value.ref a := rz
  obtain ⟨y, o2, w, eo, lw, ry, hy⟩ := L f d l
  subst eo
  exact HandSPX.exc_get I1.kIn J T.ga T.gg T.be (PySem.W.findObj_own (ec_hd T.ec) hno rfl lw) (handed_of ry) ⟨y, H1, I1.tok _, ry, k y hy⟩
/-! ### C(e, ..), kept -/
theorem isx_exo {a C : Addr} {d : Option Addr} : IsX a C d (exo a C d) := fun P w H h x => by
  have x' : ObjOk P w H h a (.ext fun h => ∃ t1 : Addr, h.get? a = some ({ cls := .ref C, dict := d, data := .fields #[.ref t1, .none, .none, .none, .bool false, .none] } : Obj)) := x
  obtain ⟨⟨t1, he⟩, _⟩ := x'
  exact ⟨_, _, he, ⟨rfl, rfl⟩, rfl⟩
def tNewX (C : Addr) (sp : Sp) (ta : TA) : TE := fun σ H Q => ta σ H fun vs H1 => vs.length ≤ 1000 ∧ ∀ a, H1 a = none → sp (.ref a :: vs) (upd H1 a (exo a C none)) (fun v H2 => v = .non ∧ Q (.ref a) H2) (fun _ _ _ => False)
theorem pe_newX {CX : CXT} {fI : Addr} {k : Nat} {fd : FuncData} {ps : List Str} {sp : Sp} {ta : TA} {p : Pos} (T : OexC X.K C) (iC : PySem.W.findIn X.K (.ref C) "__init__" = some (some (.ref fI))) (tI : PySem.W.typeIn X.K (.ref fI) = some (.type "function"))
    (F1 : FnOk X.prog X.w X.K X.mg X.base CX k fI fd ps sp) (hr : Room (k + 1) X.A) (hb : Binds X.K fd ps []) (hx : Passes CX X (fun _ _ _ => False)) (hg : Gl X x) (hm : X.mg x = some (.ref C)) (ha : PA X (e :: es) ta)
    (hdb : (x == ("__debug__" : Str)) = false := by decide) (he : starEach (e :: es) X.env = (false, eval e X.env) :: starEach es X.env := by rfl) (hpl : (backTo pos (starEach es X.env)).any (·.1) = false := by rfl) :
    PE X (.Call (.Name x p) (e :: es) [] pos) (tNewX C sp ta) := by
  refine ⟨fun pins s σ H Q I h => wpAny_Call_Name_kw (ld_glob I hg hm ?_ hdb)⟩
  obtain ⟨nm, q, N, bs, bm, sn, sub, ab, col, dd, k0, k1, k2, k3, k5, hC, hbm⟩ := T.cls
  refine PySem.W.callWith_K (h₀ := X.base) I.ok.mod.kin T.kC (thn (ha.run pos pins s σ H _ I h) fun us s1 got => ?_) he hpl
  obtain ⟨vs, H1, I1, r1, hz, q1⟩ := got
  refine ⟨I1.kIn, ?_⟩
  show wpAny _ _ (call (.ref C) us) _ _ _
  obtain ⟨hp, g, dr, tk, os⟩ := s1
  let n := hp.objs.size
  let hh := (hp.push (PySem.W.kdv_tup us)).push (PySem.HandSPX.excO C n)
  have told := q1 (n + 1) (I1.hok.fresh (Nat.le_succ _))
  have there : hh.get? (n + 1) = some (PySem.HandSPX.excO C n) := by
    show ((hp.push (PySem.W.kdv_tup us)).push (PySem.HandSPX.excO C hp.objs.size)).get? (hp.objs.size + 1) = some (PySem.HandSPX.excO C hp.objs.size)
    heap_get
  have J : Inv X pins σ (upd H1 (n + 1) (exo (n + 1) C none)) ⟨hh, g, dr, tk, os⟩ :=
    I1.laid (t' := tk) (a := n + 1) (o := exo (n + 1) C none) (h' := hh) (fun b o z => Heap.get?_push_of_some _ (Heap.get?_push_of_some _ z)) (Nat.le_succ _) (exo_ok there)
  have rel : Vals (V.ref (n + 1) :: vs) (Value.ref (n + 1) :: us) := .cons rfl r1
  have len : (Value.ref (n + 1) :: us ++ []).length = ps.length := by
    rw [List.append_nil]
    exact rel.length.symm.trans (F1.len _ _ _ _ told)
  have bound := hb ⟨hh, g, dr, tk, os⟩ (Value.ref (n + 1) :: us) J.kIn len
  rw [List.append_nil] at bound
  have short : us.length ≤ sizeLine := by
    rw [← Paired.length r1, sizeLine_eq]
    omega
  refine wpAny_call (PySem.HandSPX.call_own F.excBase_ValueError (fun Y => PySem.HandSPX.refsVE_contains Y bm hbm) (I1.kIn _ _ hC) (PySem.W.looks_findIn I1.kIn iC) (fun self => PySem.W.bind_fn I1.kIn self tI) short
    (codeAny_mono (F1.run _ X.stack _ _ ⟨Value.ref (n + 1) :: us, []⟩ _ _ _ (fun _ _ _ => False) (hr.make C us []) (J.env0.make C us []) bound rel told) fun res s' out => ?_))
  rcases res with err | fl
  · exact hx pins σ _ _ err s' J out
  · cases fl with
    | ret u =>
      obtain ⟨v, H', I3, rv, ev, q3⟩ := J.after out
      subst ev
      exact ⟨rv, ⟨V.ref (n + 1), H', I3, rfl, q3⟩⟩
    | next => exact out.elim
    | brk => exact out.elim
    | cont => exact out.elim
end
/-- __init__ that keeps what it gets: one thing, two things -/
def spE1 (C : Addr) (f : Str) : Sp := fun vs H Q _ => ∃ a v, vs = [.ref a, v] ∧ H a = some (exo a C none) ∧ ∀ dx, H dx = none → dx ≠ a → Q .non (upd (upd H dx (exd dx [(f, v)])) a (exo a C (some dx)))
def spE2 (C : Addr) (f g : Str) : Sp := fun vs H Q _ => ∃ a v u, vs = [.ref a, v, u] ∧ H a = some (exo a C none) ∧ ∀ dx, H dx = none → dx ≠ a → Q .non (upd (upd (upd H dx (exd dx [(f, v)])) a (exo a C (some dx))) dx (exd dx [(g, u), (f, v)]))
section
variable {X : Cx} {Γ : Gm} {d d1 d2 : D} {e a b c : Expr} {es : List Expr} {pos : Pos} {st : Stmt} {sts body rest : List Stmt} {Φ Ψ : Out → Prop} {C BE fI : Addr} {fs : List (Str × D)} {x : Str} {fd : FuncData} {ps : List Str}
theorem ex_up {H H1 : Hp} {a : Addr} {o : HO} (e1 : Ex H H1) (n : H1 a = none) : Ex H (upd H1 a o) := fun b u hb => by
  have h := e1 b u hb
  rw [upd_ne (ne_of_none h n)]
  exact h
theorem denF_nil {K : PySem.W.Frag} {H : Hp} : DenF K H [] [] := by simp only [DenF]
theorem denF_cons {K : PySem.W.Frag} {H : Hp} {f : Str} {y : V} {gs : List (Str × V)} (h : Den K H d y) (t : DenF K H fs gs) : DenF K H ((f, d) :: fs) ((f, y) :: gs) := by
  simp only [DenF]
  exact ⟨y, gs, rfl, h, t⟩
theorem den1 {K : PySem.W.Frag} {H1 : Hp} {a dx : Addr} {f : Str} {y : V} (hy : Den K H1 d1 y) (n1 : H1 a = none) (n2 : H1 dx = none) (ne : dx ≠ a) : Den K (upd (upd (upd H1 a (exo a C none)) dx (exd dx [(f, y)])) a (exo a C (some dx))) (.exc C [(f, d1)]) (.ref a) := by
  simp only [Den]
  refine ⟨a, _, rfl, upd_same, .inr ⟨dx, [(f, y)], by simp, isx_exo, by rw [upd_ne ne, upd_same], ?_⟩⟩
  refine denF_cons (hy.mono fun b u hb => ?_) denF_nil
  rw [upd_ne (ne_of_none hb n1), upd_ne (ne_of_none hb n2), upd_ne (ne_of_none hb n1)]
  exact hb
theorem ed_newE1 {f : Str} {p : Pos} (T : EcT X.K X.mg x C BE) (iC : PySem.W.findIn X.K (.ref C) "__init__" = some (some (.ref fI))) (tI : PySem.W.typeIn X.K (.ref fI) = some (.type "function"))
    (F1 : FnOk X.prog X.w X.K X.mg X.base CX0 1 fI fd ps (spE1 C f)) (hr : Room 2 X.A) (hb : Binds X.K fd ps []) (ha : ED X e Γ d1) (hg : Gl X x := by rfl)
    (hdb : (x == ("__debug__" : Str)) = false := by decide) (he : starEach (e :: []) X.env = (false, eval e X.env) :: starEach [] X.env := by rfl) (hpl : (backTo pos (starEach [] X.env)).any (·.1) = false := by rfl) :
    ED X (.Call (.Name x p) [e] [] pos) Γ (.exc C [(f, d1)]) := by
  obtain ⟨t, pp, q⟩ := ha
  refine ⟨_, pe_newX T.oex iC tI F1 hr hb pass0 hg T.mg (pa_cons pp pa_nil he) hdb he hpl, fun σ H Cc Q k => q σ H Cc _ fun y H1 e1 h1 => ⟨by show 1 ≤ 1000; decide, fun a n => ?_⟩⟩
  refine ⟨a, y, rfl, upd_same, fun dx n2 ne => ⟨rfl, ?_⟩⟩
  rw [upd_ne ne] at n2
  refine k _ _ (fun b u hb => ?_) (den1 h1 n n2 ne)
  have h := e1 b u hb
  rw [upd_ne (ne_of_none h n), upd_ne (ne_of_none h n2), upd_ne (ne_of_none h n)]
  exact h
theorem ed_newE2 {f g : Str} {p : Pos} (T : EcT X.K X.mg x C BE) (iC : PySem.W.findIn X.K (.ref C) "__init__" = some (some (.ref fI))) (tI : PySem.W.typeIn X.K (.ref fI) = some (.type "function"))
    (F1 : FnOk X.prog X.w X.K X.mg X.base CX0 1 fI fd ps (spE2 C f g)) (hr : Room 2 X.A) (hb : Binds X.K fd ps []) (ha : ED X e Γ d1) (hb2 : ED X b Γ d2) (hg : Gl X x := by rfl)
    (hdb : (x == ("__debug__" : Str)) = false := by decide) (he : starEach (e :: [b]) X.env = (false, eval e X.env) :: starEach [b] X.env := by rfl) (he2 : starEach (b :: []) X.env = (false, eval b X.env) :: starEach [] X.env := by rfl) (hpl : (backTo pos (starEach [b] X.env)).any (·.1) = false := by rfl) :
    ED X (.Call (.Name x p) [e, b] [] pos) Γ (.exc C [(g, d2), (f, d1)]) := by
  obtain ⟨t, pp, q⟩ := ha
  obtain ⟨t2, pp2, q2⟩ := hb2
  refine ⟨_, pe_newX T.oex iC tI F1 hr hb pass0 hg T.mg (pa_cons pp (pa_cons pp2 pa_nil he2) he) hdb he hpl, fun σ H Cc Q k => q σ H Cc _ fun y H1 e1 h1 => q2 σ H1 (Cc.mono e1) _ fun z H2 e2 h2 => ⟨by show 2 ≤ 1000; decide, fun a n => ?_⟩⟩
  refine ⟨a, y, z, rfl, upd_same, fun dx n2 ne => ⟨rfl, ?_⟩⟩
  rw [upd_ne ne] at n2
  have up : Ex H2 (upd (upd (upd (upd H2 a (exo a C none)) dx (exd dx [(f, y)])) a (exo a C (some dx))) dx (exd dx [(g, z), (f, y)])) := fun b u hb => by
    rw [upd_ne (ne_of_none hb n2), upd_ne (ne_of_none hb n), upd_ne (ne_of_none hb n2), upd_ne (ne_of_none hb n)]
    exact hb
  refine k _ _ ((e1.trans e2).trans up) ?_
  simp only [Den]
  refine ⟨a, _, rfl, by rw [upd_ne (Ne.symm ne), upd_same], .inr ⟨dx, [(g, z), (f, y)], by simp, isx_exo, upd_same, ?_⟩⟩
  exact denF_cons (h2.mono up) (denF_cons ((h1.mono e2).mono up) denF_nil)
/-- X() -/
theorem isx_ExO {a C : Addr} : IsX a C none (ExO (.ref C) a) := fun P w H h x => by
  have x' : ObjOk P w H h a (.ext fun h => ∃ (oe : Obj) (vs : Array Value), h.get? a = some oe ∧ Zc (.ref C) none oe ∧ oe.data = .fields vs ∧ vs[1]? = some .none ∧ vs[2]? = some .none ∧ 4 < vs.size) := x
  obtain ⟨⟨oe, vs, h1, h2, h3, _⟩, _⟩ := x'
  exact ⟨oe, vs, h1, h2, h3⟩
theorem ed_newE0 {p : Pos} (T : ErT X.K X.mg x C) (hg : Gl X x := by rfl) (hdb : (x == ("__debug__" : Str)) = false := by decide) : ED X (.Call (.Name x p) [] [] pos) Γ (.exc C []) := by
  refine ⟨fun σ H Q => ∀ a, H a = none → Q (.ref a) (upd H a (ExO (.ref C) a)), ⟨fun pins s σ H Q I h => ?_⟩, fun σ H Cc Q k a n => k _ _ (ex_up (Ex.refl H) n) ?_⟩
  · refine wpAny_Call_Name_kw (ld_glob I hg T.mg ?_ hdb)
    refine PySem.W.callWith_K0 (first := []) I.kIn T.kp ?_
    obtain ⟨bm, N, nm, qn, bs, hdct, sn, sub, ab, col, dd, k0, k1, k2, k3, k5, mN, hC, hN, hni, OT⟩ := exc_obj I.kIn T.exc
    obtain ⟨hp, g, dr, tk, os⟩ := s
    refine wpAny_call_exc_subT PySem.F.excBase_ValueError OT hC hN hni (fun h' a hm => ?_) (Nat.zero_le _)
    have hn : H a = none := I.hok.gone hm.new
    obtain ⟨t, ht, _, _⟩ := hm.there
    exact ⟨.ref a, upd H a (ExO (.ref C) a), I.laidN hm.keeps hm.new hn (exO_ok ht ⟨rfl, rfl⟩ rfl rfl rfl (show 4 < 6 by decide)), rfl, h a hn⟩
  · simp only [Den]
    exact ⟨a, _, rfl, upd_same, .inl ⟨True.intro, isx_ExO⟩⟩
/-! ### raise C(e, ..) -/
theorem denX1 {K : PySem.W.Frag} {H1 H2 : Hp} {a dd : Addr} {gs : List (Str × V)} (hF : DenF K H1 fs gs) (hne : fs ≠ []) (up : Ex H1 H2) (hd : H2 dd = some (.xd gs)) : DenX K H2 (some dd) fs := .inr ⟨dd, gs, hne, rfl, hd, hF.mono up⟩
theorem ex_let {H H1 : Hp} {a dx : Addr} {o1 o2 : HO} {gs : List (Str × V)} (e1 : Ex H H1) (n : H1 a = none) (n2 : H1 dx = none) {H2 : Hp} (h2 : ∀ b, b ≠ a → b ≠ dx → H2 b = H1 b) : Ex H (upd (L2.del H2 a) dx (.xd gs)) := fun b u hb => by
  have h := e1 b u hb
  have b1 : b ≠ a := ne_of_none h n
  have b2 : b ≠ dx := ne_of_none h n2
  rw [upd_ne b2, L2.del_ne b1, h2 b b1 b2]
  exact h
theorem sd_raiseE1 {f : Str} {p p2 : Pos} (hc : X.calm = true) (T : EcT X.K X.mg x C BE) (iC : PySem.W.findIn X.K (.ref C) "__init__" = some (some (.ref fI))) (tI : PySem.W.typeIn X.K (.ref fI) = some (.type "function"))
    (F1 : FnOk X.prog X.w X.K X.mg X.base CX0 1 fI fd ps (spE1 C f)) (hr : Room 2 X.A) (hb : Binds X.K fd ps []) (ha : ED X e Γ d1) (hp : Φ (.ex (.ref C) [(f, d1)] Γ)) (hg : Gl X x := by rfl)
    (hdb : (x == ("__debug__" : Str)) = false := by decide) (he : starEach (e :: []) X.env = (false, eval e X.env) :: starEach [] X.env := by rfl) (hpl : (backTo pos (starEach [] X.env)).any (·.1) = false := by rfl) :
    SD X (.Raise (some (.Call (.Name x p) [e] [] pos)) none p2) Γ Φ := by
  obtain ⟨t, pp, q⟩ := ha
  refine ⟨_, ps_raise hc tk0 (pmk_oex T.oex iC tI F1 hr hb .nil pass0 hg T.mg (pa_cons pp pa_nil he) hdb he hpl), fun σ H hl Cc E k => q σ H Cc _ fun y H1 e1 h1 => ⟨by show 1 ≤ 1000; decide, fun a n => ?_⟩⟩
  refine ⟨a, y, rfl, upd_same, fun dx n2 ne => ⟨rfl, dx, [(f, y)], upd_same, by rw [upd_ne ne, upd_same], ?_, ?_⟩⟩
  · rw [upd_ne ne] at n2
    exact n2
  · rw [upd_ne ne] at n2
    have up : Ex H1 (upd (L2.del (upd (upd (upd H1 a (exo a C none)) dx (exd dx [(f, y)])) a (exo a C (some dx))) a) dx (.xd [(f, y)])) := ex_let (o1 := exo a C none) (o2 := exo a C none) (Ex.refl H1) n n2 fun b b1 b2 => by rw [upd_ne b1, upd_ne b2, upd_ne b1]
    refine k.ex _ _ Γ _ σ _ hp (e1.trans up) hl (Cc.mono (e1.trans up)) (.inr ⟨dx, [(f, y)], by simp, rfl, upd_same, ?_⟩)
    exact denF_cons (h1.mono up) denF_nil
theorem sd_raiseE2 {f g : Str} {p p2 : Pos} (hc : X.calm = true) (T : EcT X.K X.mg x C BE) (iC : PySem.W.findIn X.K (.ref C) "__init__" = some (some (.ref fI))) (tI : PySem.W.typeIn X.K (.ref fI) = some (.type "function"))
    (F1 : FnOk X.prog X.w X.K X.mg X.base CX0 1 fI fd ps (spE2 C f g)) (hr : Room 2 X.A) (hb : Binds X.K fd ps []) (ha : ED X e Γ d1) (hb2 : ED X b Γ d2) (hp : Φ (.ex (.ref C) [(g, d2), (f, d1)] Γ)) (hg : Gl X x := by rfl)
    (hdb : (x == ("__debug__" : Str)) = false := by decide) (he : starEach (e :: [b]) X.env = (false, eval e X.env) :: starEach [b] X.env := by rfl) (he2 : starEach (b :: []) X.env = (false, eval b X.env) :: starEach [] X.env := by rfl) (hpl : (backTo pos (starEach [b] X.env)).any (·.1) = false := by rfl) :
    SD X (.Raise (some (.Call (.Name x p) [e, b] [] pos)) none p2) Γ Φ := by
  obtain ⟨t, pp, q⟩ := ha
  obtain ⟨t2, pp2, q2⟩ := hb2
  refine ⟨_, ps_raise hc tk0 (pmk_oex T.oex iC tI F1 hr hb .nil pass0 hg T.mg (pa_cons pp (pa_cons pp2 pa_nil he2) he) hdb he hpl), fun σ H hl Cc E k => q σ H Cc _ fun y H1 e1 h1 => q2 σ H1 (Cc.mono e1) _ fun z H2 e2 h2 => ⟨by show 2 ≤ 1000; decide, fun a n => ?_⟩⟩
  refine ⟨a, y, z, rfl, upd_same, fun dx n2 ne => ⟨rfl, dx, [(g, z), (f, y)], by rw [upd_ne (Ne.symm ne), upd_same], upd_same, ?_, ?_⟩⟩
  · rw [upd_ne ne] at n2
    exact n2
  · rw [upd_ne ne] at n2
    have up : Ex H2 (upd (L2.del (upd (upd (upd (upd H2 a (exo a C none)) dx (exd dx [(f, y)])) a (exo a C (some dx))) dx (exd dx [(g, z), (f, y)])) a) dx (.xd [(g, z), (f, y)])) := ex_let (o1 := exo a C none) (o2 := exo a C none) (Ex.refl H2) n n2 fun b b1 b2 => by rw [upd_ne b2, upd_ne b1, upd_ne b2, upd_ne b1]
    refine k.ex _ _ Γ _ σ _ hp ((e1.trans e2).trans up) hl (Cc.mono ((e1.trans e2).trans up)) (.inr ⟨dx, [(g, z), (f, y)], by simp, rfl, upd_same, ?_⟩)
    exact denF_cons (h2.mono up) (denF_cons ((h1.mono e2).mono up) denF_nil)
/-! ### except x as n, the thing kept -/
theorem sd_tryAsC (i : Nat) {x n : Str} {C : Addr} {b₀ : Stmt} {suite : List Stmt} {np pos' : Pos} (hs : X.stack = X.env :: X.outer) (hf : X.env.frame = some X.env.locals) (hd : X.N.Nodup) (hc : Names X x (.ref C))
    (hb : ∀ pn xe, PassesOwn (model X.prog X.w) X.A X.env xe → SsD (X.tr pn xe) body Γ Ψ)
    (ho : ∀ o, (∀ c fs Γ', o ≠ .ex c fs Γ') → Ψ o → Φ o)
    (hx : ∀ c fs Γ', Ψ (.ex c fs Γ') → ∃ k, PySem.W.exmOne X.K c (.ref C) = some k ∧ (k = true → ∀ a oe d pn, Zc c d oe → (∃ vs, oe.data = .fields vs) → SsD (X.suite a ((a, oe) :: pn)) (b₀ :: suite) (Γ'.set i (some (.ced a d fs))) (gone i Φ)) ∧ (k = false → Φ (.ex c fs Γ')))
    (hN : X.N[i]? = some n := by rfl) (hln : X.env.kindOf n = some .local := by rfl) :
    SD X (.Try body [.ExceptHandler (some (.Name x np)) (some n) (b₀ :: suite) pos'] [] [] pos) Γ Φ := by
  refine ⟨_, ps_try_as (i := i) hs hf hd hN hln hc (tk0 (X := X)) (tb := bodyT X body) (ts := suiteT X (b₀ :: suite)) (fun W pn xe tk hp => ⟨fun pins s σ H E I h => h pn xe tk hp pins s I⟩)
    (fun a oe cls d pn hz hfl => ⟨fun pins s σ H E I h => h oe pn hz hfl pins s I⟩), fun σ H hl C0 E T => ?_⟩
  intro pn xe tk hp
  refine (hb pn xe hp).all hl C0 ?_
  refine ⟨fun Γ' σ' H' z e1 l1 c1 => T.nx Γ' σ' H' (ho _ (fun _ _ _ w => by cases w) z) e1 l1 c1, fun d v H' z e1 hv => T.rt d v H' (ho _ (fun _ _ _ w => by cases w) z) e1 hv,
    fun Γ' σ' H' z e1 l1 c1 => T.bk Γ' σ' H' (ho _ (fun _ _ _ w => by cases w) z) e1 l1 c1, fun Γ' σ' H' z e1 l1 c1 => T.ct Γ' σ' H' (ho _ (fun _ _ _ w => by cases w) z) e1 l1 c1, fun c fs Γ' d σ' H' z e1 l1 c1 x1 => ?_⟩
  refine w0_of tk ?_
  obtain ⟨k, h1, h2, h3⟩ := hx c fs Γ' z
  refine ⟨k, h1, fun hk a na => ?_, fun hk => T.ex c fs Γ' d σ' H' (h3 hk) e1 l1 c1 x1⟩
  intro oe pn2 hz hfl
  have hi : i < σ'.length := by
    rw [l1]
    exact (List.getElem?_eq_some_iff.mp hN).1
  refine (h2 hk a oe d pn2 hz hfl).all (by rw [List.length_set]; exact l1) (c1.set hi (by
    simp only [Den]
    exact ⟨True.intro, x1⟩)) ?_
  have T' := T.mono e1
  exact ⟨fun Γ2 σ2 H2 z2 e2 l2 c2 => T'.nx _ _ H2 z2 e2 (by rw [List.length_set]; exact l2) c2.unset, fun d2 v H2 z2 => T'.rt d2 v H2 z2, fun Γ2 σ2 H2 z2 e2 l2 c2 => T'.bk _ _ H2 z2 e2 (by rw [List.length_set]; exact l2) c2.unset,
    fun Γ2 σ2 H2 z2 e2 l2 c2 => T'.ct _ _ H2 z2 e2 (by rw [List.length_set]; exact l2) c2.unset, fun c2 fs2 Γ2 d2 σ2 H2 z2 => z2.elim⟩
end
/-! ### a def that is called within a suite, with the exception -/
structure FnP (P : Program) (w : World) (K : PySem.W.Frag) (mg : Str → Option Value) (base : Heap) (k : Nat) (f : Addr) (fd : FuncData) (ps : List Str) (p : Addr × Obj) (sp : Sp) : Prop where
  len : ∀ vs H Q E, sp vs H Q E → vs.length = ps.length
  run : ∀ (A : Around) (outer : List Env) (s : Shared) (H : Hp) (args : Args) (us : List Value) (vs : List V) (Q : VK) (E : XK), L2H.RoomH k A → L2H.PinOk outer H s p → Env0 P w K mg base A outer s H → BindsTo s fd args (ps.zip us) → Vals vs us → sp vs H Q E →
    codeAny (model P w) A (.call (.ref f) args) (CR CX0 outer P w H s Q E) s
abbrev cxP (P : Program) (w : World) (K : PySem.W.Frag) (mg : Str → Option Value) (base : Heap) (N : List Str) (qual : Str) (scope : Scope) (f : Addr) (cd : Value) (A : Around) (outer : List Env) (s : Shared) (H : Hp) (E : XK) (p : Addr × Obj) : Cx := L2H.cxH CX0 P w K mg base N qual scope f cd A outer s H E p
theorem fn_P {P : Program} {w : World} {K : PySem.W.Frag} {mg : Str → Option Value} {base : Heap} {x qual : Str} {st : Stmt} {f : Addr} {fd : FuncData} {N ps : List Str} {k : Nat} {R : List D → D → Prop} {p : Addr × Obj} (F : Fun K x qual st f fd) (S : FnScope N ps (defScope st)) (hN : ps.length ≤ N.length)
    (h : ∀ (cdv : Value) (A : Around) (outer : List Env) (s : Shared) (H : Hp) (E : XK) (ds : List D) (d : D), L2H.RoomH k (A.deeper (PyProof.Rows.envOfC qual (defScope st) s.heap.objs.size f cdv)) → ds.length = ps.length → R ds d →
      SsD (cxP P w K mg base N qual (defScope st) f cdv A outer s H E p) (defBody st) (ds.map some ++ List.replicate (N.length - ds.length) none) (fun o => o = .rt d)) :
    FnP P w K mg base (k + 1) f fd ps p (spD K ps.length R) := by
  refine ⟨fun vs H Q E h => spD_len h, fun A outer s H args us vs Q E hr hpin e0 hb r hsp => ?_⟩
  obtain ⟨oc, od, kV, doc, pm, an, cdv, ct, osl, rfl, lk, hcd⟩ := F.ex
  have hl : vs.length = ps.length := spD_len hsp
  have KX : K.In s.heap := e0.mod.kin.keeps fun b o e => (e0.bs b o e).1
  have lim : s.heap.NoLimit := e0.mod.nolimit.keeps fun b o e => (e0.bs b o e).1
  have par : ∀ y ∈ ps.zip us, (defScope st).names.lookup y.1 = some .local ∨ ((defScope st).names.lookup y.1 = some .cell ∧ ((cellsFrom (s.heap.objs.size + 1) (defScope st).names []).lookup y.1).isSome = true) := fun ⟨n, v⟩ hy =>
    (S.par n (List.of_mem_zip hy).1).elim .inl fun q => .inr ⟨q, PySem.W.cellsFrom_some _ _ _ (.inl q)⟩
  refine codeAny_call_function hr.depth (KX _ _ lk) rfl S.co S.gen rfl (PySem.W.codeRec_of KX hcd) (hb _ _ _ _ ?_)
  refine wpAny_newFunctionEnv_cells S.kind par fun env he s1 x => ?_
  subst he
  refine ⟨lim.keeps x.toInCall.keep, codeAny_func ?_⟩
  obtain ⟨ds, d, h1, h2, h3, h4⟩ := hsp
  have I := L2H.inv_startH (CX := CX0) (E := E) S hpin e0 hl r x
  have hlen : (L2.start N vs).length = N.length := by
    unfold L2.start
    rw [List.length_append, List.length_map, List.length_replicate, ← h2.len, h1]
    omega
  have B := (h cdv A outer s H E ds d (hr.deeper _) h1 h3).all (σ := L2.start N vs) (H := H) (E := { nx := fun _ _ => False, rt := Q }) hlen (start_ctx h2)
    ⟨fun Γ σ H' z => (by cases z), fun d' v H' z e1 hv => h4 v H' e1 (by cases z; exact hv), fun Γ σ H' z => (by cases z), fun Γ σ H' z => (by cases z), fun c fs Γ d σ H' z => (by cases z)⟩
  refine wpAny_mono (B [] s1 I) (fun fl s' hs => ?_) fun e s' hs => hs
  cases fl with
  | ret u =>
    obtain ⟨v, σ', H', J, rv, q⟩ := hs
    exact ⟨v, H', J.os, J.bare, J.base, J.hok, rv, q⟩
  | next =>
    obtain ⟨_, _, _, q⟩ := hs
    exact q.elim
  | brk =>
    obtain ⟨_, _, _, q⟩ := hs
    exact q.elim
  | cont =>
    obtain ⟨_, _, _, q⟩ := hs
    exact q.elim
section
variable {X : Cx} {Γ : Gm} {d d1 d2 : D} {e a b c : Expr} {es : List Expr} {pos : Pos} {ds : List D}
theorem ed_callP {R : List D → D → Prop} {k n : Nat} {f : Addr} {fd : FuncData} {ps : List Str} {x : Str} {p : Addr × Obj} {p1 : Pos} (F : FnP X.prog X.w X.K X.mg X.base k f fd ps p (spD X.K n R)) (hp : p ∈ X.pn) (hr : L2H.RoomH k X.A) (hm : X.mg x = some (.ref f)) (hk : PySem.W.keepIn X.K (.ref f) = true)
    (hb : Binds X.K fd ps []) (ha : AD X (e :: es) Γ ds) (hR : R ds d) (hn : ds.length = n := by rfl) (hg : Gl X x := by rfl) (hdb : (x == ("__debug__" : Str)) = false := by decide)
    (he : starEach (e :: es) X.env = (false, eval e X.env) :: starEach es X.env := by rfl) (hpl : (backTo pos (starEach es X.env)).any (·.1) = false := by rfl) : ED X (.Call (.Name x p1) (e :: es) [] pos) Γ d := by
  obtain ⟨t, pp, q⟩ := ha
  refine ⟨fun σ H Q => t σ H fun vs H1 => spD X.K n R vs H1 Q (fun _ _ _ => False), ⟨fun pins s σ H Q I h => wpAny_Call_Name_kw (ld_glob I hg hm ?_ hdb)⟩, fun σ H Cc Q r => q σ H Cc _ fun vs H1 e1 h1 => ⟨ds, d, hn, h1, hR, fun v H2 e2 h2 => r v H2 (e1.trans e2) h2⟩⟩
  refine PySem.W.callWith_K (h₀ := X.base) I.ok.mod.kin hk (thn (pp.run pos pins s σ H _ I h) fun us s1 got => ?_) he hpl
  obtain ⟨vs, H1, I1, r, q1⟩ := got
  refine ⟨I1.kIn, ?_⟩
  have at_ := I1.pin p (List.mem_append_left _ hp)
  have free : p.1 ∉ frs X.stack := fun hm => by
    rcases List.mem_cons.mp (I1.stkSub p.1 hm) with z | z
    · exact at_.2.2.1 z
    · exact at_.2.2.2.1 z
  have bound := hb s1 us I1.kIn (by rw [List.append_nil, ← r.length]; exact F.len _ _ _ _ q1)
  rw [List.append_nil] at bound
  refine wpAny_call (codeAny_mono (F.run X.A X.stack s1 H1 ⟨us, []⟩ us vs Q _ hr ⟨at_.1, at_.2.1, free, at_.2.2.2.2⟩ I1.env0 bound r q1) fun res s' out => ?_)
  rcases res with err | fl
  · exact out.elim
  · cases fl with
    | ret u => exact I1.after out
    | next => exact out.elim
    | brk => exact out.elim
    | cont => exact out.elim
/-! ### texts -/
def rStrMul : R2 := fun x y H Q => ∃ z n, x = .str z ∧ y = .int n ∧ 1 ≤ n ∧ n ≤ 1000 ∧ z.length = 1 ∧ PyData.strOk z = true ∧ ∀ r : Str, r.length ≤ 1000 → PyData.strOk r = true → Q (.str r) H
theorem op_strMul : OpR X (binaryOp .Mult) rStrMul := by
  intro pins s σ H x y v u Q I rx ry h
  obtain ⟨z, n, rfl, rfl, h1, h2, hz, hok, q⟩ := h
  obtain ⟨t, rfl⟩ := rx
  obtain ⟨t', rfl⟩ := ry
  have big : (sizeLine : Nat) ≥ 1000 := by rw [sizeLine_eq]; omega
  refine PySem.P.mul_str (by rw [decide_eq_false (by omega), decide_eq_false (by omega)]; rfl) (fun _ _ => ?_) (fun _ _ => ?_) ?_
  · rw [hz]
    have : (2 ^ 63 - 1 : Int) / n ≥ 1 := (Int.le_ediv_iff_mul_le (by omega)).mpr (by omega)
    omega
  · rw [hz, Nat.one_mul]
    exact notLongL (by omega)
  · rw [if_neg (by omega)]
    by_cases h : (n == 1 || z.length == 0) = true
    · rw [if_pos h]
      exact ⟨.str z, H, I, ⟨_, rfl⟩, q z (by omega) hok⟩
    · rw [if_neg h]
      have hlen : ∀ (m : Nat) (acc : Array Nat), (List.foldl (· ++ ·) acc (List.replicate m z.cps)).size = acc.size + m * z.cps.size := by
        intro m
        induction m with
        | zero => intro acc; simp
        | succ m ih =>
          intro acc
          rw [List.replicate_succ, List.foldl_cons, ih, Array.size_append]
          rw [Nat.succ_mul]
          omega
      have hl : (⟨(List.replicate n.toNat z.cps).foldl (· ++ ·) #[]⟩ : Str).length ≤ 1000 := by
        show Array.size _ ≤ 1000
        rw [hlen]
        have : z.cps.size = 1 := hz
        rw [this]
        simp
        omega
      have hall : ∀ (m : Nat) (acc : Array Nat), acc.all (· < 0x110000) = true → (List.foldl (· ++ ·) acc (List.replicate m z.cps)).all (· < 0x110000) = true := by
        intro m
        induction m with
        | zero => intro acc h; simpa using h
        | succ m ih =>
          intro acc h
          rw [List.replicate_succ, List.foldl_cons]
          refine ih _ ?_
          rw [Array.all_append, h]
          exact hok
      exact ⟨Nat.le_trans hl big, ⟨.str _, H, I.tok _, ⟨_, rfl⟩, q _ hl (hall _ _ (by simp))⟩⟩
theorem ed_ixS {z : Str} {i : Int} {c : Nat} (ha : ED X a Γ (.v (.str z))) (hb : ED X b Γ (iD i)) (h : atI z.cps.toList i = some c) (hz : z.length ≤ 1000) (hs : PlainIx b := by exact fun _ _ => rfl) : ED X (.Subscript a b pos) Γ (.v (.str ⟨#[c]⟩)) := by
  obtain ⟨ta, pa, qa⟩ := ha
  obtain ⟨tb, pb, qb⟩ := hb
  refine ⟨_, pe_ix ix_str pa pb hs, fun σ H C Q q => qa σ H C _ fun x H1 e1 h1 => qb σ H1 (C.mono e1) _ fun y H2 e2 h2 => ?_⟩
  rw [den_v.mp h1, den_v.mp h2]
  exact ⟨z, i, c, rfl, rfl, Nat.le_trans hz (by rw [sizeLine_eq]; omega), h, q _ H2 (e1.trans e2) (den_v.mpr rfl)⟩
/-- a text of at most n signs, whatever it is -/
theorem ed_strMul {z : Str} {n : Int} {Φ : Out → Prop} (i : Nat) {x : Str} {pos' p2 : Pos} {sts : List Stmt} (ha : ED X a Γ (.v (.str z))) (hb : ED X b Γ (iD n)) (h1 : 1 ≤ n) (h2 : n ≤ 1000) (hz : z.length = 1) (hok : PyData.strOk z = true) (hd : X.N.Nodup)
    (k : ∀ r : Str, r.length ≤ 1000 → PyData.strOk r = true → SsD X sts (Γ.set i (some (.v (.str r)))) Φ) (hN : X.N[i]? = some x := by rfl) (hx : Loc X.env.scope x := by first | exact Or.inl rfl | exact Or.inr rfl)
    (hs : swapsWith (.BinOp a .Mult b pos) (some (.Name x pos')) p2.line X.env = pure false := by rfl) (hf : X.fn x = true ∨ X.env.scope.names.lookup x = some .local := by first | exact .inl rfl | exact .inr rfl) : SsD X (.Assign [.Name x pos'] (.BinOp a .Mult b pos) p2 :: sts) Γ Φ := by
  obtain ⟨ta, pa, qa⟩ := ha
  obtain ⟨tb, pb, qb⟩ := hb
  refine ⟨_, pss_cons (ps_set (i := i) hd hN hx (pe_op op_strMul pa pb) hs hf) (pss_all (st' := sts)), fun σ H hl C E T => ?_⟩
  refine qa σ H C _ fun v H1 e1 g1 => qb σ H1 (C.mono e1) _ fun y H2 e2 g2 => ?_
  rw [den_v.mp g1, den_v.mp g2]
  refine ⟨z, n, rfl, rfl, h1, h2, hz, hok, fun r hr ho => ?_⟩
  have hi : i < σ.length := by
    rw [hl]
    exact (List.getElem?_eq_some_iff.mp hN).1
  exact (k r hr ho).all (by rw [List.length_set]; exact hl) ((C.mono (e1.trans e2)).set hi (den_v.mpr rfl)) (T.mono (e1.trans e2))
theorem ed_addS {z w : Str} (ha : ED X a Γ (.v (.str z))) (hb : ED X b Γ (.v (.str w))) (h : z.length + w.length ≤ 5000) : ED X (.BinOp a .Add b pos) Γ (.v (.str (z ++ w))) :=
  ed_op op_add_str ha hb fun x y H h1 h2 Q q => ⟨z, w, den_v.mp h1, den_v.mp h2, Nat.le_trans h (by rw [sizeLine_eq]; omega), q _ H (Ex.refl H) (den_v.mpr rfl)⟩
/-- int(b) -/
theorem ed_toIntB {k : Bool} {p : Pos} (hm : X.mg "int" = none) (ha : ED X a Γ (bD k)) (hg : Gl X "int" := by rfl) (he : starEach (a :: []) X.env = (false, eval a X.env) :: starEach [] X.env := by rfl) (hpl : (backTo pos (starEach [] X.env)).any (·.1) = false := by rfl) :
    ED X (.Call (.Name "int" p) [a] [] pos) Γ (iD (if k then 1 else 0)) := by
  refine ed_callTy (d := iD (if k then 1 else 0)) call_int1 hm (by decide +kernel) (ad_cons ha ad_nil he) (fun xs H h Q q => ?_) hg (by decide) (by decide) he hpl
  obtain ⟨x, rfl, h1⟩ := denL_one h
  rw [den_v.mp h1]
  exact .inr ⟨k, rfl, q _ H (Ex.refl H) (den_v.mpr rfl)⟩
end
/-! ### lists of texts compared -/
abbrev sD (x : Str) : D := .v (.str x)
theorem py_strs {K : PySem.W.Frag} {H : Hp} : ∀ {ns : List Str} {ys : List V}, DenL K H (ns.map sD) ys → DpAll K H ys (ns.map PyData.str)
  | [], ys, h => by
    simp only [List.map_nil, DenL] at h
    subst h
    exact .nil
  | n :: ns, ys, h => by
    simp only [List.map_cons, DenL] at h
    obtain ⟨z, zs, rfl, h1, h2⟩ := h
    rw [den_v.mp h1]
    exact .cons (.str n) (py_strs h2)
theorem pys_lay : ∀ ns : List Str, (∀ n ∈ ns, PyData.strOk n = true) → PyData.canLayAll0 (ns.map PyData.str) = true
  | [], _ => by simp [PyData.canLayAll0]
  | n :: ns, h => by
    rw [List.map_cons]
    simp only [PyData.canLayAll0, PyData.canLay0, pys_lay ns fun m hm => h m (List.mem_cons_of_mem _ hm), h n (List.mem_cons_self ..), Bool.and_self]
theorem pys_dep : ∀ ns : List Str, PyData.depthAll (ns.map PyData.str) = 0
  | [] => by simp [PyData.depthAll]
  | n :: ns => by
    rw [List.map_cons]
    simp [PyData.depthAll, PyData.depth, pys_dep ns]
theorem pys_shaped (ns : List Str) (h : ∀ n ∈ ns, PyData.strOk n = true) : SeqAt.shaped (.list (ns.map PyData.str)) = true := by
  unfold SeqAt.shaped
  simp [PyData.canLay0, PyData.depth, pys_lay ns h, pys_dep]
theorem pys_eqv : ∀ ns : List Str, PyData.eqvAll (ns.map PyData.str) (ns.map PyData.str) = true
  | [] => by simp [PyData.eqvAll]
  | n :: ns => by
    simp only [List.map_cons, PyData.eqvAll, PyData.eqv, pys_eqv ns]
    simp
theorem dp_strs {K : PySem.W.Frag} {H : Hp} {ns : List Str} {y : V} (h : Den K H (.lst (ns.map sD)) y) : Dp K H y (.list (ns.map PyData.str)) := by
  simp only [Den] at h
  obtain ⟨a, ys, rfl, h1, h2⟩ := h
  exact .lst h1 (py_strs h2)
theorem rd_eqS {K : PySem.W.Frag} {ns : List Str} (hs : ∀ n ∈ ns, PyData.strOk n = true) : RD K (rEqD K) (.lst (ns.map sD)) (.lst (ns.map sD)) (bD true) := fun x y H h1 h2 Q q =>
  ⟨_, _, dp_strs h1, dp_strs h2, pys_shaped ns hs, pys_shaped ns hs, by
    have e : PyData.eqv (.list (ns.map PyData.str)) (.list (ns.map PyData.str)) = true := by
      simp only [PyData.eqv]
      exact pys_eqv ns
    rw [e]
    exact q _ H (Ex.refl H) (den_v.mpr rfl)⟩
theorem rd_neS {K : PySem.W.Frag} {ns : List Str} (hs : ∀ n ∈ ns, PyData.strOk n = true) : RD K (rNeD K) (.lst (ns.map sD)) (.lst (ns.map sD)) (bD false) := fun x y H h1 h2 Q q =>
  ⟨_, _, dp_strs h1, dp_strs h2, pys_shaped ns hs, pys_shaped ns hs, by
    have e : PyData.eqv (.list (ns.map PyData.str)) (.list (ns.map PyData.str)) = true := by
      simp only [PyData.eqv]
      exact pys_eqv ns
    rw [e]
    exact q _ H (Ex.refl H) (den_v.mpr rfl)⟩
end Trk

set_option exponentiation.threshold 10000
namespace Law
open PySem L2 Evl Trk
def top (i : Nat) : Stmt := PySem.Challenge.pw_tracerline_k05_errors.main.body.getD i (.Pass ⟨0, 0, 0, 0⟩)
abbrev s_iNoWeb : Stmt := inClass (top 22) 0
abbrev s_iMisfit : Stmt := inClass (top 21) 0
abbrev s_iOutOfRange : Stmt := inClass (top 20) 0
abbrev s_iBarred : Stmt := inClass (top 19) 0
abbrev s_iFullReader : Stmt := inClass (top 18) 0
abbrev s_iUnknownName : Stmt := inClass (top 17) 0
abbrev s_iTakenName : Stmt := inClass (top 16) 0
abbrev s_iBadName : Stmt := inClass (top 15) 0
abbrev s_iBadText : Stmt := inClass (top 14) 0
abbrev s_iBadForm : Stmt := inClass (top 13) 0
abbrev s_iBadLine : Stmt := inClass (top 12) 0
abbrev s_iBadWeb : Stmt := inClass (top 11) 0
abbrev s_iBadRoom : Stmt := inClass (top 10) 0
abbrev s_iBadTick : Stmt := inClass (top 9) 0
abbrev s_iBadShare : Stmt := inClass (top 8) 0
abbrev s_init : Stmt := inClass (top 24) 0
abbrev s_eq : Stmt := inClass (top 24) 11
abbrev s_ne : Stmt := inClass (top 24) 12
abbrev s_asf : Stmt := top 25
abbrev s_isn : Stmt := top 26
abbrev s_ord : Stmt := top 27
abbrev s_cell : Stmt := top 29
abbrev s_cls : Stmt := top 30
abbrev s_plain : Stmt := top 31
abbrev s_without : Stmt := top 32
abbrev s_numbers : Stmt := top 33
abbrev s_strings : Stmt := top 34
abbrev s_pairs : Stmt := top 35
abbrev s_raised : Stmt := top 36
abbrev s_law : Stmt := top 37
section
variable {P : Program} {w : World} {K : PySem.W.Frag} {mg : Str → Option Value} {base : Heap} {C : Addr}
theorem sc_init : FnScope ["self", "top", "bottom", "common"] ["self", "top", "bottom"] (defScope s_init) := ⟨rfl, rfl, rfl, by decide +kernel, rfl, by decide +kernel, by decide +kernel⟩
theorem ok_init {f : Addr} {fd : FuncData} {dvs : List V} (F : FunD K "__init__" "Fraction.__init__" (defArgs s_init) (defBody s_init) (defScope s_init) dvs [] f fd) (T : FrTxt K mg C) : FnOk P w K mg base CX0 1 f fd ["self", "top", "bottom"] (spInit C) := by
  refine F.ok sc_init (fun vs H Q E h => ?_) (fun cdv A outer s H vs Q E hr h => ?_)
  · obtain ⟨p, dx, a, b, rfl, _⟩ := h
    rfl
  · obtain ⟨p, dx, a, b, rfl, h0, hz, hp, k⟩ := h
    have hcz : CDivZ a (cmn a b) := cdivZ_of (cmn_ne h0) (Nat.lt_of_le_of_lt (cmn_le h0) hz)
    have hcz2 : CDivZ b (cmn a b) := hcz
    refine ⟨_, PSs.nox (pss_cons (ps_if (pt_cmpR op_eq (pv 2) pe_int (nomark _)) pss_nv pss_nil)
      (pss_cons (ps_set (i := 3) sc_init.nd rfl (Or.inl rfl) (pe_callBfun cr_gcd (by rfl) T.gcd (pa_cons (pv 1) (pa_cons (pv 2) pa_nil))))
      (pss_cons (ps_if (pt_cmpR op_lt (pv 2) pe_int (nomark _)) (pss_one (ps_set (i := 3) sc_init.nd rfl (Or.inl rfl) (pe_un un_neg (pv 3)))) pss_nil)
      (pss_cons (ps_fld (pv 0) (pe_op op_fdivZ (pv 1) (pv 3)) rfl)
      (pss_one (ps_fld (pv 0) (pe_op op_fdivZ (pv 2) (pv 3)) rfl)))))), ?_⟩
    refine ⟨_, rfl, rfl, _, rfl, ?_⟩
    refine ite2 (fun z => absurd (of_decide_eq_true z) (fun q => h0 (V.int.inj q))) (fun _ => ?_)
    refine ⟨_, rfl, _, rfl, a, b, rfl, ?_⟩
    have fin : ∀ c : Int, c = cmn a b → ∀ σ' : L2.St, σ' = [some (.ref p), some (.int a), some (.int b), some (.int c)] → tSeq (sFld K (tVar 0) (tOp (rI CDivZ fun i j => .int (i.fdiv j)) (tVar 1) (tVar 3)) "top") (sFld K (tVar 0) (tOp (rI CDivZ fun i j => .int (i.fdiv j)) (tVar 2) (tVar 3)) "bottom") { nx := fun _ H' => Q .non H', rt := Q } σ' H := by
      rintro c rfl σ' rfl
      refine ⟨_, rfl, _, rfl, a, _, rfl, rfl, hcz, _, rfl, p, C, dx, [], rfl, hp, T.cl, T.nT, (by show 0 < 1000; decide), ?_⟩
      refine ⟨_, rfl, _, rfl, b, _, rfl, rfl, hcz2, _, rfl, p, C, dx, _, rfl, upd_same, T.cl, T.nB, (by show 1 < 1000; decide), ?_⟩
      rw [upd_upd]
      show Q .non (upd H p (.ins C dx (putF "bottom" (.int (b.fdiv (cmn a b))) (putF "top" (.int (a.fdiv (cmn a b))) []))))
      rw [top_eq h0, bottom_eq h0]
      exact k
    refine ⟨_, rfl, b, 0, rfl, rfl, _, rfl, ?_⟩
    refine ite2 (fun z => ?_) (fun z => ?_)
    · refine ⟨_, rfl, _, rfl, ?_⟩
      refine fin _ ?_ _ rfl
      unfold cmn
      rw [if_pos (of_decide_eq_true z)]
    · refine fin _ ?_ _ rfl
      unfold cmn
      rw [if_neg (of_decide_eq_false (by simpa using z))]

theorem ok_initX {f CB : Addr} {fd : FuncData} {dvs : List V} (F : FunD K "__init__" "Fraction.__init__" (defArgs s_init) (defBody s_init) (defScope s_init) dvs [] f fd) (T : FrTxt K mg C) (EB : ErT K mg "BadFraction" CB) : FnOk P w K mg base (L2.CX P w) 1 f fd ["self", "top", "bottom"] (spInitX C CB) := by
  refine F.ok sc_init (fun vs H Q E h => ?_) (fun cdv A outer s H vs Q E hr h => ?_)
  · obtain ⟨p, dx, a, b, rfl, _⟩ := h
    rfl
  · obtain ⟨p, dx, a, b, rfl, hp, k⟩ := h
    refine ⟨_, pss_cons (ps_if (pt_cmpR op_eq (pv 2) pe_int (nomark _)) (pss_one (ps_raise rfl (takes_of rfl rfl rfl rfl) (pmk_own0 EB rfl))) pss_nil)
      (pss_cons (ps_set (i := 3) sc_init.nd rfl (Or.inl rfl) (pe_callBfun cr_gcd (by rfl) T.gcd (pa_cons (pv 1) (pa_cons (pv 2) pa_nil))))
      (pss_cons (ps_if (pt_cmpR op_lt (pv 2) pe_int (nomark _)) (pss_one (ps_set (i := 3) sc_init.nd rfl (Or.inl rfl) (pe_un un_neg (pv 3)))) pss_nil)
      (pss_cons (ps_fld (pv 0) (pe_op op_fdivZ (pv 1) (pv 3)) rfl)
      (pss_one (ps_fld (pv 0) (pe_op op_fdivZ (pv 2) (pv 3)) rfl))))), ?_⟩
    refine ⟨_, rfl, rfl, _, rfl, ?_⟩
    rcases k with ⟨h0, hz, k⟩ | ⟨h0, k⟩
    case inr =>
      subst h0
      exact iteT k
    have hcz : CDivZ a (cmn a b) := cdivZ_of (cmn_ne h0) (Nat.lt_of_le_of_lt (cmn_le h0) hz)
    have hcz2 : CDivZ b (cmn a b) := hcz
    refine ite2 (fun z => absurd (of_decide_eq_true z) (fun q => h0 (V.int.inj q))) (fun _ => ?_)
    refine ⟨_, rfl, _, rfl, a, b, rfl, ?_⟩
    have fin : ∀ c : Int, c = cmn a b → ∀ σ' : L2.St, σ' = [some (.ref p), some (.int a), some (.int b), some (.int c)] → tSeq (sFld K (tVar 0) (tOp (rI CDivZ fun i j => .int (i.fdiv j)) (tVar 1) (tVar 3)) "top") (sFld K (tVar 0) (tOp (rI CDivZ fun i j => .int (i.fdiv j)) (tVar 2) (tVar 3)) "bottom") { nx := fun _ H' => Q .non H', rt := Q } σ' H := by
      rintro c rfl σ' rfl
      refine ⟨_, rfl, _, rfl, a, _, rfl, rfl, hcz, _, rfl, p, C, dx, [], rfl, hp, T.cl, T.nT, (by show 0 < 1000; decide), ?_⟩
      refine ⟨_, rfl, _, rfl, b, _, rfl, rfl, hcz2, _, rfl, p, C, dx, _, rfl, upd_same, T.cl, T.nB, (by show 1 < 1000; decide), ?_⟩
      rw [upd_upd]
      show Q .non (upd H p (.ins C dx (putF "bottom" (.int (b.fdiv (cmn a b))) (putF "top" (.int (a.fdiv (cmn a b))) []))))
      rw [top_eq h0, bottom_eq h0]
      exact k
    refine ⟨_, rfl, b, 0, rfl, rfl, _, rfl, ?_⟩
    refine ite2 (fun z => ?_) (fun z => ?_)
    · refine ⟨_, rfl, _, rfl, ?_⟩
      refine fin _ ?_ _ rfl
      unfold cmn
      rw [if_pos (of_decide_eq_true z)]
    · refine fin _ ?_ _ rfl
      unfold cmn
      rw [if_neg (of_decide_eq_false (by simpa using z))]

theorem sc_isn : FnScope ["thing"] ["thing"] (defScope s_isn) := ⟨rfl, rfl, rfl, by decide +kernel, rfl, by decide +kernel, by decide +kernel⟩
def R_isn (C : Addr) : List D → D → Prop := fun ds d => (∃ y q, ds = [y] ∧ NumV C y q) ∧ d = bD true
theorem kit_int : PySem.W.kitOne K (.type "int") (.type "int") = some true := kit_ty (by decide +kernel)
theorem isn_any (T : FrTxt K mg C) {y : D} {q : Rat} (h : NumV C y q) : ∃ t, TyD K mg y t ∧ PySem.W.kitAny K t [.ref C, .type "int"] = some true := by
  rcases h with rfl | ⟨n, rfl, rfl⟩
  · exact ⟨_, .fr T, kitAny_cons T.kCC (fun z => by cases z) fun _ => rfl⟩
  · exact ⟨_, .int n, kitAny_cons T.kIC (fun _ => kitAny_cons kit_int (fun z => by cases z) fun _ => rfl) fun z => by cases z⟩
theorem ok_isn {f : Addr} {fd : FuncData} (F : Fun K "_is_number" "_is_number" s_isn f fd) (T : FrTxt K mg C) : FnOk P w K mg base CX0 1 f fd ["thing"] (spD K 1 (R_isn C)) := by
  refine fn_D F sc_isn (by decide) fun cdv A outer s H E ds d hr hl hR => ?_
  obtain ⟨⟨y, q, rfl, hy⟩, rfl⟩ := hR
  obtain ⟨t, h1, h2⟩ := isn_any T hy
  exact z_ret (ed_isi2 T.isi (ed_var 0 rfl) (pe_glob (v := .ref C) rfl T.mgC rfl) (pe_bltn (v := .ty "int") rfl T.tInt (by decide +kernel) rfl) (.own C) (.ty "int") h1 h2) (.inl rfl)

theorem sc_asf : FnScope ["number"] ["number"] (defScope s_asf) := ⟨rfl, rfl, rfl, by decide +kernel, rfl, by decide +kernel, by decide +kernel⟩
def R_asf (C : Addr) : List D → D → Prop := fun ds d => ∃ y q, ds = [y] ∧ NumV C y q ∧ d = fr C q
theorem ok_asf {f fI : Addr} {fd fdI : FuncData} {du : List Value} (F : Fun K "as_fraction" "as_fraction" s_asf f fd) (T : FrTxt K mg C) (M : Mk K C fI) (FI : FnOk P w K mg base CX0 1 fI fdI ["self", "top", "bottom"] (spInit C)) (bI : Binds K fdI ["self", "top", "bottom"] du) (hd : Vals [V.int 1] du) :
    FnOk P w K mg base CX0 3 f fd ["number"] (spD K 1 (R_asf C)) := by
  refine fn_D F sc_asf (by decide) fun cdv A outer s H E ds d hr hl hR => ?_
  obtain ⟨y, q, rfl, hy, rfl⟩ := hR
  rcases hy with rfl | ⟨n, rfl, rfl⟩
  · refine z_ifR (b := true) (td_val (ed_isi T.isi (ed_var 0 rfl) (ed_glob (v := .ref C) T.mgC rfl) (.own C) (.fr T) T.kCC)) (fun _ => z_ret (ed_var 0 rfl) ⟨(fun _ z => by cases z), .inl rfl⟩) (fun z => by cases z)
  · refine z_ifF (td_val (ed_isi T.isi (ed_var 0 rfl) (ed_glob (v := .ref C) T.mgC rfl) (.own C) (.int n) T.kIC)) ?_
    exact z_ret (ed_mk1 M FI hr T.mgC bI hd pass0 (ed_var 0 rfl)) (.inl rfl)

theorem sc_ord : FnScope ["fraction", "number", "other"] ["fraction", "number"] (defScope s_ord) := ⟨rfl, rfl, rfl, by decide +kernel, rfl, by decide +kernel, by decide +kernel⟩
def R_ord (C : Addr) : List D → D → Prop := fun ds d => ∃ p y q, ds = [fr C p, y] ∧ NumV C y q ∧ Sz 4000 p ∧ Sz 4000 q ∧ d = iD (p.num * (q.den : Int) - q.num * (p.den : Int))
theorem wm {i j : Int} (hi : i.natAbs < 2 ^ 4000) (hj : j.natAbs < 2 ^ 4000) : CMulW i j := wide_mul hi hj (by decide) (by decide) (by decide)
theorem ok_ord {f fA : Addr} {fd fdA : FuncData} (F : Fun K "_order" "_order" s_ord f fd) (T : FrTxt K mg C) (FA : FnOk P w K mg base CX0 3 fA fdA ["number"] (spD K 1 (R_asf C))) (mA : mg "as_fraction" = some (.ref fA)) (kA : PySem.W.keepIn K (.ref fA) = true) (bA : Binds K fdA ["number"] []) :
    FnOk P w K mg base CX0 4 f fd ["fraction", "number"] (spD K 2 (R_ord C)) := by
  refine fn_D F sc_ord (by decide) fun cdv A outer s H E ds d hr hl hR => ?_
  obtain ⟨p, y, q, rfl, hy, hp, hq, rfl⟩ := hR
  refine z_asg 2 (d := fr C q) (ed_call FA hr mA kA bA pass0 (ad_cons (ed_var 1 rfl) ad_nil) ⟨y, q, rfl, hy, rfl⟩) sc_ord.nd ?_
  refine z_ret (ed_op op_sub (ed_op op_mulW (ed_fld (ed_var 0 rfl) T.cl T.nT rfl) (ed_fld (ed_var 2 rfl) T.cl T.nB rfl) (rd_I (wm hp.num hq.denI))) (ed_op op_mulW (ed_fld (ed_var 2 rfl) T.cl T.nT rfl) (ed_fld (ed_var 0 rfl) T.cl T.nB rfl) (rd_I (wm hq.num hp.denI))) rd_I0) (.inl rfl)

theorem o_lt {p q : Rat} : bD (decide (p.num * (q.den : Int) - q.num * (p.den : Int) < 0)) = bD (decide (p < q)) := by
  refine congrArg bD (decide_eq_decide.mpr ?_)
  rw [Rat.lt_iff]
  omega
theorem o_le {p q : Rat} : bD (decide (p.num * (q.den : Int) - q.num * (p.den : Int) ≤ 0)) = bD (decide (p ≤ q)) := by
  refine congrArg bD (decide_eq_decide.mpr ?_)
  rw [Rat.le_iff]
  omega
theorem o_gt {p q : Rat} : bD (decide (0 < p.num * (q.den : Int) - q.num * (p.den : Int))) = bD (decide (q < p)) := by
  refine congrArg bD (decide_eq_decide.mpr ?_)
  rw [Rat.lt_iff]
  omega
theorem o_ge {p q : Rat} : bD (decide (0 ≤ p.num * (q.den : Int) - q.num * (p.den : Int))) = bD (decide (q ≤ p)) := by
  refine congrArg bD (decide_eq_decide.mpr ?_)
  rw [Rat.le_iff]
  omega
theorem o_eq {p q : Rat} : bD (decide (V.int (p.num * (q.den : Int) - q.num * (p.den : Int)) = V.int 0)) = bD (decide (p = q)) := by
  refine congrArg bD (decide_eq_decide.mpr ⟨fun h => ?_, fun h => ?_⟩)
  · have h' := V.int.inj h
    exact Rat.le_antisymm ((Rat.le_iff p q).mpr (by omega)) ((Rat.le_iff q p).mpr (by omega))
  · subst h
    rw [Int.sub_self]

theorem sc_eq : FnScope ["self", "other"] ["self", "other"] (defScope s_eq) := ⟨rfl, rfl, rfl, by decide +kernel, rfl, by decide +kernel, by decide +kernel⟩
theorem ok_eq {f fA fO : Addr} {fd fdA fdO : FuncData} (F : Fun K "__eq__" "Fraction.__eq__" s_eq f fd) (T : FrTxt K mg C) (FN : FnOk P w K mg base CX0 1 fA fdA ["thing"] (spD K 1 (R_isn C))) (mA : mg "_is_number" = some (.ref fA)) (kA : PySem.W.keepIn K (.ref fA) = true) (bA : Binds K fdA ["thing"] [])
    (FO : FnOk P w K mg base CX0 4 fO fdO ["fraction", "number"] (spD K 2 (R_ord C))) (mO : mg "_order" = some (.ref fO)) (kO : PySem.W.keepIn K (.ref fO) = true) (bO : Binds K fdO ["fraction", "number"] []) :
    FnOk P w K mg base CX0 5 f fd ["self", "other"] (spD K 2 (R_cmp C fun p q => decide (p = q))) := by
  refine fn_D F sc_eq (by decide) fun cdv A outer s H E ds d hr hl hR => ?_
  obtain ⟨p, y, q, rfl, hy, hp, hq, rfl⟩ := hR
  refine z_ifF (td_not (k := true) (td_val (ed_call FN (hr.mono (by decide)) mA kA bA pass0 (ad_cons (ed_var 1 rfl) ad_nil) ⟨⟨y, q, rfl, hy⟩, rfl⟩))) ?_
  exact z_ret (ed_is (ed_cmp op_eq (ed_call FO hr mO kO bO pass0 (ad_cons (ed_var 0 rfl) (ad_cons (ed_var 1 rfl) ad_nil)) ⟨p, y, q, rfl, hy, hp, hq, rfl⟩) ed_int (rd_eq rfl)) o_eq) (.inl rfl)

theorem sc_ne : FnScope ["self", "other"] ["self", "other"] (defScope s_ne) := ⟨rfl, rfl, rfl, by decide +kernel, rfl, by decide +kernel, by decide +kernel⟩
theorem ok_ne {f fE : Addr} {fd fdE : FuncData} (F : Fun K "__ne__" "Fraction.__ne__" s_ne f fd) (T : FrTxt K mg C) (ME : CmpM K C "__eq__" fE) (FE : FnOk P w K mg base CX0 5 fE fdE ["self", "other"] (spD K 2 (R_cmp C fun p q => decide (p = q)))) (bE : Binds K fdE ["self", "other"] []) :
    FnOk P w K mg base CX0 6 f fd ["self", "other"] (spD K 2 (R_cmp C fun p q => !decide (p = q))) := by
  refine fn_D F sc_ne (by decide) fun cdv A outer s H E ds d hr hl hR => ?_
  obtain ⟨p, y, q, rfl, hy, hp, hq, rfl⟩ := hR
  rcases id hy with rfl | ⟨n, rfl, rfl⟩
  · exact z_ret (ed_not (ed_cmp (cmp_own (fun _ _ => rfl) ME FE hr bE pass0) (ed_var 0 rfl) (ed_var 1 rfl) (rd_own ⟨p, _, q, rfl, hy, hp, hq, rfl⟩))) (.inl rfl)
  · exact z_ret (ed_not (ed_cmp (cmp_ownI (fun _ _ => rfl) ME T.sub1 FE hr bE pass0) (ed_var 0 rfl) (ed_var 1 rfl) (rd_ownI ⟨p, _, _, rfl, hy, hp, hq, rfl⟩))) (.inl rfl)

theorem sc_cell : FnScope ["_law_script", "_law_k"] ["_law_script", "_law_k"] (defScope s_cell) := ⟨rfl, rfl, rfl, by decide +kernel, rfl, by decide +kernel, by decide +kernel⟩
theorem ok_cell {f : Addr} {fd : FuncData} (F : Fun K "_law_cell" "_law_cell" s_cell f fd) (mL : mg "len" = none) : FnOk P w K mg base CX0 1 f fd ["_law_script", "_law_k"] (spD K 2 R_cell) := by
  refine fn_D F sc_cell (by decide) fun cdv A outer s H E ds d hr hl hR => ?_
  obtain ⟨ns, k, rfl, rfl⟩ := hR
  refine z_ifR (b := decide ((k : Int) < ((ns.map iD).length : Int))) (td_cmp op_lt (ed_var 1 rfl) (ed_len mL (ed_var 0 rfl)) rd_I0) (fun hk => ?_) (fun hk => ?_)
  · have hk' : k < ns.length := by
      have := of_decide_eq_true hk
      rw [List.length_map] at this
      omega
    refine z_ret (ed_ix (d := iD (ns.getD k 0)) (ed_var 0 rfl) (ed_var 1 rfl) (at_nat ?_)) ⟨(fun _ z => by cases z), .inl rfl⟩
    rw [List.getElem?_map, List.getElem?_eq_getElem hk', List.getD_eq_getElem?_getD, List.getElem?_eq_getElem hk']
    rfl
  · have hk' : ¬ k < ns.length := by
      have := of_decide_eq_false hk
      rw [List.length_map] at this
      omega
    rw [show ns.getD k 0 = 0 by rw [List.getD_eq_getElem?_getD, List.getElem?_eq_none (by omega)]; rfl]
    exact z_ret ed_int (.inl rfl)

theorem sc_iBadShare : FnScope ["self", "share"] ["self", "share"] (defScope s_iBadShare) := ⟨rfl, rfl, rfl, by decide +kernel, rfl, by decide +kernel, by decide +kernel⟩
theorem ok_iBadShare {f : Addr} {fd : FuncData} (F : Fun K "__init__" "BadShare.__init__" s_iBadShare f fd) (T : OexC K C) (no : PySem.W.findIn K (.ref C) "share" = some none) : FnOk P w K mg base CX0 1 f fd ["self", "share"] (spE1 C "share") := by
  refine F.ok sc_iBadShare (fun vs H Q E ⟨a, v, h, _⟩ => by rw [h]; rfl) (fun cdv A outer s H vs Q E hr h => ?_)
  obtain ⟨a, v, rfl, ha, k⟩ := h
  refine ⟨_, PSs.nox (pss_one (ps_ost (pv 0) (pv 1))), ?_⟩
  exact ⟨_, rfl, _, rfl, a, C, rfl, T, no, .inl ⟨ha, k⟩⟩
theorem sc_iBadTick : FnScope ["self", "tick"] ["self", "tick"] (defScope s_iBadTick) := ⟨rfl, rfl, rfl, by decide +kernel, rfl, by decide +kernel, by decide +kernel⟩
theorem ok_iBadTick {f : Addr} {fd : FuncData} (F : Fun K "__init__" "BadTick.__init__" s_iBadTick f fd) (T : OexC K C) (no : PySem.W.findIn K (.ref C) "tick" = some none) : FnOk P w K mg base CX0 1 f fd ["self", "tick"] (spE1 C "tick") := by
  refine F.ok sc_iBadTick (fun vs H Q E ⟨a, v, h, _⟩ => by rw [h]; rfl) (fun cdv A outer s H vs Q E hr h => ?_)
  obtain ⟨a, v, rfl, ha, k⟩ := h
  refine ⟨_, PSs.nox (pss_one (ps_ost (pv 0) (pv 1))), ?_⟩
  exact ⟨_, rfl, _, rfl, a, C, rfl, T, no, .inl ⟨ha, k⟩⟩
theorem sc_iBadRoom : FnScope ["self", "room"] ["self", "room"] (defScope s_iBadRoom) := ⟨rfl, rfl, rfl, by decide +kernel, rfl, by decide +kernel, by decide +kernel⟩
theorem ok_iBadRoom {f : Addr} {fd : FuncData} (F : Fun K "__init__" "BadRoom.__init__" s_iBadRoom f fd) (T : OexC K C) (no : PySem.W.findIn K (.ref C) "room" = some none) : FnOk P w K mg base CX0 1 f fd ["self", "room"] (spE1 C "room") := by
  refine F.ok sc_iBadRoom (fun vs H Q E ⟨a, v, h, _⟩ => by rw [h]; rfl) (fun cdv A outer s H vs Q E hr h => ?_)
  obtain ⟨a, v, rfl, ha, k⟩ := h
  refine ⟨_, PSs.nox (pss_one (ps_ost (pv 0) (pv 1))), ?_⟩
  exact ⟨_, rfl, _, rfl, a, C, rfl, T, no, .inl ⟨ha, k⟩⟩
theorem sc_iBadWeb : FnScope ["self", "reason"] ["self", "reason"] (defScope s_iBadWeb) := ⟨rfl, rfl, rfl, by decide +kernel, rfl, by decide +kernel, by decide +kernel⟩
theorem ok_iBadWeb {f : Addr} {fd : FuncData} (F : Fun K "__init__" "BadWeb.__init__" s_iBadWeb f fd) (T : OexC K C) (no : PySem.W.findIn K (.ref C) "reason" = some none) : FnOk P w K mg base CX0 1 f fd ["self", "reason"] (spE1 C "reason") := by
  refine F.ok sc_iBadWeb (fun vs H Q E ⟨a, v, h, _⟩ => by rw [h]; rfl) (fun cdv A outer s H vs Q E hr h => ?_)
  obtain ⟨a, v, rfl, ha, k⟩ := h
  refine ⟨_, PSs.nox (pss_one (ps_ost (pv 0) (pv 1))), ?_⟩
  exact ⟨_, rfl, _, rfl, a, C, rfl, T, no, .inl ⟨ha, k⟩⟩
theorem sc_iBadLine : FnScope ["self", "place"] ["self", "place"] (defScope s_iBadLine) := ⟨rfl, rfl, rfl, by decide +kernel, rfl, by decide +kernel, by decide +kernel⟩
theorem ok_iBadLine {f : Addr} {fd : FuncData} (F : Fun K "__init__" "BadLine.__init__" s_iBadLine f fd) (T : OexC K C) (no : PySem.W.findIn K (.ref C) "place" = some none) : FnOk P w K mg base CX0 1 f fd ["self", "place"] (spE1 C "place") := by
  refine F.ok sc_iBadLine (fun vs H Q E ⟨a, v, h, _⟩ => by rw [h]; rfl) (fun cdv A outer s H vs Q E hr h => ?_)
  obtain ⟨a, v, rfl, ha, k⟩ := h
  refine ⟨_, PSs.nox (pss_one (ps_ost (pv 0) (pv 1))), ?_⟩
  exact ⟨_, rfl, _, rfl, a, C, rfl, T, no, .inl ⟨ha, k⟩⟩
theorem sc_iBadForm : FnScope ["self", "form"] ["self", "form"] (defScope s_iBadForm) := ⟨rfl, rfl, rfl, by decide +kernel, rfl, by decide +kernel, by decide +kernel⟩
theorem ok_iBadForm {f : Addr} {fd : FuncData} (F : Fun K "__init__" "BadForm.__init__" s_iBadForm f fd) (T : OexC K C) (no : PySem.W.findIn K (.ref C) "form" = some none) : FnOk P w K mg base CX0 1 f fd ["self", "form"] (spE1 C "form") := by
  refine F.ok sc_iBadForm (fun vs H Q E ⟨a, v, h, _⟩ => by rw [h]; rfl) (fun cdv A outer s H vs Q E hr h => ?_)
  obtain ⟨a, v, rfl, ha, k⟩ := h
  refine ⟨_, PSs.nox (pss_one (ps_ost (pv 0) (pv 1))), ?_⟩
  exact ⟨_, rfl, _, rfl, a, C, rfl, T, no, .inl ⟨ha, k⟩⟩
theorem sc_iBadText : FnScope ["self", "line", "column"] ["self", "line", "column"] (defScope s_iBadText) := ⟨rfl, rfl, rfl, by decide +kernel, rfl, by decide +kernel, by decide +kernel⟩
theorem ok_iBadText {f : Addr} {fd : FuncData} (F : Fun K "__init__" "BadText.__init__" s_iBadText f fd) (T : OexC K C) (no : PySem.W.findIn K (.ref C) "line" = some none) (no2 : PySem.W.findIn K (.ref C) "column" = some none) : FnOk P w K mg base CX0 1 f fd ["self", "line", "column"] (spE2 C "line" "column") := by
  refine F.ok sc_iBadText (fun vs H Q E ⟨a, v, u, h, _⟩ => by rw [h]; rfl) (fun cdv A outer s H vs Q E hr h => ?_)
  obtain ⟨a, v, u, rfl, ha, k⟩ := h
  refine ⟨_, PSs.nox (pss_cons (ps_ost (pv 0) (pv 1)) (pss_one (ps_ost (pv 0) (pv 2)))), ?_⟩
  exact ⟨_, rfl, _, rfl, a, C, rfl, T, no, .inl ⟨ha, fun dx n ne => ⟨_, rfl, _, rfl, a, C, rfl, T, no2, .inr ⟨dx, _, upd_same, by rw [upd_ne ne, upd_same], (by show 1 ≤ 900; decide), k dx n ne⟩⟩⟩⟩
theorem sc_iBadName : FnScope ["self", "name"] ["self", "name"] (defScope s_iBadName) := ⟨rfl, rfl, rfl, by decide +kernel, rfl, by decide +kernel, by decide +kernel⟩
theorem ok_iBadName {f : Addr} {fd : FuncData} (F : Fun K "__init__" "BadName.__init__" s_iBadName f fd) (T : OexC K C) (no : PySem.W.findIn K (.ref C) "name" = some none) : FnOk P w K mg base CX0 1 f fd ["self", "name"] (spE1 C "name") := by
  refine F.ok sc_iBadName (fun vs H Q E ⟨a, v, h, _⟩ => by rw [h]; rfl) (fun cdv A outer s H vs Q E hr h => ?_)
  obtain ⟨a, v, rfl, ha, k⟩ := h
  refine ⟨_, PSs.nox (pss_one (ps_ost (pv 0) (pv 1))), ?_⟩
  exact ⟨_, rfl, _, rfl, a, C, rfl, T, no, .inl ⟨ha, k⟩⟩
theorem sc_iTakenName : FnScope ["self", "name"] ["self", "name"] (defScope s_iTakenName) := ⟨rfl, rfl, rfl, by decide +kernel, rfl, by decide +kernel, by decide +kernel⟩
theorem ok_iTakenName {f : Addr} {fd : FuncData} (F : Fun K "__init__" "TakenName.__init__" s_iTakenName f fd) (T : OexC K C) (no : PySem.W.findIn K (.ref C) "name" = some none) : FnOk P w K mg base CX0 1 f fd ["self", "name"] (spE1 C "name") := by
  refine F.ok sc_iTakenName (fun vs H Q E ⟨a, v, h, _⟩ => by rw [h]; rfl) (fun cdv A outer s H vs Q E hr h => ?_)
  obtain ⟨a, v, rfl, ha, k⟩ := h
  refine ⟨_, PSs.nox (pss_one (ps_ost (pv 0) (pv 1))), ?_⟩
  exact ⟨_, rfl, _, rfl, a, C, rfl, T, no, .inl ⟨ha, k⟩⟩
theorem sc_iUnknownName : FnScope ["self", "name"] ["self", "name"] (defScope s_iUnknownName) := ⟨rfl, rfl, rfl, by decide +kernel, rfl, by decide +kernel, by decide +kernel⟩
theorem ok_iUnknownName {f : Addr} {fd : FuncData} (F : Fun K "__init__" "UnknownName.__init__" s_iUnknownName f fd) (T : OexC K C) (no : PySem.W.findIn K (.ref C) "name" = some none) : FnOk P w K mg base CX0 1 f fd ["self", "name"] (spE1 C "name") := by
  refine F.ok sc_iUnknownName (fun vs H Q E ⟨a, v, h, _⟩ => by rw [h]; rfl) (fun cdv A outer s H vs Q E hr h => ?_)
  obtain ⟨a, v, rfl, ha, k⟩ := h
  refine ⟨_, PSs.nox (pss_one (ps_ost (pv 0) (pv 1))), ?_⟩
  exact ⟨_, rfl, _, rfl, a, C, rfl, T, no, .inl ⟨ha, k⟩⟩
theorem sc_iFullReader : FnScope ["self", "most"] ["self", "most"] (defScope s_iFullReader) := ⟨rfl, rfl, rfl, by decide +kernel, rfl, by decide +kernel, by decide +kernel⟩
theorem ok_iFullReader {f : Addr} {fd : FuncData} (F : Fun K "__init__" "FullReader.__init__" s_iFullReader f fd) (T : OexC K C) (no : PySem.W.findIn K (.ref C) "most" = some none) : FnOk P w K mg base CX0 1 f fd ["self", "most"] (spE1 C "most") := by
  refine F.ok sc_iFullReader (fun vs H Q E ⟨a, v, h, _⟩ => by rw [h]; rfl) (fun cdv A outer s H vs Q E hr h => ?_)
  obtain ⟨a, v, rfl, ha, k⟩ := h
  refine ⟨_, PSs.nox (pss_one (ps_ost (pv 0) (pv 1))), ?_⟩
  exact ⟨_, rfl, _, rfl, a, C, rfl, T, no, .inl ⟨ha, k⟩⟩
theorem sc_iBarred : FnScope ["self", "tick", "weights"] ["self", "tick", "weights"] (defScope s_iBarred) := ⟨rfl, rfl, rfl, by decide +kernel, rfl, by decide +kernel, by decide +kernel⟩
theorem ok_iBarred {f : Addr} {fd : FuncData} (F : Fun K "__init__" "Barred.__init__" s_iBarred f fd) (T : OexC K C) (no : PySem.W.findIn K (.ref C) "tick" = some none) (no2 : PySem.W.findIn K (.ref C) "weights" = some none) : FnOk P w K mg base CX0 1 f fd ["self", "tick", "weights"] (spE2 C "tick" "weights") := by
  refine F.ok sc_iBarred (fun vs H Q E ⟨a, v, u, h, _⟩ => by rw [h]; rfl) (fun cdv A outer s H vs Q E hr h => ?_)
  obtain ⟨a, v, u, rfl, ha, k⟩ := h
  refine ⟨_, PSs.nox (pss_cons (ps_ost (pv 0) (pv 1)) (pss_one (ps_ost (pv 0) (pv 2)))), ?_⟩
  exact ⟨_, rfl, _, rfl, a, C, rfl, T, no, .inl ⟨ha, fun dx n ne => ⟨_, rfl, _, rfl, a, C, rfl, T, no2, .inr ⟨dx, _, upd_same, by rw [upd_ne ne, upd_same], (by show 1 ≤ 900; decide), k dx n ne⟩⟩⟩⟩
theorem sc_iOutOfRange : FnScope ["self", "least", "greatest"] ["self", "least", "greatest"] (defScope s_iOutOfRange) := ⟨rfl, rfl, rfl, by decide +kernel, rfl, by decide +kernel, by decide +kernel⟩
theorem ok_iOutOfRange {f : Addr} {fd : FuncData} (F : Fun K "__init__" "OutOfRange.__init__" s_iOutOfRange f fd) (T : OexC K C) (no : PySem.W.findIn K (.ref C) "least" = some none) (no2 : PySem.W.findIn K (.ref C) "greatest" = some none) : FnOk P w K mg base CX0 1 f fd ["self", "least", "greatest"] (spE2 C "least" "greatest") := by
  refine F.ok sc_iOutOfRange (fun vs H Q E ⟨a, v, u, h, _⟩ => by rw [h]; rfl) (fun cdv A outer s H vs Q E hr h => ?_)
  obtain ⟨a, v, u, rfl, ha, k⟩ := h
  refine ⟨_, PSs.nox (pss_cons (ps_ost (pv 0) (pv 1)) (pss_one (ps_ost (pv 0) (pv 2)))), ?_⟩
  exact ⟨_, rfl, _, rfl, a, C, rfl, T, no, .inl ⟨ha, fun dx n ne => ⟨_, rfl, _, rfl, a, C, rfl, T, no2, .inr ⟨dx, _, upd_same, by rw [upd_ne ne, upd_same], (by show 1 ≤ 900; decide), k dx n ne⟩⟩⟩⟩
theorem sc_iMisfit : FnScope ["self", "tick"] ["self", "tick"] (defScope s_iMisfit) := ⟨rfl, rfl, rfl, by decide +kernel, rfl, by decide +kernel, by decide +kernel⟩
theorem ok_iMisfit {f : Addr} {fd : FuncData} (F : Fun K "__init__" "Misfit.__init__" s_iMisfit f fd) (T : OexC K C) (no : PySem.W.findIn K (.ref C) "tick" = some none) : FnOk P w K mg base CX0 1 f fd ["self", "tick"] (spE1 C "tick") := by
  refine F.ok sc_iMisfit (fun vs H Q E ⟨a, v, h, _⟩ => by rw [h]; rfl) (fun cdv A outer s H vs Q E hr h => ?_)
  obtain ⟨a, v, rfl, ha, k⟩ := h
  refine ⟨_, PSs.nox (pss_one (ps_ost (pv 0) (pv 1))), ?_⟩
  exact ⟨_, rfl, _, rfl, a, C, rfl, T, no, .inl ⟨ha, k⟩⟩
theorem sc_iNoWeb : FnScope ["self", "tick"] ["self", "tick"] (defScope s_iNoWeb) := ⟨rfl, rfl, rfl, by decide +kernel, rfl, by decide +kernel, by decide +kernel⟩
theorem ok_iNoWeb {f : Addr} {fd : FuncData} (F : Fun K "__init__" "NoWeb.__init__" s_iNoWeb f fd) (T : OexC K C) (no : PySem.W.findIn K (.ref C) "tick" = some none) : FnOk P w K mg base CX0 1 f fd ["self", "tick"] (spE1 C "tick") := by
  refine F.ok sc_iNoWeb (fun vs H Q E ⟨a, v, h, _⟩ => by rw [h]; rfl) (fun cdv A outer s H vs Q E hr h => ?_)
  obtain ⟨a, v, rfl, ha, k⟩ := h
  refine ⟨_, PSs.nox (pss_one (ps_ost (pv 0) (pv 1))), ?_⟩
  exact ⟨_, rfl, _, rfl, a, C, rfl, T, no, .inl ⟨ha, k⟩⟩
structure Errs (K : PySem.W.Frag) (mg : Str → Option Value) (TE eBadFraction eBadPolynomial eBadReadings eNothingLeft eBadShare eBadTick eBadRoom eBadWeb eBadLine eBadForm eBadText eBadName eTakenName eUnknownName eFullReader eBarred eOutOfRange eMisfit eNoWeb : Addr) : Prop where
  tBadFraction : EcT K mg "BadFraction" eBadFraction TE
  tBadPolynomial : EcT K mg "BadPolynomial" eBadPolynomial TE
  tBadReadings : EcT K mg "BadReadings" eBadReadings TE
  tNothingLeft : EcT K mg "NothingLeft" eNothingLeft TE
  tBadShare : EcT K mg "BadShare" eBadShare TE
  tBadTick : EcT K mg "BadTick" eBadTick TE
  tBadRoom : EcT K mg "BadRoom" eBadRoom TE
  tBadWeb : EcT K mg "BadWeb" eBadWeb TE
  tBadLine : EcT K mg "BadLine" eBadLine TE
  tBadForm : EcT K mg "BadForm" eBadForm TE
  tBadText : EcT K mg "BadText" eBadText TE
  tBadName : EcT K mg "BadName" eBadName TE
  tTakenName : EcT K mg "TakenName" eTakenName TE
  tUnknownName : EcT K mg "UnknownName" eUnknownName TE
  tFullReader : EcT K mg "FullReader" eFullReader TE
  tBarred : EcT K mg "Barred" eBarred TE
  tOutOfRange : EcT K mg "OutOfRange" eOutOfRange TE
  tMisfit : EcT K mg "Misfit" eMisfit TE
  tNoWeb : EcT K mg "NoWeb" eNoWeb TE
  nd : (TE :: [eBadFraction, eBadPolynomial, eBadReadings, eNothingLeft, eBadShare, eBadTick, eBadRoom, eBadWeb, eBadLine, eBadForm, eBadText, eBadName, eTakenName, eUnknownName, eFullReader, eBarred, eOutOfRange, eMisfit, eNoWeb]).Nodup
  mT : mg "TracerError" = some (.ref TE)
  icT : PySem.W.isClsIn K TE = true
  tyT : PySem.W.typeIn K (.ref TE) = some (.type "type")
  beT : PySem.W.subIn K (.ref TE) (.type "BaseException") = some true
  hdT : PySem.W.hasDictIn K TE = true
  mV : mg "ValueError" = none
  mI : mg "isinstance" = none
  tI : mg "int" = none
variable {TE eBadFraction eBadPolynomial eBadReadings eNothingLeft eBadShare eBadTick eBadRoom eBadWeb eBadLine eBadForm eBadText eBadName eTakenName eUnknownName eFullReader eBarred eOutOfRange eMisfit eNoWeb : Addr}
theorem Errs.ne (E : Errs K mg TE eBadFraction eBadPolynomial eBadReadings eNothingLeft eBadShare eBadTick eBadRoom eBadWeb eBadLine eBadForm eBadText eBadName eTakenName eUnknownName eFullReader eBarred eOutOfRange eMisfit eNoWeb) {c : Addr} (h : c ∈ [eBadFraction, eBadPolynomial, eBadReadings, eNothingLeft, eBadShare, eBadTick, eBadRoom, eBadWeb, eBadLine, eBadForm, eBadText, eBadName, eTakenName, eUnknownName, eFullReader, eBarred, eOutOfRange, eMisfit, eNoWeb]) : c ≠ TE := fun z => by
  subst z
  exact (List.nodup_cons.mp E.nd).1 h
theorem subT {x : Str} {c : Addr} (T : EcT K mg x c TE) : PySem.W.subIn K (.ref c) (.ref TE) = some true := by
  rw [T.sub, decide_eq_true (rfl : TE = TE), Bool.or_true]
theorem selfT {x : Str} {c : Addr} (T : EcT K mg x c TE) : PySem.W.subIn K (.ref c) (.ref c) = some true := by
  rw [T.sub, decide_eq_true (rfl : c = c), Bool.true_or]
theorem cnt {C : Addr} : ∀ (L : List Addr) (a : Int), L.Nodup → List.foldl (· + ·) a (L.map fun c => (if decide (C = c) = true then (1 : Int) else 0)) = a + (if C ∈ L then 1 else 0)
  | [], a, _ => by simp
  | c :: L, a, h => by
    obtain ⟨h1, h2⟩ := List.nodup_cons.mp h
    rw [List.map_cons, List.foldl_cons, cnt L _ h2]
    by_cases hc : C = c
    · subst hc
      rw [if_pos (decide_eq_true rfl), if_neg h1, if_pos (List.mem_cons_self ..)]
      omega
    · rw [if_neg (by simp [hc])]
      by_cases hL : C ∈ L
      · rw [if_pos hL, if_pos (List.mem_cons_of_mem _ hL)]
        omega
      · rw [if_neg hL, if_neg (by simp [hc, hL])]
        omega
def one (C c : Addr) : Int := if decide (C = c) = true then 1 else 0
theorem ones (E : Errs K mg TE eBadFraction eBadPolynomial eBadReadings eNothingLeft eBadShare eBadTick eBadRoom eBadWeb eBadLine eBadForm eBadText eBadName eTakenName eUnknownName eFullReader eBarred eOutOfRange eMisfit eNoWeb) {C : Addr} (h : C ∈ [eBadFraction, eBadPolynomial, eBadReadings, eNothingLeft, eBadShare, eBadTick, eBadRoom, eBadWeb, eBadLine, eBadForm, eBadText, eBadName, eTakenName, eUnknownName, eFullReader, eBarred, eOutOfRange, eMisfit, eNoWeb]) : ((((((((((((((((((one C eBadFraction) + one C eBadPolynomial) + one C eBadReadings) + one C eNothingLeft) + one C eBadShare) + one C eBadTick) + one C eBadRoom) + one C eBadWeb) + one C eBadLine) + one C eBadForm) + one C eBadText) + one C eBadName) + one C eTakenName) + one C eUnknownName) + one C eFullReader) + one C eBarred) + one C eOutOfRange) + one C eMisfit) + one C eNoWeb = 1 := by
  have q := cnt (C := C) [eBadFraction, eBadPolynomial, eBadReadings, eNothingLeft, eBadShare, eBadTick, eBadRoom, eBadWeb, eBadLine, eBadForm, eBadText, eBadName, eTakenName, eUnknownName, eFullReader, eBarred, eOutOfRange, eMisfit, eNoWeb] 0 (List.nodup_cons.mp E.nd).2
  rw [if_pos h] at q
  simp only [List.map, List.foldl, Int.zero_add] at q
  exact q
theorem sc_cls : FnScope ["_law_e", "_law_found"] ["_law_e"] (defScope s_cls) := ⟨rfl, rfl, rfl, by decide +kernel, rfl, by decide +kernel, by decide +kernel⟩
theorem sc_plain : FnScope ["_law_e"] ["_law_e"] (defScope s_plain) := ⟨rfl, rfl, rfl, by decide +kernel, rfl, by decide +kernel, by decide +kernel⟩
def R_cls (K : PySem.W.Frag) (mg : Str → Option Value) (TE : Addr) (L : List Addr) (v : D) : List D → D → Prop := fun ds d => ∃ C fs x, ds = [.exc C fs] ∧ C ∈ L ∧ EcT K mg x C TE ∧ d = v
def R_clsP (K : PySem.W.Frag) (mg : Str → Option Value) (TE : Addr) (L : List Addr) (p : Addr × Obj) (v : D) : List D → D → Prop := fun ds d => ∃ C dx fs vs x, ds = [.ced p.1 dx fs] ∧ C ∈ L ∧ EcT K mg x C TE ∧ Zc (.ref C) dx p.2 ∧ p.2.data = .fields vs ∧ d = v
theorem ok_cls {f : Addr} {fd : FuncData} (F : Fun K "_law_classes" "_law_classes" s_cls f fd) (E : Errs K mg TE eBadFraction eBadPolynomial eBadReadings eNothingLeft eBadShare eBadTick eBadRoom eBadWeb eBadLine eBadForm eBadText eBadName eTakenName eUnknownName eFullReader eBarred eOutOfRange eMisfit eNoWeb) : FnOk P w K mg base CX0 1 f fd ["_law_e"] (spD K 1 (R_cls K mg TE [eBadFraction, eBadPolynomial, eBadReadings, eNothingLeft, eBadShare, eBadTick, eBadRoom, eBadWeb, eBadLine, eBadForm, eBadText, eBadName, eTakenName, eUnknownName, eFullReader, eBarred, eOutOfRange, eMisfit, eNoWeb] (iD 1))) := by
  refine fn_D F sc_cls (by decide) fun cdv A outer s H E0 ds d hr hl hR => ?_
  obtain ⟨C, fs, x, rfl, hm, TC, rfl⟩ := hR
  have hS : ∀ {X : Cx}, SeenX X C (.exc C fs) fs := fun {X} => .inl rfl
  refine z_asg 1 (d := iD ((one C eBadFraction + one C eBadPolynomial) + one C eBadReadings)) (ed_op op_add (ed_op op_add (ed_toIntB E.tI (ed_isX TC E.mI (ed_var 0 rfl) hS (ed_glob (v := .ref eBadFraction) E.tBadFraction.mg rfl) (.own eBadFraction) (TC.kit E.tBadFraction (E.ne (by simp))))) (ed_toIntB E.tI (ed_isX TC E.mI (ed_var 0 rfl) hS (ed_glob (v := .ref eBadPolynomial) E.tBadPolynomial.mg rfl) (.own eBadPolynomial) (TC.kit E.tBadPolynomial (E.ne (by simp))))) rd_I0) (ed_toIntB E.tI (ed_isX TC E.mI (ed_var 0 rfl) hS (ed_glob (v := .ref eBadReadings) E.tBadReadings.mg rfl) (.own eBadReadings) (TC.kit E.tBadReadings (E.ne (by simp))))) rd_I0) sc_cls.nd ?_
  refine z_asg 1 (d := iD (((((one C eBadFraction + one C eBadPolynomial) + one C eBadReadings) + one C eNothingLeft) + one C eBadShare) + one C eBadTick)) (ed_op op_add (ed_op op_add (ed_op op_add (ed_var 1 rfl) (ed_toIntB E.tI (ed_isX TC E.mI (ed_var 0 rfl) hS (ed_glob (v := .ref eNothingLeft) E.tNothingLeft.mg rfl) (.own eNothingLeft) (TC.kit E.tNothingLeft (E.ne (by simp))))) rd_I0) (ed_toIntB E.tI (ed_isX TC E.mI (ed_var 0 rfl) hS (ed_glob (v := .ref eBadShare) E.tBadShare.mg rfl) (.own eBadShare) (TC.kit E.tBadShare (E.ne (by simp))))) rd_I0) (ed_toIntB E.tI (ed_isX TC E.mI (ed_var 0 rfl) hS (ed_glob (v := .ref eBadTick) E.tBadTick.mg rfl) (.own eBadTick) (TC.kit E.tBadTick (E.ne (by simp))))) rd_I0) sc_cls.nd ?_
  refine z_asg 1 (d := iD ((((((((one C eBadFraction + one C eBadPolynomial) + one C eBadReadings) + one C eNothingLeft) + one C eBadShare) + one C eBadTick) + one C eBadRoom) + one C eBadWeb) + one C eBadLine)) (ed_op op_add (ed_op op_add (ed_op op_add (ed_var 1 rfl) (ed_toIntB E.tI (ed_isX TC E.mI (ed_var 0 rfl) hS (ed_glob (v := .ref eBadRoom) E.tBadRoom.mg rfl) (.own eBadRoom) (TC.kit E.tBadRoom (E.ne (by simp))))) rd_I0) (ed_toIntB E.tI (ed_isX TC E.mI (ed_var 0 rfl) hS (ed_glob (v := .ref eBadWeb) E.tBadWeb.mg rfl) (.own eBadWeb) (TC.kit E.tBadWeb (E.ne (by simp))))) rd_I0) (ed_toIntB E.tI (ed_isX TC E.mI (ed_var 0 rfl) hS (ed_glob (v := .ref eBadLine) E.tBadLine.mg rfl) (.own eBadLine) (TC.kit E.tBadLine (E.ne (by simp))))) rd_I0) sc_cls.nd ?_
  refine z_asg 1 (d := iD (((((((((((one C eBadFraction + one C eBadPolynomial) + one C eBadReadings) + one C eNothingLeft) + one C eBadShare) + one C eBadTick) + one C eBadRoom) + one C eBadWeb) + one C eBadLine) + one C eBadForm) + one C eBadText) + one C eBadName)) (ed_op op_add (ed_op op_add (ed_op op_add (ed_var 1 rfl) (ed_toIntB E.tI (ed_isX TC E.mI (ed_var 0 rfl) hS (ed_glob (v := .ref eBadForm) E.tBadForm.mg rfl) (.own eBadForm) (TC.kit E.tBadForm (E.ne (by simp))))) rd_I0) (ed_toIntB E.tI (ed_isX TC E.mI (ed_var 0 rfl) hS (ed_glob (v := .ref eBadText) E.tBadText.mg rfl) (.own eBadText) (TC.kit E.tBadText (E.ne (by simp))))) rd_I0) (ed_toIntB E.tI (ed_isX TC E.mI (ed_var 0 rfl) hS (ed_glob (v := .ref eBadName) E.tBadName.mg rfl) (.own eBadName) (TC.kit E.tBadName (E.ne (by simp))))) rd_I0) sc_cls.nd ?_
  refine z_asg 1 (d := iD ((((((((((((((one C eBadFraction + one C eBadPolynomial) + one C eBadReadings) + one C eNothingLeft) + one C eBadShare) + one C eBadTick) + one C eBadRoom) + one C eBadWeb) + one C eBadLine) + one C eBadForm) + one C eBadText) + one C eBadName) + one C eTakenName) + one C eUnknownName) + one C eFullReader)) (ed_op op_add (ed_op op_add (ed_op op_add (ed_var 1 rfl) (ed_toIntB E.tI (ed_isX TC E.mI (ed_var 0 rfl) hS (ed_glob (v := .ref eTakenName) E.tTakenName.mg rfl) (.own eTakenName) (TC.kit E.tTakenName (E.ne (by simp))))) rd_I0) (ed_toIntB E.tI (ed_isX TC E.mI (ed_var 0 rfl) hS (ed_glob (v := .ref eUnknownName) E.tUnknownName.mg rfl) (.own eUnknownName) (TC.kit E.tUnknownName (E.ne (by simp))))) rd_I0) (ed_toIntB E.tI (ed_isX TC E.mI (ed_var 0 rfl) hS (ed_glob (v := .ref eFullReader) E.tFullReader.mg rfl) (.own eFullReader) (TC.kit E.tFullReader (E.ne (by simp))))) rd_I0) sc_cls.nd ?_
  refine z_asg 1 (d := iD (((((((((((((((((one C eBadFraction + one C eBadPolynomial) + one C eBadReadings) + one C eNothingLeft) + one C eBadShare) + one C eBadTick) + one C eBadRoom) + one C eBadWeb) + one C eBadLine) + one C eBadForm) + one C eBadText) + one C eBadName) + one C eTakenName) + one C eUnknownName) + one C eFullReader) + one C eBarred) + one C eOutOfRange) + one C eMisfit)) (ed_op op_add (ed_op op_add (ed_op op_add (ed_var 1 rfl) (ed_toIntB E.tI (ed_isX TC E.mI (ed_var 0 rfl) hS (ed_glob (v := .ref eBarred) E.tBarred.mg rfl) (.own eBarred) (TC.kit E.tBarred (E.ne (by simp))))) rd_I0) (ed_toIntB E.tI (ed_isX TC E.mI (ed_var 0 rfl) hS (ed_glob (v := .ref eOutOfRange) E.tOutOfRange.mg rfl) (.own eOutOfRange) (TC.kit E.tOutOfRange (E.ne (by simp))))) rd_I0) (ed_toIntB E.tI (ed_isX TC E.mI (ed_var 0 rfl) hS (ed_glob (v := .ref eMisfit) E.tMisfit.mg rfl) (.own eMisfit) (TC.kit E.tMisfit (E.ne (by simp))))) rd_I0) sc_cls.nd ?_
  refine z_ret (d := iD ((((((((((((((((((one C eBadFraction + one C eBadPolynomial) + one C eBadReadings) + one C eNothingLeft) + one C eBadShare) + one C eBadTick) + one C eBadRoom) + one C eBadWeb) + one C eBadLine) + one C eBadForm) + one C eBadText) + one C eBadName) + one C eTakenName) + one C eUnknownName) + one C eFullReader) + one C eBarred) + one C eOutOfRange) + one C eMisfit) + one C eNoWeb)) (ed_op op_add (ed_var 1 rfl) (ed_toIntB E.tI (ed_isX TC E.mI (ed_var 0 rfl) hS (ed_glob (v := .ref eNoWeb) E.tNoWeb.mg rfl) (.own eNoWeb) (TC.kit E.tNoWeb (E.ne (by simp))))) rd_I0) ?_
  refine .inl ?_
  rw [← ones E hm]
theorem ok_clsP {f : Addr} {fd : FuncData} {p : Addr × Obj} (F : Fun K "_law_classes" "_law_classes" s_cls f fd) (E : Errs K mg TE eBadFraction eBadPolynomial eBadReadings eNothingLeft eBadShare eBadTick eBadRoom eBadWeb eBadLine eBadForm eBadText eBadName eTakenName eUnknownName eFullReader eBarred eOutOfRange eMisfit eNoWeb) : FnP P w K mg base 1 f fd ["_law_e"] p (spD K 1 (R_clsP K mg TE [eBadFraction, eBadPolynomial, eBadReadings, eNothingLeft, eBadShare, eBadTick, eBadRoom, eBadWeb, eBadLine, eBadForm, eBadText, eBadName, eTakenName, eUnknownName, eFullReader, eBarred, eOutOfRange, eMisfit, eNoWeb] p (iD 1))) := by
  refine fn_P F sc_cls (by decide) fun cdv A outer s H E0 ds d hr hl hR => ?_
  obtain ⟨C, dx, fs, vs, x, rfl, hm, TC, hz, hv, rfl⟩ := hR
  have hS : SeenX (cxP P w K mg base ["_law_e", "_law_found"] "_law_classes" (defScope s_cls) f cdv A outer s H E0 p) C (.ced p.1 dx fs) fs := .inr ⟨p.1, p.2, dx, vs, rfl, List.mem_cons_self, hz, hv⟩
  refine z_asg 1 (d := iD ((one C eBadFraction + one C eBadPolynomial) + one C eBadReadings)) (ed_op op_add (ed_op op_add (ed_toIntB E.tI (ed_isX TC E.mI (ed_var 0 rfl) hS (ed_glob (v := .ref eBadFraction) E.tBadFraction.mg rfl) (.own eBadFraction) (TC.kit E.tBadFraction (E.ne (by simp))))) (ed_toIntB E.tI (ed_isX TC E.mI (ed_var 0 rfl) hS (ed_glob (v := .ref eBadPolynomial) E.tBadPolynomial.mg rfl) (.own eBadPolynomial) (TC.kit E.tBadPolynomial (E.ne (by simp))))) rd_I0) (ed_toIntB E.tI (ed_isX TC E.mI (ed_var 0 rfl) hS (ed_glob (v := .ref eBadReadings) E.tBadReadings.mg rfl) (.own eBadReadings) (TC.kit E.tBadReadings (E.ne (by simp))))) rd_I0) sc_cls.nd ?_
  refine z_asg 1 (d := iD (((((one C eBadFraction + one C eBadPolynomial) + one C eBadReadings) + one C eNothingLeft) + one C eBadShare) + one C eBadTick)) (ed_op op_add (ed_op op_add (ed_op op_add (ed_var 1 rfl) (ed_toIntB E.tI (ed_isX TC E.mI (ed_var 0 rfl) hS (ed_glob (v := .ref eNothingLeft) E.tNothingLeft.mg rfl) (.own eNothingLeft) (TC.kit E.tNothingLeft (E.ne (by simp))))) rd_I0) (ed_toIntB E.tI (ed_isX TC E.mI (ed_var 0 rfl) hS (ed_glob (v := .ref eBadShare) E.tBadShare.mg rfl) (.own eBadShare) (TC.kit E.tBadShare (E.ne (by simp))))) rd_I0) (ed_toIntB E.tI (ed_isX TC E.mI (ed_var 0 rfl) hS (ed_glob (v := .ref eBadTick) E.tBadTick.mg rfl) (.own eBadTick) (TC.kit E.tBadTick (E.ne (by simp))))) rd_I0) sc_cls.nd ?_
  refine z_asg 1 (d := iD ((((((((one C eBadFraction + one C eBadPolynomial) + one C eBadReadings) + one C eNothingLeft) + one C eBadShare) + one C eBadTick) + one C eBadRoom) + one C eBadWeb) + one C eBadLine)) (ed_op op_add (ed_op op_add (ed_op op_add (ed_var 1 rfl) (ed_toIntB E.tI (ed_isX TC E.mI (ed_var 0 rfl) hS (ed_glob (v := .ref eBadRoom) E.tBadRoom.mg rfl) (.own eBadRoom) (TC.kit E.tBadRoom (E.ne (by simp))))) rd_I0) (ed_toIntB E.tI (ed_isX TC E.mI (ed_var 0 rfl) hS (ed_glob (v := .ref eBadWeb) E.tBadWeb.mg rfl) (.own eBadWeb) (TC.kit E.tBadWeb (E.ne (by simp))))) rd_I0) (ed_toIntB E.tI (ed_isX TC E.mI (ed_var 0 rfl) hS (ed_glob (v := .ref eBadLine) E.tBadLine.mg rfl) (.own eBadLine) (TC.kit E.tBadLine (E.ne (by simp))))) rd_I0) sc_cls.nd ?_
  refine z_asg 1 (d := iD (((((((((((one C eBadFraction + one C eBadPolynomial) + one C eBadReadings) + one C eNothingLeft) + one C eBadShare) + one C eBadTick) + one C eBadRoom) + one C eBadWeb) + one C eBadLine) + one C eBadForm) + one C eBadText) + one C eBadName)) (ed_op op_add (ed_op op_add (ed_op op_add (ed_var 1 rfl) (ed_toIntB E.tI (ed_isX TC E.mI (ed_var 0 rfl) hS (ed_glob (v := .ref eBadForm) E.tBadForm.mg rfl) (.own eBadForm) (TC.kit E.tBadForm (E.ne (by simp))))) rd_I0) (ed_toIntB E.tI (ed_isX TC E.mI (ed_var 0 rfl) hS (ed_glob (v := .ref eBadText) E.tBadText.mg rfl) (.own eBadText) (TC.kit E.tBadText (E.ne (by simp))))) rd_I0) (ed_toIntB E.tI (ed_isX TC E.mI (ed_var 0 rfl) hS (ed_glob (v := .ref eBadName) E.tBadName.mg rfl) (.own eBadName) (TC.kit E.tBadName (E.ne (by simp))))) rd_I0) sc_cls.nd ?_
  refine z_asg 1 (d := iD ((((((((((((((one C eBadFraction + one C eBadPolynomial) + one C eBadReadings) + one C eNothingLeft) + one C eBadShare) + one C eBadTick) + one C eBadRoom) + one C eBadWeb) + one C eBadLine) + one C eBadForm) + one C eBadText) + one C eBadName) + one C eTakenName) + one C eUnknownName) + one C eFullReader)) (ed_op op_add (ed_op op_add (ed_op op_add (ed_var 1 rfl) (ed_toIntB E.tI (ed_isX TC E.mI (ed_var 0 rfl) hS (ed_glob (v := .ref eTakenName) E.tTakenName.mg rfl) (.own eTakenName) (TC.kit E.tTakenName (E.ne (by simp))))) rd_I0) (ed_toIntB E.tI (ed_isX TC E.mI (ed_var 0 rfl) hS (ed_glob (v := .ref eUnknownName) E.tUnknownName.mg rfl) (.own eUnknownName) (TC.kit E.tUnknownName (E.ne (by simp))))) rd_I0) (ed_toIntB E.tI (ed_isX TC E.mI (ed_var 0 rfl) hS (ed_glob (v := .ref eFullReader) E.tFullReader.mg rfl) (.own eFullReader) (TC.kit E.tFullReader (E.ne (by simp))))) rd_I0) sc_cls.nd ?_
  refine z_asg 1 (d := iD (((((((((((((((((one C eBadFraction + one C eBadPolynomial) + one C eBadReadings) + one C eNothingLeft) + one C eBadShare) + one C eBadTick) + one C eBadRoom) + one C eBadWeb) + one C eBadLine) + one C eBadForm) + one C eBadText) + one C eBadName) + one C eTakenName) + one C eUnknownName) + one C eFullReader) + one C eBarred) + one C eOutOfRange) + one C eMisfit)) (ed_op op_add (ed_op op_add (ed_op op_add (ed_var 1 rfl) (ed_toIntB E.tI (ed_isX TC E.mI (ed_var 0 rfl) hS (ed_glob (v := .ref eBarred) E.tBarred.mg rfl) (.own eBarred) (TC.kit E.tBarred (E.ne (by simp))))) rd_I0) (ed_toIntB E.tI (ed_isX TC E.mI (ed_var 0 rfl) hS (ed_glob (v := .ref eOutOfRange) E.tOutOfRange.mg rfl) (.own eOutOfRange) (TC.kit E.tOutOfRange (E.ne (by simp))))) rd_I0) (ed_toIntB E.tI (ed_isX TC E.mI (ed_var 0 rfl) hS (ed_glob (v := .ref eMisfit) E.tMisfit.mg rfl) (.own eMisfit) (TC.kit E.tMisfit (E.ne (by simp))))) rd_I0) sc_cls.nd ?_
  refine z_ret (d := iD ((((((((((((((((((one C eBadFraction + one C eBadPolynomial) + one C eBadReadings) + one C eNothingLeft) + one C eBadShare) + one C eBadTick) + one C eBadRoom) + one C eBadWeb) + one C eBadLine) + one C eBadForm) + one C eBadText) + one C eBadName) + one C eTakenName) + one C eUnknownName) + one C eFullReader) + one C eBarred) + one C eOutOfRange) + one C eMisfit) + one C eNoWeb)) (ed_op op_add (ed_var 1 rfl) (ed_toIntB E.tI (ed_isX TC E.mI (ed_var 0 rfl) hS (ed_glob (v := .ref eNoWeb) E.tNoWeb.mg rfl) (.own eNoWeb) (TC.kit E.tNoWeb (E.ne (by simp))))) rd_I0) ?_
  show Out.rt _ = Out.rt _
  rw [← ones E hm]
theorem ok_plain {f fC : Addr} {fd fdC : FuncData} (F : Fun K "_law_plain" "_law_plain" s_plain f fd) (E : Errs K mg TE eBadFraction eBadPolynomial eBadReadings eNothingLeft eBadShare eBadTick eBadRoom eBadWeb eBadLine eBadForm eBadText eBadName eTakenName eUnknownName eFullReader eBarred eOutOfRange eMisfit eNoWeb) (FC : FnOk P w K mg base CX0 1 fC fdC ["_law_e"] (spD K 1 (R_cls K mg TE [eBadFraction, eBadPolynomial, eBadReadings, eNothingLeft, eBadShare, eBadTick, eBadRoom, eBadWeb, eBadLine, eBadForm, eBadText, eBadName, eTakenName, eUnknownName, eFullReader, eBarred, eOutOfRange, eMisfit, eNoWeb] (iD 1)))) (mC : mg "_law_classes" = some (.ref fC)) (kC : PySem.W.keepIn K (.ref fC) = true) (bC : Binds K fdC ["_law_e"] []) :
    FnOk P w K mg base CX0 2 f fd ["_law_e"] (spD K 1 (R_cls K mg TE [eBadFraction, eBadPolynomial, eBadReadings, eNothingLeft, eBadShare, eBadTick, eBadRoom, eBadWeb, eBadLine, eBadForm, eBadText, eBadName, eTakenName, eUnknownName, eFullReader, eBarred, eOutOfRange, eMisfit, eNoWeb] (bD true))) := by
  refine fn_D F sc_plain (by decide) fun cdv A outer s H E0 ds d hr hl hR => ?_
  obtain ⟨C, fs, x, rfl, hm, TC, rfl⟩ := hR
  have hS : ∀ {X : Cx}, SeenX X C (.exc C fs) fs := fun {X} => .inl rfl
  exact z_ret (ed_andT (ed_isX TC E.mI (ed_var 0 rfl) hS (ed_glob (v := .ref TE) E.mT rfl) (.own TE) (TC.kitT E.icT E.tyT (E.ne hm))) (ed_andT (ed_isX TC E.mI (ed_var 0 rfl) hS (ed_bltn (v := .ty "ValueError") E.mV (by decide +kernel) rfl) (.ty "ValueError") TC.kitV) (ed_one (ed_is (ed_cmp op_eq (ed_call FC hr mC kC bC pass0 (ad_cons (ed_var 0 rfl) ad_nil) ⟨C, fs, x, rfl, hm, TC, rfl⟩) ed_int (rd_eq rfl)) (by show bD (decide (V.int 1 = V.int 1)) = bD true; rw [decide_eq_true rfl]))))) (.inl rfl)
theorem ok_plainP {f fC : Addr} {fd fdC : FuncData} {p : Addr × Obj} (F : Fun K "_law_plain" "_law_plain" s_plain f fd) (E : Errs K mg TE eBadFraction eBadPolynomial eBadReadings eNothingLeft eBadShare eBadTick eBadRoom eBadWeb eBadLine eBadForm eBadText eBadName eTakenName eUnknownName eFullReader eBarred eOutOfRange eMisfit eNoWeb) (FC : FnP P w K mg base 1 fC fdC ["_law_e"] p (spD K 1 (R_clsP K mg TE [eBadFraction, eBadPolynomial, eBadReadings, eNothingLeft, eBadShare, eBadTick, eBadRoom, eBadWeb, eBadLine, eBadForm, eBadText, eBadName, eTakenName, eUnknownName, eFullReader, eBarred, eOutOfRange, eMisfit, eNoWeb] p (iD 1)))) (mC : mg "_law_classes" = some (.ref fC)) (kC : PySem.W.keepIn K (.ref fC) = true) (bC : Binds K fdC ["_law_e"] []) :
    FnP P w K mg base 2 f fd ["_law_e"] p (spD K 1 (R_clsP K mg TE [eBadFraction, eBadPolynomial, eBadReadings, eNothingLeft, eBadShare, eBadTick, eBadRoom, eBadWeb, eBadLine, eBadForm, eBadText, eBadName, eTakenName, eUnknownName, eFullReader, eBarred, eOutOfRange, eMisfit, eNoWeb] p (bD true))) := by
  refine fn_P F sc_plain (by decide) fun cdv A outer s H E0 ds d hr hl hR => ?_
  obtain ⟨C, dx, fs, vs, x, rfl, hm, TC, hz, hv, rfl⟩ := hR
  have hS : SeenX (cxP P w K mg base ["_law_e"] "_law_plain" (defScope s_plain) f cdv A outer s H E0 p) C (.ced p.1 dx fs) fs := .inr ⟨p.1, p.2, dx, vs, rfl, List.mem_cons_self, hz, hv⟩
  exact z_ret (ed_andT (ed_isX TC E.mI (ed_var 0 rfl) hS (ed_glob (v := .ref TE) E.mT rfl) (.own TE) (TC.kitT E.icT E.tyT (E.ne hm))) (ed_andT (ed_isX TC E.mI (ed_var 0 rfl) hS (ed_bltn (v := .ty "ValueError") E.mV (by decide +kernel) rfl) (.ty "ValueError") TC.kitV) (ed_one (ed_is (ed_cmp op_eq (ed_callP FC List.mem_cons_self hr mC kC bC (ad_cons (ed_var 0 rfl) ad_nil) ⟨C, dx, fs, vs, x, rfl, hm, TC, hz, hv, rfl⟩) ed_int (rd_eq rfl)) (by show bD (decide (V.int 1 = V.int 1)) = bD true; rw [decide_eq_true rfl]))))) rfl
def R_int1 : List D → D → Prop := fun ds d => ∃ x : Int, ds = [iD x] ∧ d = bD true
theorem sc_without : FnScope ["_law_number", "_law_e"] ["_law_number"] (defScope s_without) := ⟨rfl, rfl, rfl, by decide +kernel, rfl, by decide +kernel, by decide +kernel⟩
theorem ok_without {f fP fI : Addr} {fd fdP fdI : FuncData} (F : Fun K "_law_without" "_law_without" s_without f fd) (E : Errs K mg TE eBadFraction eBadPolynomial eBadReadings eNothingLeft eBadShare eBadTick eBadRoom eBadWeb eBadLine eBadForm eBadText eBadName eTakenName eUnknownName eFullReader eBarred eOutOfRange eMisfit eNoWeb) (T : FrTxt K mg C) (FP : FnOk P w K mg base CX0 2 fP fdP ["_law_e"] (spD K 1 (R_cls K mg TE [eBadFraction, eBadPolynomial, eBadReadings, eNothingLeft, eBadShare, eBadTick, eBadRoom, eBadWeb, eBadLine, eBadForm, eBadText, eBadName, eTakenName, eUnknownName, eFullReader, eBarred, eOutOfRange, eMisfit, eNoWeb] (bD true)))) (mP : mg "_law_plain" = some (.ref fP)) (kP : PySem.W.keepIn K (.ref fP) = true) (bP : Binds K fdP ["_law_e"] [])
    (GP : ∀ p, FnP P w K mg base 2 fP fdP ["_law_e"] p (spD K 1 (R_clsP K mg TE [eBadFraction, eBadPolynomial, eBadReadings, eNothingLeft, eBadShare, eBadTick, eBadRoom, eBadWeb, eBadLine, eBadForm, eBadText, eBadName, eTakenName, eUnknownName, eFullReader, eBarred, eOutOfRange, eMisfit, eNoWeb] p (bD true))))
    (x1 : ErT K mg "BadFraction" eBadFraction) (x2 : ErT K mg "BadPolynomial" eBadPolynomial) (x3 : ErT K mg "BadReadings" eBadReadings) (x4 : ErT K mg "NothingLeft" eNothingLeft)
    (M : Mk K C fI) (GX : FnOk P w K mg base (L2.CX P w) 1 fI fdI ["self", "top", "bottom"] (spInitX C eBadFraction)) (bI : Binds K fdI ["self", "top", "bottom"] []) :
    FnOk P w K mg base CX0 3 f fd ["_law_number"] (spD K 1 R_int1) := by
  refine fn_D F sc_without (by decide) fun cdv A outer s H E0 ds d hr hl hR => ?_
  obtain ⟨x, rfl, rfl⟩ := hR
  refine z_ifF (WD.td (wd_orF (td_not (k := true) (td_val (ed_call FP hr mP kP bP pass0 (ad_cons (ed_newE0 x1) ad_nil) ⟨eBadFraction, _, _, rfl, (by simp), E.tBadFraction, rfl⟩))) (wd_or1 (td_not (k := true) (td_val (ed_call FP hr mP kP bP pass0 (ad_cons (ed_newE0 x2) ad_nil) ⟨eBadPolynomial, _, _, rfl, (by simp), E.tBadPolynomial, rfl⟩)))))) ?_
  refine z_ifF (WD.td (wd_orF (td_not (k := true) (td_val (ed_call FP hr mP kP bP pass0 (ad_cons (ed_newE0 x3) ad_nil) ⟨eBadReadings, _, _, rfl, (by simp), E.tBadReadings, rfl⟩))) (wd_or1 (td_not (k := true) (td_val (ed_call FP hr mP kP bP pass0 (ad_cons (ed_newE0 x4) ad_nil) ⟨eNothingLeft, _, _, rfl, (by simp), E.tNothingLeft, rfl⟩)))))) ?_
  refine ss_out (sd_tryAsC 1 rfl rfl sc_without.nd (names_own E.mT) (Ψ := fun o => o = .ex (.ref eBadFraction) [] _) (fun pn xe _ => ss_out (sd_exprX (xd_mk (X := Cx.tr _ pn xe) M GX (hr.mono (by decide)) T.mgC bI (ad_cons (ed_var 0 rfl) (ad_cons ed_int ad_nil))) rfl) (fun Γ' z => by cases z)) (fun o h z => absurd z (h _ _ _)) ?_) (fun Γ' z => ?_)
  · rintro c fs Γ' z
    cases z
    refine ⟨true, PySem.W.exm_ref E.beT E.hdT E.tyT (subT E.tBadFraction), fun _ a oe d pn hz hf => ?_, fun z => by cases z⟩
    obtain ⟨vs, hv⟩ := hf
    have hS : ∀ {X : Cx}, SeenX (Cx.suite X a ((a, oe) :: pn)) eBadFraction (.ced a d []) [] := fun {X} => .inr ⟨a, oe, d, vs, rfl, List.mem_cons_self, hz, hv⟩
    refine z_ret (X := Cx.suite _ a ((a, oe) :: pn)) (ed_andT (ed_is (ed_isX (X := Cx.suite _ a ((a, oe) :: pn)) E.tBadFraction E.mI (ed_var 1 rfl) hS (ed_glob (v := .ref eBadFraction) E.tBadFraction.mg rfl) (.own eBadFraction) (E.tBadFraction.kit E.tBadFraction (E.ne (by simp)))) (by rw [decide_eq_true rfl])) (ed_one (ed_callP (X := Cx.suite _ a ((a, oe) :: pn)) (GP (a, oe)) List.mem_cons_self ⟨hr.dp, hr.un⟩ mP kP bP (ad_cons (ed_var 1 rfl) ad_nil) ⟨eBadFraction, d, [], vs, _, rfl, (by simp), E.tBadFraction, hz, hv, rfl⟩))) (.inl rfl)
  · rcases z with z | ⟨z, _⟩ <;> cases z
structure NewE (P : Program) (w : World) (K : PySem.W.Frag) (mg : Str → Option Value) (base : Heap) (C : Addr) (ps : List Str) (sp : Sp) : Prop where
  ex : ∃ f fd, PySem.W.findIn K (.ref C) "__init__" = some (some (.ref f)) ∧ PySem.W.typeIn K (.ref f) = some (.type "function") ∧ FnOk P w K mg base CX0 1 f fd ps sp ∧ Binds K fd ps []
section
variable {X : Cx} {Γ : Gm} {d1 d2 : D} {e b : Expr} {BE : Addr} {ps : List Str} {x : Str}
theorem new1 {f : Str} {p pos : Pos} (T : EcT X.K X.mg x C BE) (N : NewE X.prog X.w X.K X.mg X.base C ps (spE1 C f)) (hr : Room 2 X.A) (ha : ED X e Γ d1) (hg : Gl X x := by rfl)
    (hdb : (x == ("__debug__" : Str)) = false := by decide) (he : starEach (e :: []) X.env = (false, eval e X.env) :: starEach [] X.env := by rfl) (hpl : (backTo pos (starEach [] X.env)).any (·.1) = false := by rfl) :
    ED X (.Call (.Name x p) [e] [] pos) Γ (.exc C [(f, d1)]) := by
  obtain ⟨f, fd, h1, h2, h3, h4⟩ := N.ex
  exact ed_newE1 T h1 h2 h3 hr h4 ha hg hdb he hpl
theorem new2 {f g : Str} {p pos : Pos} (T : EcT X.K X.mg x C BE) (N : NewE X.prog X.w X.K X.mg X.base C ps (spE2 C f g)) (hr : Room 2 X.A) (ha : ED X e Γ d1) (hb : ED X b Γ d2) (hg : Gl X x := by rfl)
    (hdb : (x == ("__debug__" : Str)) = false := by decide) (he : starEach (e :: [b]) X.env = (false, eval e X.env) :: starEach [b] X.env := by rfl) (he2 : starEach (b :: []) X.env = (false, eval b X.env) :: starEach [] X.env := by rfl) (hpl : (backTo pos (starEach [b] X.env)).any (·.1) = false := by rfl) :
    ED X (.Call (.Name x p) [e, b] [] pos) Γ (.exc C [(g, d2), (f, d1)]) := by
  obtain ⟨f, fd, h1, h2, h3, h4⟩ := N.ex
  exact ed_newE2 T h1 h2 h3 hr h4 ha hb hg hdb he he2 hpl
end
def R_numbers : List D → D → Prop := fun ds d => ∃ x y : Int, ds = [iD x, iD y] ∧ d = bD true
theorem sc_numbers : FnScope ["_law_first", "_law_second", "_law_a", "_law_b", "_law_c", "_law_d"] ["_law_first", "_law_second"] (defScope s_numbers) := ⟨rfl, rfl, rfl, by decide +kernel, rfl, by decide +kernel, by decide +kernel⟩
theorem ok_numbers {f fP : Addr} {fd fdP : FuncData} (F : Fun K "_law_numbers" "_law_numbers" s_numbers f fd) (E : Errs K mg TE eBadFraction eBadPolynomial eBadReadings eNothingLeft eBadShare eBadTick eBadRoom eBadWeb eBadLine eBadForm eBadText eBadName eTakenName eUnknownName eFullReader eBarred eOutOfRange eMisfit eNoWeb) (FP : FnOk P w K mg base CX0 2 fP fdP ["_law_e"] (spD K 1 (R_cls K mg TE [eBadFraction, eBadPolynomial, eBadReadings, eNothingLeft, eBadShare, eBadTick, eBadRoom, eBadWeb, eBadLine, eBadForm, eBadText, eBadName, eTakenName, eUnknownName, eFullReader, eBarred, eOutOfRange, eMisfit, eNoWeb] (bD true)))) (mP : mg "_law_plain" = some (.ref fP)) (kP : PySem.W.keepIn K (.ref fP) = true) (bP : Binds K fdP ["_law_e"] [])
    (wBadShare : NewE P w K mg base eBadShare ["self", "share"] (spE1 eBadShare "share")) (wBadTick : NewE P w K mg base eBadTick ["self", "tick"] (spE1 eBadTick "tick")) (wBadRoom : NewE P w K mg base eBadRoom ["self", "room"] (spE1 eBadRoom "room")) (wBadLine : NewE P w K mg base eBadLine ["self", "place"] (spE1 eBadLine "place")) (wBadText : NewE P w K mg base eBadText ["self", "line", "column"] (spE2 eBadText "line" "column")) (wFullReader : NewE P w K mg base eFullReader ["self", "most"] (spE1 eFullReader "most")) (wMisfit : NewE P w K mg base eMisfit ["self", "tick"] (spE1 eMisfit "tick")) (wNoWeb : NewE P w K mg base eNoWeb ["self", "tick"] (spE1 eNoWeb "tick"))
    (zBadShare_share : PySem.W.findIn K (.ref eBadShare) "share" = some none) (zBadTick_tick : PySem.W.findIn K (.ref eBadTick) "tick" = some none) (zBadRoom_room : PySem.W.findIn K (.ref eBadRoom) "room" = some none) (zBadLine_place : PySem.W.findIn K (.ref eBadLine) "place" = some none) (zBadText_line : PySem.W.findIn K (.ref eBadText) "line" = some none) (zBadText_column : PySem.W.findIn K (.ref eBadText) "column" = some none) (zFullReader_most : PySem.W.findIn K (.ref eFullReader) "most" = some none) (zMisfit_tick : PySem.W.findIn K (.ref eMisfit) "tick" = some none) (zNoWeb_tick : PySem.W.findIn K (.ref eNoWeb) "tick" = some none) :
    FnOk P w K mg base CX0 3 f fd ["_law_first", "_law_second"] (spD K 2 R_numbers) := by
  refine fn_D F sc_numbers (by decide) fun cdv A outer s H E0 ds d hr hl hR => ?_
  obtain ⟨x, y, rfl, rfl⟩ := hR
  have sc := sc_numbers
  have hr1 : Room 1 _ := hr.mono (by decide)
  have neL : ∀ ns : List Int, RD K (rNeD K) (.lst (ns.map iD)) (.lst (ns.map iD)) (bD false) := fun ns => by
    have h := rd_neL (K := K) (ns := ns) (ms := ns)
    rw [decide_eq_true rfl] at h
    exact h
  refine z_asg 2 (d := .exc eBadShare [("share", iD x)]) (new1 E.tBadShare wBadShare hr (ed_var 0 rfl)) sc.nd ?_
  refine z_asg 3 (d := .exc eBadTick [("tick", iD y)]) (new1 E.tBadTick wBadTick hr (ed_var 1 rfl)) sc.nd ?_
  refine z_asg 4 (d := .exc eBadRoom [("room", iD x)]) (new1 E.tBadRoom wBadRoom hr (ed_var 0 rfl)) sc.nd ?_
  refine z_asg 5 (d := .exc eBadLine [("place", iD y)]) (new1 E.tBadLine wBadLine hr (ed_var 1 rfl)) sc.nd ?_
  refine z_ifF (td_cmp (k := false) (op_neD hr1.units) (ed_lst (ad_cons (ed_xf E.tBadShare (ed_var 2 rfl) (.inl rfl) zBadShare_share rfl) (ad_cons (ed_xf E.tBadTick (ed_var 3 rfl) (.inl rfl) zBadTick_tick rfl) (ad_cons (ed_xf E.tBadRoom (ed_var 4 rfl) (.inl rfl) zBadRoom_room rfl) (ad_cons (ed_xf E.tBadLine (ed_var 5 rfl) (.inl rfl) zBadLine_place rfl) ad_nil))))) (ed_lst (ad_cons (ed_var 0 rfl) (ad_cons (ed_var 1 rfl) (ad_cons (ed_var 0 rfl) (ad_cons (ed_var 1 rfl) ad_nil))))) (neL [x, y, x, y])) ?_
  refine z_ifF (WD.td (wd_orF (td_not (k := true) (td_val (ed_call FP hr mP kP bP pass0 (ad_cons (ed_var 2 rfl) ad_nil) ⟨eBadShare, _, _, rfl, (by simp), E.tBadShare, rfl⟩))) (wd_orF (td_not (k := true) (td_val (ed_call FP hr mP kP bP pass0 (ad_cons (ed_var 3 rfl) ad_nil) ⟨eBadTick, _, _, rfl, (by simp), E.tBadTick, rfl⟩))) (wd_orF (td_not (k := true) (td_val (ed_call FP hr mP kP bP pass0 (ad_cons (ed_var 4 rfl) ad_nil) ⟨eBadRoom, _, _, rfl, (by simp), E.tBadRoom, rfl⟩))) (wd_or1 (td_not (k := true) (td_val (ed_call FP hr mP kP bP pass0 (ad_cons (ed_var 5 rfl) ad_nil) ⟨eBadLine, _, _, rfl, (by simp), E.tBadLine, rfl⟩)))))))) ?_
  refine z_asg 2 (d := .exc eBadText [("column", iD y), ("line", iD x)]) (new2 E.tBadText wBadText hr (ed_var 0 rfl) (ed_var 1 rfl)) sc.nd ?_
  refine z_asg 3 (d := .exc eFullReader [("most", iD y)]) (new1 E.tFullReader wFullReader hr (ed_var 1 rfl)) sc.nd ?_
  refine z_asg 4 (d := .exc eMisfit [("tick", iD x)]) (new1 E.tMisfit wMisfit hr (ed_var 0 rfl)) sc.nd ?_
  refine z_asg 5 (d := .exc eNoWeb [("tick", iD y)]) (new1 E.tNoWeb wNoWeb hr (ed_var 1 rfl)) sc.nd ?_
  refine z_ifF (td_cmp (k := false) (op_neD hr1.units) (ed_lst (ad_cons (ed_xf E.tBadText (ed_var 2 rfl) (.inl rfl) zBadText_line rfl) (ad_cons (ed_xf E.tBadText (ed_var 2 rfl) (.inl rfl) zBadText_column rfl) (ad_cons (ed_xf E.tFullReader (ed_var 3 rfl) (.inl rfl) zFullReader_most rfl) (ad_cons (ed_xf E.tMisfit (ed_var 4 rfl) (.inl rfl) zMisfit_tick rfl) (ad_cons (ed_xf E.tNoWeb (ed_var 5 rfl) (.inl rfl) zNoWeb_tick rfl) ad_nil)))))) (ed_lst (ad_cons (ed_var 0 rfl) (ad_cons (ed_var 1 rfl) (ad_cons (ed_var 1 rfl) (ad_cons (ed_var 0 rfl) (ad_cons (ed_var 1 rfl) ad_nil)))))) (neL [x, y, y, x, y])) ?_
  exact z_ret (ed_andT (ed_call FP hr mP kP bP pass0 (ad_cons (ed_var 2 rfl) ad_nil) ⟨eBadText, _, _, rfl, (by simp), E.tBadText, rfl⟩) (ed_andT (ed_call FP hr mP kP bP pass0 (ad_cons (ed_var 3 rfl) ad_nil) ⟨eFullReader, _, _, rfl, (by simp), E.tFullReader, rfl⟩) (ed_andT (ed_call FP hr mP kP bP pass0 (ad_cons (ed_var 4 rfl) ad_nil) ⟨eMisfit, _, _, rfl, (by simp), E.tMisfit, rfl⟩) (ed_one (ed_call FP hr mP kP bP pass0 (ad_cons (ed_var 5 rfl) ad_nil) ⟨eNoWeb, _, _, rfl, (by simp), E.tNoWeb, rfl⟩))))) (.inl rfl)
def R_strings : List D → D → Prop := fun ds d => ∃ x y : Str, ds = [sD x, sD y] ∧ PyData.strOk x = true ∧ PyData.strOk y = true ∧ d = bD true
theorem sc_strings : FnScope ["_law_first", "_law_second", "_law_a", "_law_b", "_law_c"] ["_law_first", "_law_second"] (defScope s_strings) := ⟨rfl, rfl, rfl, by decide +kernel, rfl, by decide +kernel, by decide +kernel⟩
theorem ok_strings {f fP : Addr} {fd fdP : FuncData} (F : Fun K "_law_strings" "_law_strings" s_strings f fd) (E : Errs K mg TE eBadFraction eBadPolynomial eBadReadings eNothingLeft eBadShare eBadTick eBadRoom eBadWeb eBadLine eBadForm eBadText eBadName eTakenName eUnknownName eFullReader eBarred eOutOfRange eMisfit eNoWeb) (FP : FnOk P w K mg base CX0 2 fP fdP ["_law_e"] (spD K 1 (R_cls K mg TE [eBadFraction, eBadPolynomial, eBadReadings, eNothingLeft, eBadShare, eBadTick, eBadRoom, eBadWeb, eBadLine, eBadForm, eBadText, eBadName, eTakenName, eUnknownName, eFullReader, eBarred, eOutOfRange, eMisfit, eNoWeb] (bD true)))) (mP : mg "_law_plain" = some (.ref fP)) (kP : PySem.W.keepIn K (.ref fP) = true) (bP : Binds K fdP ["_law_e"] [])
    (wBadWeb : NewE P w K mg base eBadWeb ["self", "reason"] (spE1 eBadWeb "reason")) (wBadForm : NewE P w K mg base eBadForm ["self", "form"] (spE1 eBadForm "form")) (wBadName : NewE P w K mg base eBadName ["self", "name"] (spE1 eBadName "name")) (wTakenName : NewE P w K mg base eTakenName ["self", "name"] (spE1 eTakenName "name")) (wUnknownName : NewE P w K mg base eUnknownName ["self", "name"] (spE1 eUnknownName "name"))
    (zBadWeb_reason : PySem.W.findIn K (.ref eBadWeb) "reason" = some none) (zBadForm_form : PySem.W.findIn K (.ref eBadForm) "form" = some none) (zBadName_name : PySem.W.findIn K (.ref eBadName) "name" = some none) (zTakenName_name : PySem.W.findIn K (.ref eTakenName) "name" = some none) (zUnknownName_name : PySem.W.findIn K (.ref eUnknownName) "name" = some none) :
    FnOk P w K mg base CX0 3 f fd ["_law_first", "_law_second"] (spD K 2 R_strings) := by
  refine fn_D F sc_strings (by decide) fun cdv A outer s H E0 ds d hr hl hR => ?_
  obtain ⟨x, y, rfl, hx, hy, rfl⟩ := hR
  have sc := sc_strings
  have hr1 : Room 1 _ := hr.mono (by decide)
  have ok3 : ∀ n ∈ [x, y, x], PyData.strOk n = true := fun n hn => by
    simp only [List.mem_cons, List.not_mem_nil, or_false] at hn
    rcases hn with rfl | rfl | rfl <;> assumption
  have ok2 : ∀ n ∈ [y, x], PyData.strOk n = true := fun n hn => by
    simp only [List.mem_cons, List.not_mem_nil, or_false] at hn
    rcases hn with rfl | rfl <;> assumption
  refine z_asg 2 (d := .exc eBadWeb [("reason", sD x)]) (new1 E.tBadWeb wBadWeb hr (ed_var 0 rfl)) sc.nd ?_
  refine z_asg 3 (d := .exc eBadForm [("form", sD y)]) (new1 E.tBadForm wBadForm hr (ed_var 1 rfl)) sc.nd ?_
  refine z_asg 4 (d := .exc eBadName [("name", sD x)]) (new1 E.tBadName wBadName hr (ed_var 0 rfl)) sc.nd ?_
  refine z_ifF (td_cmp (k := false) (op_neD hr1.units) (ed_lst (ad_cons (ed_xf E.tBadWeb (ed_var 2 rfl) (.inl rfl) zBadWeb_reason rfl) (ad_cons (ed_xf E.tBadForm (ed_var 3 rfl) (.inl rfl) zBadForm_form rfl) (ad_cons (ed_xf E.tBadName (ed_var 4 rfl) (.inl rfl) zBadName_name rfl) ad_nil)))) (ed_lst (ad_cons (ed_var 0 rfl) (ad_cons (ed_var 1 rfl) (ad_cons (ed_var 0 rfl) ad_nil)))) (rd_neS (ns := [x, y, x]) ok3)) ?_
  refine z_ifF (WD.td (wd_orF (td_not (k := true) (td_val (ed_call FP hr mP kP bP pass0 (ad_cons (ed_var 2 rfl) ad_nil) ⟨eBadWeb, _, _, rfl, (by simp), E.tBadWeb, rfl⟩))) (wd_orF (td_not (k := true) (td_val (ed_call FP hr mP kP bP pass0 (ad_cons (ed_var 3 rfl) ad_nil) ⟨eBadForm, _, _, rfl, (by simp), E.tBadForm, rfl⟩))) (wd_or1 (td_not (k := true) (td_val (ed_call FP hr mP kP bP pass0 (ad_cons (ed_var 4 rfl) ad_nil) ⟨eBadName, _, _, rfl, (by simp), E.tBadName, rfl⟩))))))) ?_
  refine z_asg 2 (d := .exc eTakenName [("name", sD y)]) (new1 E.tTakenName wTakenName hr (ed_var 1 rfl)) sc.nd ?_
  refine z_asg 3 (d := .exc eUnknownName [("name", sD x)]) (new1 E.tUnknownName wUnknownName hr (ed_var 0 rfl)) sc.nd ?_
  exact z_ret (ed_andT (ed_cmp (op_eqD hr1.units) (ed_lst (ad_cons (ed_xf E.tTakenName (ed_var 2 rfl) (.inl rfl) zTakenName_name rfl) (ad_cons (ed_xf E.tUnknownName (ed_var 3 rfl) (.inl rfl) zUnknownName_name rfl) ad_nil))) (ed_lst (ad_cons (ed_var 1 rfl) (ad_cons (ed_var 0 rfl) ad_nil))) (rd_eqS (ns := [y, x]) ok2)) (ed_andT (ed_call FP hr mP kP bP pass0 (ad_cons (ed_var 2 rfl) ad_nil) ⟨eTakenName, _, _, rfl, (by simp), E.tTakenName, rfl⟩) (ed_one (ed_call FP hr mP kP bP pass0 (ad_cons (ed_var 3 rfl) ad_nil) ⟨eUnknownName, _, _, rfl, (by simp), E.tUnknownName, rfl⟩)))) (.inl rfl)
def R_pairs (C : Addr) : List D → D → Prop := fun ds d => ∃ (x : Int) (p q : Rat), ds = [iD x, fr C p, fr C q] ∧ Sz 4000 p ∧ Sz 4000 q ∧ d = bD true
theorem sc_pairs : FnScope ["_law_number", "_law_first", "_law_second", "_law_a", "_law_b"] ["_law_number", "_law_first", "_law_second"] (defScope s_pairs) := ⟨rfl, rfl, rfl, by decide +kernel, rfl, by decide +kernel, by decide +kernel⟩
theorem ok_pairs {f fP fN : Addr} {fd fdP fdN : FuncData} (F : Fun K "_law_pairs" "_law_pairs" s_pairs f fd) (E : Errs K mg TE eBadFraction eBadPolynomial eBadReadings eNothingLeft eBadShare eBadTick eBadRoom eBadWeb eBadLine eBadForm eBadText eBadName eTakenName eUnknownName eFullReader eBarred eOutOfRange eMisfit eNoWeb) (FP : FnOk P w K mg base CX0 2 fP fdP ["_law_e"] (spD K 1 (R_cls K mg TE [eBadFraction, eBadPolynomial, eBadReadings, eNothingLeft, eBadShare, eBadTick, eBadRoom, eBadWeb, eBadLine, eBadForm, eBadText, eBadName, eTakenName, eUnknownName, eFullReader, eBarred, eOutOfRange, eMisfit, eNoWeb] (bD true)))) (mP : mg "_law_plain" = some (.ref fP)) (kP : PySem.W.keepIn K (.ref fP) = true) (bP : Binds K fdP ["_law_e"] [])
    (wBarred : NewE P w K mg base eBarred ["self", "tick", "weights"] (spE2 eBarred "tick" "weights")) (wOutOfRange : NewE P w K mg base eOutOfRange ["self", "least", "greatest"] (spE2 eOutOfRange "least" "greatest"))
    (zBarred_tick : PySem.W.findIn K (.ref eBarred) "tick" = some none) (zBarred_weights : PySem.W.findIn K (.ref eBarred) "weights" = some none) (zOutOfRange_least : PySem.W.findIn K (.ref eOutOfRange) "least" = some none) (zOutOfRange_greatest : PySem.W.findIn K (.ref eOutOfRange) "greatest" = some none)
    (MN : CmpM K C "__ne__" fN) (FN : FnOk P w K mg base CX0 6 fN fdN ["self", "other"] (spD K 2 (R_cmp C fun p q => !decide (p = q)))) (bN : Binds K fdN ["self", "other"] []) :
    FnOk P w K mg base CX0 7 f fd ["_law_number", "_law_first", "_law_second"] (spD K 3 (R_pairs C)) := by
  refine fn_D F sc_pairs (by decide) fun cdv A outer s H E0 ds d hr6 hl hR => ?_
  obtain ⟨x, p, q, rfl, hp, hq, rfl⟩ := hR
  have sc := sc_pairs
  have hr : Room 2 _ := hr6.mono (by decide)
  have neF : RD K rNe (iD x) (iD x) (bD false) := by
    have h2 := rd_ne (K := K) (x := V.int x) (y := V.int x) rfl
    rw [decide_eq_true rfl] at h2
    exact h2
  have neQ : ∀ {q : Rat}, Sz 4000 q → RD K (rOwn C (spD K 2 (R_cmp C fun p q => !decide (p = q))) (fun _ _ _ => False)) (fr C q) (fr C q) (bD false) := fun {q} hq => rd_own ⟨q, _, q, rfl, .inl rfl, hq, hq, by show bD false = bD (!decide (q = q)); rw [decide_eq_true rfl]; rfl⟩
  refine z_asg 3 (d := .exc eBarred [("weights", fr C p), ("tick", iD x)]) (new2 E.tBarred wBarred hr (ed_var 0 rfl) (ed_var 1 rfl)) sc.nd ?_
  refine z_asg 4 (d := .exc eOutOfRange [("greatest", fr C q), ("least", fr C p)]) (new2 E.tOutOfRange wOutOfRange hr (ed_var 1 rfl) (ed_var 2 rfl)) sc.nd ?_
  refine z_ifF (WD.td (wd_orF (td_cmp (k := false) op_ne (ed_xf E.tBarred (ed_var 3 rfl) (.inl rfl) zBarred_tick rfl) (ed_var 0 rfl) neF) (wd_orF (td_cmp (k := false) (cmp_own (fun _ _ => rfl) MN FN hr6 bN pass0) (ed_xf E.tBarred (ed_var 3 rfl) (.inl rfl) zBarred_weights rfl) (ed_var 1 rfl) (neQ hp)) (wd_orF (td_cmp (k := false) (cmp_own (fun _ _ => rfl) MN FN hr6 bN pass0) (ed_xf E.tOutOfRange (ed_var 4 rfl) (.inl rfl) zOutOfRange_least rfl) (ed_var 1 rfl) (neQ hp)) (wd_or1 (td_cmp (k := false) (cmp_own (fun _ _ => rfl) MN FN hr6 bN pass0) (ed_xf E.tOutOfRange (ed_var 4 rfl) (.inl rfl) zOutOfRange_greatest rfl) (ed_var 2 rfl) (neQ hq))))))) ?_
  exact z_ret (ed_andT (ed_call FP hr mP kP bP pass0 (ad_cons (ed_var 3 rfl) ad_nil) ⟨eBarred, _, _, rfl, (by simp), E.tBarred, rfl⟩) (ed_one (ed_call FP hr mP kP bP pass0 (ad_cons (ed_var 4 rfl) ad_nil) ⟨eOutOfRange, _, _, rfl, (by simp), E.tOutOfRange, rfl⟩))) (.inl rfl)
theorem sc_raised : FnScope ["_law_number", "_law_caught", "_law_e"] ["_law_number"] (defScope s_raised) := ⟨rfl, rfl, rfl, by decide +kernel, rfl, by decide +kernel, by decide +kernel⟩
theorem ok_raised {f : Addr} {fd : FuncData} (F : Fun K "_law_raised" "_law_raised" s_raised f fd) (E : Errs K mg TE eBadFraction eBadPolynomial eBadReadings eNothingLeft eBadShare eBadTick eBadRoom eBadWeb eBadLine eBadForm eBadText eBadName eTakenName eUnknownName eFullReader eBarred eOutOfRange eMisfit eNoWeb) (wBadTick : NewE P w K mg base eBadTick ["self", "tick"] (spE1 eBadTick "tick")) (wBarred : NewE P w K mg base eBarred ["self", "tick", "weights"] (spE2 eBarred "tick" "weights")) (zBarred_tick : PySem.W.findIn K (.ref eBarred) "tick" = some none) (zBarred_weights : PySem.W.findIn K (.ref eBarred) "weights" = some none) :
    FnOk P w K mg base CX0 3 f fd ["_law_number"] (spD K 1 R_int1) := by
  refine fn_D F sc_raised (by decide) fun cdv A outer s H E0 ds d hr hl hR => ?_
  obtain ⟨x, rfl, rfl⟩ := hR
  refine z_asg 1 (d := iD 0) ed_int sc_raised.nd ?_
  refine ss_seq (Ψ := fun o => o = .nx [some (iD x), some (iD 1), none]) (sd_tryAsC 2 rfl rfl sc_raised.nd (names_own E.mT) (Ψ := fun o => o = .ex (.ref eBadTick) [("tick", iD x)] [some (iD x), some (iD 0), none]) (fun pn xe _ => ss_out ?_ (fun Γ' z => by cases z)) (fun o h z => absurd z (h _ _ _)) ?_) (fun Γ' z => ?_) fun o h z => absurd z (h _)
  · obtain ⟨f1, fd1, h1, h2, h3, h4⟩ := wBadTick.ex
    exact sd_raiseE1 (X := Cx.tr _ pn xe) rfl E.tBadTick h1 h2 h3 hr h4 (ed_var 0 rfl) rfl
  · rintro c fs Γ' z
    cases z
    refine ⟨true, PySem.W.exm_ref E.beT E.hdT E.tyT (subT E.tBadTick), fun _ a oe d pn hz hf => ?_, fun z => by cases z⟩
    obtain ⟨vs, hv⟩ := hf
    have hS : ∀ {X : Cx}, SeenX (Cx.suite X a ((a, oe) :: pn)) eBadTick (.ced a d [("tick", iD x)]) [("tick", iD x)] := fun {X} => .inr ⟨a, oe, d, vs, rfl, List.mem_cons_self, hz, hv⟩
    exact z_asg (X := Cx.suite _ a ((a, oe) :: pn)) 1 (d := iD 1) (ed_op op_add (ed_var 1 rfl) (ed_toIntB E.tI (ed_is (ed_isX (X := Cx.suite _ a ((a, oe) :: pn)) E.tBadTick E.mI (ed_var 2 rfl) hS (ed_glob (v := .ref eBadTick) E.tBadTick.mg rfl) (.own eBadTick) (E.tBadTick.kit E.tBadTick (E.ne (by simp)))) (by rw [decide_eq_true rfl]))) rd_I0) sc_raised.nd (ss_nil rfl)
  · cases z
    refine ss_seq (Ψ := fun o => o = .nx [some (iD x), some (iD 2), none]) (sd_tryAsC 2 rfl rfl sc_raised.nd (names_own E.tBarred.mg) (Ψ := fun o => o = .ex (.ref eBarred) [("weights", iD 0), ("tick", iD x)] [some (iD x), some (iD 1), none]) (fun pn xe _ => ss_out ?_ (fun Γ' z => by cases z)) (fun o h z => absurd z (h _ _ _)) ?_) (fun Γ' z => ?_) fun o h z => absurd z (h _)
    · obtain ⟨f1, fd1, h1, h2, h3, h4⟩ := wBarred.ex
      exact sd_raiseE2 (X := Cx.tr _ pn xe) rfl E.tBarred h1 h2 h3 hr h4 (ed_var 0 rfl) ed_int rfl
    · rintro c fs Γ' z
      cases z
      refine ⟨true, PySem.W.exm_ref E.tBarred.be (ec_hd E.tBarred.ec) (ec_ty E.tBarred.ec) (selfT E.tBarred), fun _ a oe d pn hz hf => ?_, fun z => by cases z⟩
      obtain ⟨vs, hv⟩ := hf
      have hS : ∀ {X : Cx}, SeenX (Cx.suite X a ((a, oe) :: pn)) eBarred (.ced a d [("weights", iD 0), ("tick", iD x)]) [("weights", iD 0), ("tick", iD x)] := fun {X} => .inr ⟨a, oe, d, vs, rfl, List.mem_cons_self, hz, hv⟩
      exact z_asg (X := Cx.suite _ a ((a, oe) :: pn)) 1 (d := iD 2) (ed_op op_add (ed_var 1 rfl) (ed_toIntB E.tI (ed_is (ed_cmp op_eq (ed_xf (X := Cx.suite _ a ((a, oe) :: pn)) E.tBarred (ed_var 2 rfl) hS zBarred_tick rfl) (ed_var 0 rfl) (rd_eq rfl)) (by rw [decide_eq_true rfl]))) rd_I0) sc_raised.nd (ss_nil rfl)
    · cases z
      exact z_ret (ed_is (ed_cmp op_eq (ed_var 1 rfl) ed_int (rd_eq rfl)) (by show bD (decide (V.int 2 = V.int 2)) = bD true; rw [decide_eq_true rfl])) (.inl rfl)
theorem strOk_add {x y : Str} (hx : PyData.strOk x = true) (hy : PyData.strOk y = true) : PyData.strOk (x ++ y) = true := by
  show (x.cps ++ y.cps).all (· < 0x110000) = true
  rw [Array.all_append]
  exact Bool.and_eq_true_iff.mpr ⟨hx, hy⟩
theorem sc_law : FnScope ["_law_script", "_law_number", "_law_other", "_law_word"] ["_law_script"] (defScope s_law) := ⟨rfl, rfl, rfl, by decide +kernel, rfl, by decide +kernel, by decide +kernel⟩
theorem p20 : (10 : Nat) ^ 20 < 2 ^ 4000 := Nat.lt_of_lt_of_le (show (10 : Nat) ^ 20 < 2 ^ 67 by decide) (Nat.pow_le_pow_right (by decide) (by decide))
theorem sz_div {a b : Int} {n : Nat} (hb : b ≠ 0) (h1 : a.natAbs < 2 ^ n) (h2 : b.natAbs < 2 ^ n) : Sz n (Rat.divInt a b) := ⟨Nat.lt_of_le_of_lt (num_le a b) h1, Nat.lt_of_le_of_lt (den_le hb) h2⟩
theorem ok_law {f fI fC fW fR fU fS fQ : Addr} {fd fdI fdC fdW fdR fdU fdS fdQ : FuncData} (F : Fun K "law" "law" s_law f fd) (T : FrTxt K mg C)
    (FC : FnOk P w K mg base CX0 1 fC fdC ["_law_script", "_law_k"] (spD K 2 R_cell)) (mC : mg "_law_cell" = some (.ref fC)) (kC : PySem.W.keepIn K (.ref fC) = true) (bC : Binds K fdC ["_law_script", "_law_k"] [])
    (FW : FnOk P w K mg base CX0 3 fW fdW ["_law_number"] (spD K 1 R_int1)) (mW : mg "_law_without" = some (.ref fW)) (kW : PySem.W.keepIn K (.ref fW) = true) (bW : Binds K fdW ["_law_number"] [])
    (FR : FnOk P w K mg base CX0 3 fR fdR ["_law_number"] (spD K 1 R_int1)) (mR : mg "_law_raised" = some (.ref fR)) (kR : PySem.W.keepIn K (.ref fR) = true) (bR : Binds K fdR ["_law_number"] [])
    (FU : FnOk P w K mg base CX0 3 fU fdU ["_law_first", "_law_second"] (spD K 2 R_numbers)) (mU : mg "_law_numbers" = some (.ref fU)) (kU : PySem.W.keepIn K (.ref fU) = true) (bU : Binds K fdU ["_law_first", "_law_second"] [])
    (FS : FnOk P w K mg base CX0 3 fS fdS ["_law_first", "_law_second"] (spD K 2 R_strings)) (mS : mg "_law_strings" = some (.ref fS)) (kS : PySem.W.keepIn K (.ref fS) = true) (bS : Binds K fdS ["_law_first", "_law_second"] [])
    (FQ : FnOk P w K mg base CX0 7 fQ fdQ ["_law_number", "_law_first", "_law_second"] (spD K 3 (R_pairs C))) (mQ : mg "_law_pairs" = some (.ref fQ)) (kQ : PySem.W.keepIn K (.ref fQ) = true) (bQ : Binds K fdQ ["_law_number", "_law_first", "_law_second"] [])
    (M : Mk K C fI) (FI : FnOk P w K mg base CX0 1 fI fdI ["self", "top", "bottom"] (spInit C)) (bI : Binds K fdI ["self", "top", "bottom"] []) :
    FnOk P w K mg base CX0 8 f fd ["_law_script"] (spD K 1 R_law) := by
  refine fn_D F sc_law (by decide) fun cdv A outer s H E ds d hr hl hR => ?_
  obtain ⟨ns, rfl, hlen, rfl⟩ := hR
  have hr1 : Room 1 _ := hr.mono (by decide)
  have hr2 : Room 2 _ := hr.mono (by decide)
  have hr3 : Room 3 _ := hr.mono (by decide)
  have pw : RD K (rI CPow fun i j => .int (i ^ j.toNat)) (iD 10) (iD 20) (iD (10 ^ (20 : Int).toNat)) := rd_I ⟨by decide, by decide, by decide⟩
  obtain ⟨n, hn, hn0, hn1⟩ : ∃ n, n = ns.getD 0 0 % (10 : Int) ^ (20 : Int).toNat ∧ 0 ≤ n ∧ n < 10 ^ 20 := ⟨_, rfl, Int.emod_nonneg _ (by decide), Int.emod_lt_of_pos _ (by decide)⟩
  refine z_asg 1 (d := iD n) (ed_is (ed_op op_mod (ed_toInt T.tInt (ed_call FC hr1 mC kC bC pass0 (ad_cons (ed_var 0 rfl) (ad_cons ed_int ad_nil)) ⟨ns, 0, rfl, rfl⟩)) (ed_op op_pow ed_int ed_int pw) (rd_I (by decide))) (by rw [hn])) sc_law.nd ?_
  obtain ⟨m, hm, hm1⟩ : ∃ m, m = ns.getD 1 0 % (10 : Int) ^ (20 : Int).toNat - n ∧ m.natAbs < 10 ^ 20 + 1 := ⟨_, rfl, by
    have h1 := Int.emod_nonneg (ns.getD 1 0) (show (10 : Int) ^ (20 : Int).toNat ≠ 0 by decide)
    have h2 : ns.getD 1 0 % (10 : Int) ^ (20 : Int).toNat < 10 ^ 20 := Int.emod_lt_of_pos _ (by decide)
    omega⟩
  refine z_asg 2 (d := iD m) (ed_is (ed_op op_sub (ed_op op_mod (ed_toInt T.tInt (ed_call FC hr1 mC kC bC pass0 (ad_cons (ed_var 0 rfl) (ad_cons ed_int ad_nil)) ⟨ns, 1, rfl, rfl⟩)) (ed_op op_pow ed_int ed_int pw) (rd_I (by decide))) (ed_var 1 rfl) rd_I0) (by rw [hm])) sc_law.nd ?_
  clear hn hm
  obtain ⟨c, hc, hok⟩ : ∃ c, atI ("abcdefgh" : Str).cps.toList (n % 8) = some c ∧ PyData.strOk ⟨#[c]⟩ = true := by
    have h1 := Int.emod_nonneg n (show (8 : Int) ≠ 0 by decide)
    have h2 := Int.emod_lt_of_pos n (show (0 : Int) < 8 by decide)
    generalize n % 8 = r at *
    obtain rfl | rfl | rfl | rfl | rfl | rfl | rfl | rfl : r = 0 ∨ r = 1 ∨ r = 2 ∨ r = 3 ∨ r = 4 ∨ r = 5 ∨ r = 6 ∨ r = 7 := by omega
    · exact ⟨97, by kernel_rfl, by kernel_rfl⟩
    · exact ⟨98, by kernel_rfl, by kernel_rfl⟩
    · exact ⟨99, by kernel_rfl, by kernel_rfl⟩
    · exact ⟨100, by kernel_rfl, by kernel_rfl⟩
    · exact ⟨101, by kernel_rfl, by kernel_rfl⟩
    · exact ⟨102, by kernel_rfl, by kernel_rfl⟩
    · exact ⟨103, by kernel_rfl, by kernel_rfl⟩
    · exact ⟨104, by kernel_rfl, by kernel_rfl⟩
  have r5 : 1 ≤ 1 + n / 8 % 5 ∧ 1 + n / 8 % 5 ≤ 1000 := by
    have h1 := Int.emod_nonneg (n / 8) (show (5 : Int) ≠ 0 by decide)
    have h2 := Int.emod_lt_of_pos (n / 8) (show (0 : Int) < 5 by decide)
    omega
  refine ed_strMul 3 (ed_ixS ed_str (ed_op op_mod (ed_var 1 rfl) ed_int (rd_I (by decide))) hc (by decide +kernel)) (ed_op op_add ed_int (ed_op op_mod (ed_op op_fdiv (ed_var 1 rfl) ed_int (rd_I ⟨by decide, by decide⟩)) ed_int (rd_I (by decide))) rd_I0) r5.1 r5.2 rfl hok sc_law.nd fun r hrl hro => ?_
  have okx : PyData.strOk ("x" : Str) = true := by kernel_rfl
  have oky : PyData.strOk ("y" : Str) = true := by kernel_rfl
  have l1 : ("x" : Str).length ≤ 1000 := by decide +kernel
  have l2 : ("y" : Str).length ≤ 1000 := by decide +kernel
  refine z_ifF (WD.td (wd_orF (td_not (k := true) (td_val (ed_call FW hr3 mW kW bW pass0 (ad_cons (ed_var 1 rfl) ad_nil) ⟨_, rfl, rfl⟩))) (wd_orF (td_not (k := true) (td_val (ed_call FR hr3 mR kR bR pass0 (ad_cons (ed_var 2 rfl) ad_nil) ⟨_, rfl, rfl⟩)))
    (wd_or1 (td_not (k := true) (td_val (ed_call FU hr3 mU kU bU pass0 (ad_cons (ed_var 1 rfl) (ad_cons (ed_var 2 rfl) ad_nil)) ⟨_, _, rfl, rfl⟩))))))) ?_
  refine z_ifF (WD.td (wd_orF (td_not (k := true) (td_val (ed_call FS hr3 mS kS bS pass0 (ad_cons (ed_var 3 rfl) (ad_cons (ed_addS (ed_var 3 rfl) ed_str (by omega)) ad_nil)) ⟨_, _, rfl, hro, strOk_add hro okx, rfl⟩)))
    (wd_or1 (td_not (k := true) (td_val (ed_call FS hr3 mS kS bS pass0 (ad_cons (ed_addS (ed_var 3 rfl) ed_str (by omega)) (ad_cons (ed_var 3 rfl) ad_nil)) ⟨_, _, rfl, strOk_add hro oky, hro, rfl⟩)))))) ?_
  have q := p20
  exact z_ret (ed_call FQ hr mQ kQ bQ pass0 (ad_cons (ed_var 2 rfl) (ad_cons (ed_mk M FI hr2 T.mgC bI pass0 (ad_cons (ed_var 1 rfl) (ad_cons ed_int ad_nil)) (by decide) (by decide)) (ad_cons (ed_mk M FI hr2 T.mgC bI pass0 (ad_cons (ed_var 2 rfl) (ad_cons ed_int ad_nil)) (by decide) (by decide)) ad_nil))) ⟨_, _, _, rfl, sz_div (by decide) (by omega) (Nat.lt_of_lt_of_le (show (7 : Int).natAbs < 2 ^ 67 by decide) (Nat.pow_le_pow_right (by decide) (by decide))), sz_div (by decide) (Nat.lt_of_lt_of_le (show m.natAbs < 2 ^ 67 by omega) (Nat.pow_le_pow_right (by decide) (by decide))) (Nat.lt_of_lt_of_le (show (3 : Int).natAbs < 2 ^ 67 by decide) (Nat.pow_le_pow_right (by decide) (by decide))), rfl⟩) (.inl rfl)
end
/-! ### what the top has written, the head -/
theorem all_mk {l : PySem.W.OpenLaw} {w : World} {K : PySem.W.Frag} {h : Heap} {mg : Str → Option Value} {fa : Addr} (X : K.In h) (G : h.Ns mainGlobals mg) (hfa : mg "law" = some (.ref fa))
    {f_init f_eq f_ne f_iBadShare f_iBadTick f_iBadRoom f_iBadWeb f_iBadLine f_iBadForm f_iBadText f_iBadName f_iTakenName f_iUnknownName f_iFullReader f_iBarred f_iOutOfRange f_iMisfit f_iNoWeb f_asf f_isn f_ord f_cell f_cls f_plain f_without f_numbers f_strings f_pairs f_raised f_law C eBadForm eBadLine eBadName eBadRoom eBadShare eBadText eBadTick eBadWeb eBarred eFullReader eMisfit eNoWeb eOutOfRange eTakenName eUnknownName TE eBadFraction eBadPolynomial eBadReadings eNothingLeft : Addr}
    {T_init : Addr} {ocT_init : Value} {odT_init : Option Addr} {nT_init : Nat} {slT_init : Array (Option Value)} {tk_init_0 : Tok}
    {od_init an_init : Option Addr} {sl_init : Array (Option Value)} {oc_init kV_init dc_init pm_init cd_init ct_init : Value}
    {od_eq an_eq : Option Addr} {sl_eq : Array (Option Value)} {oc_eq kV_eq dc_eq pm_eq cd_eq ct_eq : Value}
    {od_ne an_ne : Option Addr} {sl_ne : Array (Option Value)} {oc_ne kV_ne dc_ne pm_ne cd_ne ct_ne : Value}
    {od_iBadShare an_iBadShare : Option Addr} {sl_iBadShare : Array (Option Value)} {oc_iBadShare kV_iBadShare dc_iBadShare pm_iBadShare cd_iBadShare ct_iBadShare : Value}
    {od_iBadTick an_iBadTick : Option Addr} {sl_iBadTick : Array (Option Value)} {oc_iBadTick kV_iBadTick dc_iBadTick pm_iBadTick cd_iBadTick ct_iBadTick : Value}
    {od_iBadRoom an_iBadRoom : Option Addr} {sl_iBadRoom : Array (Option Value)} {oc_iBadRoom kV_iBadRoom dc_iBadRoom pm_iBadRoom cd_iBadRoom ct_iBadRoom : Value}
    {od_iBadWeb an_iBadWeb : Option Addr} {sl_iBadWeb : Array (Option Value)} {oc_iBadWeb kV_iBadWeb dc_iBadWeb pm_iBadWeb cd_iBadWeb ct_iBadWeb : Value}
    {od_iBadLine an_iBadLine : Option Addr} {sl_iBadLine : Array (Option Value)} {oc_iBadLine kV_iBadLine dc_iBadLine pm_iBadLine cd_iBadLine ct_iBadLine : Value}
    {od_iBadForm an_iBadForm : Option Addr} {sl_iBadForm : Array (Option Value)} {oc_iBadForm kV_iBadForm dc_iBadForm pm_iBadForm cd_iBadForm ct_iBadForm : Value}
    {od_iBadText an_iBadText : Option Addr} {sl_iBadText : Array (Option Value)} {oc_iBadText kV_iBadText dc_iBadText pm_iBadText cd_iBadText ct_iBadText : Value}
    {od_iBadName an_iBadName : Option Addr} {sl_iBadName : Array (Option Value)} {oc_iBadName kV_iBadName dc_iBadName pm_iBadName cd_iBadName ct_iBadName : Value}
    {od_iTakenName an_iTakenName : Option Addr} {sl_iTakenName : Array (Option Value)} {oc_iTakenName kV_iTakenName dc_iTakenName pm_iTakenName cd_iTakenName ct_iTakenName : Value}
    {od_iUnknownName an_iUnknownName : Option Addr} {sl_iUnknownName : Array (Option Value)} {oc_iUnknownName kV_iUnknownName dc_iUnknownName pm_iUnknownName cd_iUnknownName ct_iUnknownName : Value}
    {od_iFullReader an_iFullReader : Option Addr} {sl_iFullReader : Array (Option Value)} {oc_iFullReader kV_iFullReader dc_iFullReader pm_iFullReader cd_iFullReader ct_iFullReader : Value}
    {od_iBarred an_iBarred : Option Addr} {sl_iBarred : Array (Option Value)} {oc_iBarred kV_iBarred dc_iBarred pm_iBarred cd_iBarred ct_iBarred : Value}
    {od_iOutOfRange an_iOutOfRange : Option Addr} {sl_iOutOfRange : Array (Option Value)} {oc_iOutOfRange kV_iOutOfRange dc_iOutOfRange pm_iOutOfRange cd_iOutOfRange ct_iOutOfRange : Value}
    {od_iMisfit an_iMisfit : Option Addr} {sl_iMisfit : Array (Option Value)} {oc_iMisfit kV_iMisfit dc_iMisfit pm_iMisfit cd_iMisfit ct_iMisfit : Value}
    {od_iNoWeb an_iNoWeb : Option Addr} {sl_iNoWeb : Array (Option Value)} {oc_iNoWeb kV_iNoWeb dc_iNoWeb pm_iNoWeb cd_iNoWeb ct_iNoWeb : Value}
    {od_asf an_asf : Option Addr} {sl_asf : Array (Option Value)} {oc_asf kV_asf dc_asf pm_asf cd_asf ct_asf : Value}
    {od_isn an_isn : Option Addr} {sl_isn : Array (Option Value)} {oc_isn kV_isn dc_isn pm_isn cd_isn ct_isn : Value}
    {od_ord an_ord : Option Addr} {sl_ord : Array (Option Value)} {oc_ord kV_ord dc_ord pm_ord cd_ord ct_ord : Value}
    {od_cell an_cell : Option Addr} {sl_cell : Array (Option Value)} {oc_cell kV_cell dc_cell pm_cell cd_cell ct_cell : Value}
    {od_cls an_cls : Option Addr} {sl_cls : Array (Option Value)} {oc_cls kV_cls dc_cls pm_cls cd_cls ct_cls : Value}
    {od_plain an_plain : Option Addr} {sl_plain : Array (Option Value)} {oc_plain kV_plain dc_plain pm_plain cd_plain ct_plain : Value}
    {od_without an_without : Option Addr} {sl_without : Array (Option Value)} {oc_without kV_without dc_without pm_without cd_without ct_without : Value}
    {od_numbers an_numbers : Option Addr} {sl_numbers : Array (Option Value)} {oc_numbers kV_numbers dc_numbers pm_numbers cd_numbers ct_numbers : Value}
    {od_strings an_strings : Option Addr} {sl_strings : Array (Option Value)} {oc_strings kV_strings dc_strings pm_strings cd_strings ct_strings : Value}
    {od_pairs an_pairs : Option Addr} {sl_pairs : Array (Option Value)} {oc_pairs kV_pairs dc_pairs pm_pairs cd_pairs ct_pairs : Value}
    {od_raised an_raised : Option Addr} {sl_raised : Array (Option Value)} {oc_raised kV_raised dc_raised pm_raised cd_raised ct_raised : Value}
    {od_law an_law : Option Addr} {sl_law : Array (Option Value)} {oc_law kV_law dc_law pm_law cd_law ct_law : Value}
    (aC : PySem.W.nsIn K mainGlobals "Fraction" = some (some (.ref C)))
    (aTE : PySem.W.nsIn K mainGlobals "TracerError" = some (some (.ref TE)))
    (aBadFraction : PySem.W.nsIn K mainGlobals "BadFraction" = some (some (.ref eBadFraction)))
    (aBadPolynomial : PySem.W.nsIn K mainGlobals "BadPolynomial" = some (some (.ref eBadPolynomial)))
    (aBadReadings : PySem.W.nsIn K mainGlobals "BadReadings" = some (some (.ref eBadReadings)))
    (aNothingLeft : PySem.W.nsIn K mainGlobals "NothingLeft" = some (some (.ref eNothingLeft)))
    (aBadShare : PySem.W.nsIn K mainGlobals "BadShare" = some (some (.ref eBadShare)))
    (aBadTick : PySem.W.nsIn K mainGlobals "BadTick" = some (some (.ref eBadTick)))
    (aBadRoom : PySem.W.nsIn K mainGlobals "BadRoom" = some (some (.ref eBadRoom)))
    (aBadWeb : PySem.W.nsIn K mainGlobals "BadWeb" = some (some (.ref eBadWeb)))
    (aBadLine : PySem.W.nsIn K mainGlobals "BadLine" = some (some (.ref eBadLine)))
    (aBadForm : PySem.W.nsIn K mainGlobals "BadForm" = some (some (.ref eBadForm)))
    (aBadText : PySem.W.nsIn K mainGlobals "BadText" = some (some (.ref eBadText)))
    (aBadName : PySem.W.nsIn K mainGlobals "BadName" = some (some (.ref eBadName)))
    (aTakenName : PySem.W.nsIn K mainGlobals "TakenName" = some (some (.ref eTakenName)))
    (aUnknownName : PySem.W.nsIn K mainGlobals "UnknownName" = some (some (.ref eUnknownName)))
    (aFullReader : PySem.W.nsIn K mainGlobals "FullReader" = some (some (.ref eFullReader)))
    (aBarred : PySem.W.nsIn K mainGlobals "Barred" = some (some (.ref eBarred)))
    (aOutOfRange : PySem.W.nsIn K mainGlobals "OutOfRange" = some (some (.ref eOutOfRange)))
    (aMisfit : PySem.W.nsIn K mainGlobals "Misfit" = some (some (.ref eMisfit)))
    (aNoWeb : PySem.W.nsIn K mainGlobals "NoWeb" = some (some (.ref eNoWeb)))
    (a_init : PySem.W.findIn K (.ref C) "__init__" = some (some (.ref f_init)))
    (i_init : PySem.W.isFn K (.ref f_init) = true)
    (l_init : K.lookup f_init = some ⟨oc_init, od_init, .func (PySem.W.fnOf "__init__" "Fraction.__init__" (defArgs s_init) (defBody s_init) (defScope s_init) (.ref T_init) kV_init dc_init pm_init an_init cd_init ct_init), sl_init⟩)
    (d_init : K.lookup T_init = some ⟨ocT_init, odT_init, .seq #[.int 1 tk_init_0] nT_init, slT_init⟩)
    (c_init : PySem.W.codeIn K cd_init "Fraction.__init__" = true)
    (k_init : PySem.W.keepIn K (.ref f_init) = true)
    (a_eq : PySem.W.findIn K (.ref C) "__eq__" = some (some (.ref f_eq)))
    (i_eq : PySem.W.isFn K (.ref f_eq) = true)
    (l_eq : K.lookup f_eq = some ⟨oc_eq, od_eq, .func (PySem.W.fnOf "__eq__" "Fraction.__eq__" (defArgs s_eq) (defBody s_eq) (defScope s_eq) .none kV_eq dc_eq pm_eq an_eq cd_eq ct_eq), sl_eq⟩)
    (c_eq : PySem.W.codeIn K cd_eq "Fraction.__eq__" = true)
    (k_eq : PySem.W.keepIn K (.ref f_eq) = true)
    (a_ne : PySem.W.findIn K (.ref C) "__ne__" = some (some (.ref f_ne)))
    (i_ne : PySem.W.isFn K (.ref f_ne) = true)
    (l_ne : K.lookup f_ne = some ⟨oc_ne, od_ne, .func (PySem.W.fnOf "__ne__" "Fraction.__ne__" (defArgs s_ne) (defBody s_ne) (defScope s_ne) .none kV_ne dc_ne pm_ne an_ne cd_ne ct_ne), sl_ne⟩)
    (c_ne : PySem.W.codeIn K cd_ne "Fraction.__ne__" = true)
    (k_ne : PySem.W.keepIn K (.ref f_ne) = true)
    (a_iBadShare : PySem.W.findIn K (.ref eBadShare) "__init__" = some (some (.ref f_iBadShare)))
    (i_iBadShare : PySem.W.isFn K (.ref f_iBadShare) = true)
    (l_iBadShare : K.lookup f_iBadShare = some ⟨oc_iBadShare, od_iBadShare, .func (PySem.W.fnOf "__init__" "BadShare.__init__" (defArgs s_iBadShare) (defBody s_iBadShare) (defScope s_iBadShare) .none kV_iBadShare dc_iBadShare pm_iBadShare an_iBadShare cd_iBadShare ct_iBadShare), sl_iBadShare⟩)
    (c_iBadShare : PySem.W.codeIn K cd_iBadShare "BadShare.__init__" = true)
    (k_iBadShare : PySem.W.keepIn K (.ref f_iBadShare) = true)
    (a_iBadTick : PySem.W.findIn K (.ref eBadTick) "__init__" = some (some (.ref f_iBadTick)))
    (i_iBadTick : PySem.W.isFn K (.ref f_iBadTick) = true)
    (l_iBadTick : K.lookup f_iBadTick = some ⟨oc_iBadTick, od_iBadTick, .func (PySem.W.fnOf "__init__" "BadTick.__init__" (defArgs s_iBadTick) (defBody s_iBadTick) (defScope s_iBadTick) .none kV_iBadTick dc_iBadTick pm_iBadTick an_iBadTick cd_iBadTick ct_iBadTick), sl_iBadTick⟩)
    (c_iBadTick : PySem.W.codeIn K cd_iBadTick "BadTick.__init__" = true)
    (k_iBadTick : PySem.W.keepIn K (.ref f_iBadTick) = true)
    (a_iBadRoom : PySem.W.findIn K (.ref eBadRoom) "__init__" = some (some (.ref f_iBadRoom)))
    (i_iBadRoom : PySem.W.isFn K (.ref f_iBadRoom) = true)
    (l_iBadRoom : K.lookup f_iBadRoom = some ⟨oc_iBadRoom, od_iBadRoom, .func (PySem.W.fnOf "__init__" "BadRoom.__init__" (defArgs s_iBadRoom) (defBody s_iBadRoom) (defScope s_iBadRoom) .none kV_iBadRoom dc_iBadRoom pm_iBadRoom an_iBadRoom cd_iBadRoom ct_iBadRoom), sl_iBadRoom⟩)
    (c_iBadRoom : PySem.W.codeIn K cd_iBadRoom "BadRoom.__init__" = true)
    (k_iBadRoom : PySem.W.keepIn K (.ref f_iBadRoom) = true)
    (a_iBadWeb : PySem.W.findIn K (.ref eBadWeb) "__init__" = some (some (.ref f_iBadWeb)))
    (i_iBadWeb : PySem.W.isFn K (.ref f_iBadWeb) = true)
    (l_iBadWeb : K.lookup f_iBadWeb = some ⟨oc_iBadWeb, od_iBadWeb, .func (PySem.W.fnOf "__init__" "BadWeb.__init__" (defArgs s_iBadWeb) (defBody s_iBadWeb) (defScope s_iBadWeb) .none kV_iBadWeb dc_iBadWeb pm_iBadWeb an_iBadWeb cd_iBadWeb ct_iBadWeb), sl_iBadWeb⟩)
    (c_iBadWeb : PySem.W.codeIn K cd_iBadWeb "BadWeb.__init__" = true)
    (k_iBadWeb : PySem.W.keepIn K (.ref f_iBadWeb) = true)
    (a_iBadLine : PySem.W.findIn K (.ref eBadLine) "__init__" = some (some (.ref f_iBadLine)))
    (i_iBadLine : PySem.W.isFn K (.ref f_iBadLine) = true)
    (l_iBadLine : K.lookup f_iBadLine = some ⟨oc_iBadLine, od_iBadLine, .func (PySem.W.fnOf "__init__" "BadLine.__init__" (defArgs s_iBadLine) (defBody s_iBadLine) (defScope s_iBadLine) .none kV_iBadLine dc_iBadLine pm_iBadLine an_iBadLine cd_iBadLine ct_iBadLine), sl_iBadLine⟩)
    (c_iBadLine : PySem.W.codeIn K cd_iBadLine "BadLine.__init__" = true)
    (k_iBadLine : PySem.W.keepIn K (.ref f_iBadLine) = true)
    (a_iBadForm : PySem.W.findIn K (.ref eBadForm) "__init__" = some (some (.ref f_iBadForm)))
    (i_iBadForm : PySem.W.isFn K (.ref f_iBadForm) = true)
    (l_iBadForm : K.lookup f_iBadForm = some ⟨oc_iBadForm, od_iBadForm, .func (PySem.W.fnOf "__init__" "BadForm.__init__" (defArgs s_iBadForm) (defBody s_iBadForm) (defScope s_iBadForm) .none kV_iBadForm dc_iBadForm pm_iBadForm an_iBadForm cd_iBadForm ct_iBadForm), sl_iBadForm⟩)
    (c_iBadForm : PySem.W.codeIn K cd_iBadForm "BadForm.__init__" = true)
    (k_iBadForm : PySem.W.keepIn K (.ref f_iBadForm) = true)
    (a_iBadText : PySem.W.findIn K (.ref eBadText) "__init__" = some (some (.ref f_iBadText)))
    (i_iBadText : PySem.W.isFn K (.ref f_iBadText) = true)
    (l_iBadText : K.lookup f_iBadText = some ⟨oc_iBadText, od_iBadText, .func (PySem.W.fnOf "__init__" "BadText.__init__" (defArgs s_iBadText) (defBody s_iBadText) (defScope s_iBadText) .none kV_iBadText dc_iBadText pm_iBadText an_iBadText cd_iBadText ct_iBadText), sl_iBadText⟩)
    (c_iBadText : PySem.W.codeIn K cd_iBadText "BadText.__init__" = true)
    (k_iBadText : PySem.W.keepIn K (.ref f_iBadText) = true)
    (a_iBadName : PySem.W.findIn K (.ref eBadName) "__init__" = some (some (.ref f_iBadName)))
    (i_iBadName : PySem.W.isFn K (.ref f_iBadName) = true)
    (l_iBadName : K.lookup f_iBadName = some ⟨oc_iBadName, od_iBadName, .func (PySem.W.fnOf "__init__" "BadName.__init__" (defArgs s_iBadName) (defBody s_iBadName) (defScope s_iBadName) .none kV_iBadName dc_iBadName pm_iBadName an_iBadName cd_iBadName ct_iBadName), sl_iBadName⟩)
    (c_iBadName : PySem.W.codeIn K cd_iBadName "BadName.__init__" = true)
    (k_iBadName : PySem.W.keepIn K (.ref f_iBadName) = true)
    (a_iTakenName : PySem.W.findIn K (.ref eTakenName) "__init__" = some (some (.ref f_iTakenName)))
    (i_iTakenName : PySem.W.isFn K (.ref f_iTakenName) = true)
    (l_iTakenName : K.lookup f_iTakenName = some ⟨oc_iTakenName, od_iTakenName, .func (PySem.W.fnOf "__init__" "TakenName.__init__" (defArgs s_iTakenName) (defBody s_iTakenName) (defScope s_iTakenName) .none kV_iTakenName dc_iTakenName pm_iTakenName an_iTakenName cd_iTakenName ct_iTakenName), sl_iTakenName⟩)
    (c_iTakenName : PySem.W.codeIn K cd_iTakenName "TakenName.__init__" = true)
    (k_iTakenName : PySem.W.keepIn K (.ref f_iTakenName) = true)
    (a_iUnknownName : PySem.W.findIn K (.ref eUnknownName) "__init__" = some (some (.ref f_iUnknownName)))
    (i_iUnknownName : PySem.W.isFn K (.ref f_iUnknownName) = true)
    (l_iUnknownName : K.lookup f_iUnknownName = some ⟨oc_iUnknownName, od_iUnknownName, .func (PySem.W.fnOf "__init__" "UnknownName.__init__" (defArgs s_iUnknownName) (defBody s_iUnknownName) (defScope s_iUnknownName) .none kV_iUnknownName dc_iUnknownName pm_iUnknownName an_iUnknownName cd_iUnknownName ct_iUnknownName), sl_iUnknownName⟩)
    (c_iUnknownName : PySem.W.codeIn K cd_iUnknownName "UnknownName.__init__" = true)
    (k_iUnknownName : PySem.W.keepIn K (.ref f_iUnknownName) = true)
    (a_iFullReader : PySem.W.findIn K (.ref eFullReader) "__init__" = some (some (.ref f_iFullReader)))
    (i_iFullReader : PySem.W.isFn K (.ref f_iFullReader) = true)
    (l_iFullReader : K.lookup f_iFullReader = some ⟨oc_iFullReader, od_iFullReader, .func (PySem.W.fnOf "__init__" "FullReader.__init__" (defArgs s_iFullReader) (defBody s_iFullReader) (defScope s_iFullReader) .none kV_iFullReader dc_iFullReader pm_iFullReader an_iFullReader cd_iFullReader ct_iFullReader), sl_iFullReader⟩)
    (c_iFullReader : PySem.W.codeIn K cd_iFullReader "FullReader.__init__" = true)
    (k_iFullReader : PySem.W.keepIn K (.ref f_iFullReader) = true)
    (a_iBarred : PySem.W.findIn K (.ref eBarred) "__init__" = some (some (.ref f_iBarred)))
    (i_iBarred : PySem.W.isFn K (.ref f_iBarred) = true)
    (l_iBarred : K.lookup f_iBarred = some ⟨oc_iBarred, od_iBarred, .func (PySem.W.fnOf "__init__" "Barred.__init__" (defArgs s_iBarred) (defBody s_iBarred) (defScope s_iBarred) .none kV_iBarred dc_iBarred pm_iBarred an_iBarred cd_iBarred ct_iBarred), sl_iBarred⟩)
    (c_iBarred : PySem.W.codeIn K cd_iBarred "Barred.__init__" = true)
    (k_iBarred : PySem.W.keepIn K (.ref f_iBarred) = true)
    (a_iOutOfRange : PySem.W.findIn K (.ref eOutOfRange) "__init__" = some (some (.ref f_iOutOfRange)))
    (i_iOutOfRange : PySem.W.isFn K (.ref f_iOutOfRange) = true)
    (l_iOutOfRange : K.lookup f_iOutOfRange = some ⟨oc_iOutOfRange, od_iOutOfRange, .func (PySem.W.fnOf "__init__" "OutOfRange.__init__" (defArgs s_iOutOfRange) (defBody s_iOutOfRange) (defScope s_iOutOfRange) .none kV_iOutOfRange dc_iOutOfRange pm_iOutOfRange an_iOutOfRange cd_iOutOfRange ct_iOutOfRange), sl_iOutOfRange⟩)
    (c_iOutOfRange : PySem.W.codeIn K cd_iOutOfRange "OutOfRange.__init__" = true)
    (k_iOutOfRange : PySem.W.keepIn K (.ref f_iOutOfRange) = true)
    (a_iMisfit : PySem.W.findIn K (.ref eMisfit) "__init__" = some (some (.ref f_iMisfit)))
    (i_iMisfit : PySem.W.isFn K (.ref f_iMisfit) = true)
    (l_iMisfit : K.lookup f_iMisfit = some ⟨oc_iMisfit, od_iMisfit, .func (PySem.W.fnOf "__init__" "Misfit.__init__" (defArgs s_iMisfit) (defBody s_iMisfit) (defScope s_iMisfit) .none kV_iMisfit dc_iMisfit pm_iMisfit an_iMisfit cd_iMisfit ct_iMisfit), sl_iMisfit⟩)
    (c_iMisfit : PySem.W.codeIn K cd_iMisfit "Misfit.__init__" = true)
    (k_iMisfit : PySem.W.keepIn K (.ref f_iMisfit) = true)
    (a_iNoWeb : PySem.W.findIn K (.ref eNoWeb) "__init__" = some (some (.ref f_iNoWeb)))
    (i_iNoWeb : PySem.W.isFn K (.ref f_iNoWeb) = true)
    (l_iNoWeb : K.lookup f_iNoWeb = some ⟨oc_iNoWeb, od_iNoWeb, .func (PySem.W.fnOf "__init__" "NoWeb.__init__" (defArgs s_iNoWeb) (defBody s_iNoWeb) (defScope s_iNoWeb) .none kV_iNoWeb dc_iNoWeb pm_iNoWeb an_iNoWeb cd_iNoWeb ct_iNoWeb), sl_iNoWeb⟩)
    (c_iNoWeb : PySem.W.codeIn K cd_iNoWeb "NoWeb.__init__" = true)
    (k_iNoWeb : PySem.W.keepIn K (.ref f_iNoWeb) = true)
    (a_asf : PySem.W.nsIn K mainGlobals "as_fraction" = some (some (.ref f_asf)))
    (l_asf : K.lookup f_asf = some ⟨oc_asf, od_asf, .func (PySem.W.fnOf "as_fraction" "as_fraction" (defArgs s_asf) (defBody s_asf) (defScope s_asf) .none kV_asf dc_asf pm_asf an_asf cd_asf ct_asf), sl_asf⟩)
    (c_asf : PySem.W.codeIn K cd_asf "as_fraction" = true)
    (k_asf : PySem.W.keepIn K (.ref f_asf) = true)
    (a_isn : PySem.W.nsIn K mainGlobals "_is_number" = some (some (.ref f_isn)))
    (l_isn : K.lookup f_isn = some ⟨oc_isn, od_isn, .func (PySem.W.fnOf "_is_number" "_is_number" (defArgs s_isn) (defBody s_isn) (defScope s_isn) .none kV_isn dc_isn pm_isn an_isn cd_isn ct_isn), sl_isn⟩)
    (c_isn : PySem.W.codeIn K cd_isn "_is_number" = true)
    (k_isn : PySem.W.keepIn K (.ref f_isn) = true)
    (a_ord : PySem.W.nsIn K mainGlobals "_order" = some (some (.ref f_ord)))
    (l_ord : K.lookup f_ord = some ⟨oc_ord, od_ord, .func (PySem.W.fnOf "_order" "_order" (defArgs s_ord) (defBody s_ord) (defScope s_ord) .none kV_ord dc_ord pm_ord an_ord cd_ord ct_ord), sl_ord⟩)
    (c_ord : PySem.W.codeIn K cd_ord "_order" = true)
    (k_ord : PySem.W.keepIn K (.ref f_ord) = true)
    (a_cell : PySem.W.nsIn K mainGlobals "_law_cell" = some (some (.ref f_cell)))
    (l_cell : K.lookup f_cell = some ⟨oc_cell, od_cell, .func (PySem.W.fnOf "_law_cell" "_law_cell" (defArgs s_cell) (defBody s_cell) (defScope s_cell) .none kV_cell dc_cell pm_cell an_cell cd_cell ct_cell), sl_cell⟩)
    (c_cell : PySem.W.codeIn K cd_cell "_law_cell" = true)
    (k_cell : PySem.W.keepIn K (.ref f_cell) = true)
    (a_cls : PySem.W.nsIn K mainGlobals "_law_classes" = some (some (.ref f_cls)))
    (l_cls : K.lookup f_cls = some ⟨oc_cls, od_cls, .func (PySem.W.fnOf "_law_classes" "_law_classes" (defArgs s_cls) (defBody s_cls) (defScope s_cls) .none kV_cls dc_cls pm_cls an_cls cd_cls ct_cls), sl_cls⟩)
    (c_cls : PySem.W.codeIn K cd_cls "_law_classes" = true)
    (k_cls : PySem.W.keepIn K (.ref f_cls) = true)
    (a_plain : PySem.W.nsIn K mainGlobals "_law_plain" = some (some (.ref f_plain)))
    (l_plain : K.lookup f_plain = some ⟨oc_plain, od_plain, .func (PySem.W.fnOf "_law_plain" "_law_plain" (defArgs s_plain) (defBody s_plain) (defScope s_plain) .none kV_plain dc_plain pm_plain an_plain cd_plain ct_plain), sl_plain⟩)
    (c_plain : PySem.W.codeIn K cd_plain "_law_plain" = true)
    (k_plain : PySem.W.keepIn K (.ref f_plain) = true)
    (a_without : PySem.W.nsIn K mainGlobals "_law_without" = some (some (.ref f_without)))
    (l_without : K.lookup f_without = some ⟨oc_without, od_without, .func (PySem.W.fnOf "_law_without" "_law_without" (defArgs s_without) (defBody s_without) (defScope s_without) .none kV_without dc_without pm_without an_without cd_without ct_without), sl_without⟩)
    (c_without : PySem.W.codeIn K cd_without "_law_without" = true)
    (k_without : PySem.W.keepIn K (.ref f_without) = true)
    (a_numbers : PySem.W.nsIn K mainGlobals "_law_numbers" = some (some (.ref f_numbers)))
    (l_numbers : K.lookup f_numbers = some ⟨oc_numbers, od_numbers, .func (PySem.W.fnOf "_law_numbers" "_law_numbers" (defArgs s_numbers) (defBody s_numbers) (defScope s_numbers) .none kV_numbers dc_numbers pm_numbers an_numbers cd_numbers ct_numbers), sl_numbers⟩)
    (c_numbers : PySem.W.codeIn K cd_numbers "_law_numbers" = true)
    (k_numbers : PySem.W.keepIn K (.ref f_numbers) = true)
    (a_strings : PySem.W.nsIn K mainGlobals "_law_strings" = some (some (.ref f_strings)))
    (l_strings : K.lookup f_strings = some ⟨oc_strings, od_strings, .func (PySem.W.fnOf "_law_strings" "_law_strings" (defArgs s_strings) (defBody s_strings) (defScope s_strings) .none kV_strings dc_strings pm_strings an_strings cd_strings ct_strings), sl_strings⟩)
    (c_strings : PySem.W.codeIn K cd_strings "_law_strings" = true)
    (k_strings : PySem.W.keepIn K (.ref f_strings) = true)
    (a_pairs : PySem.W.nsIn K mainGlobals "_law_pairs" = some (some (.ref f_pairs)))
    (l_pairs : K.lookup f_pairs = some ⟨oc_pairs, od_pairs, .func (PySem.W.fnOf "_law_pairs" "_law_pairs" (defArgs s_pairs) (defBody s_pairs) (defScope s_pairs) .none kV_pairs dc_pairs pm_pairs an_pairs cd_pairs ct_pairs), sl_pairs⟩)
    (c_pairs : PySem.W.codeIn K cd_pairs "_law_pairs" = true)
    (k_pairs : PySem.W.keepIn K (.ref f_pairs) = true)
    (a_raised : PySem.W.nsIn K mainGlobals "_law_raised" = some (some (.ref f_raised)))
    (l_raised : K.lookup f_raised = some ⟨oc_raised, od_raised, .func (PySem.W.fnOf "_law_raised" "_law_raised" (defArgs s_raised) (defBody s_raised) (defScope s_raised) .none kV_raised dc_raised pm_raised an_raised cd_raised ct_raised), sl_raised⟩)
    (c_raised : PySem.W.codeIn K cd_raised "_law_raised" = true)
    (k_raised : PySem.W.keepIn K (.ref f_raised) = true)
    (a_law : PySem.W.nsIn K mainGlobals "law" = some (some (.ref f_law)))
    (l_law : K.lookup f_law = some ⟨oc_law, od_law, .func (PySem.W.fnOf "law" "law" (defArgs s_law) (defBody s_law) (defScope s_law) .none kV_law dc_law pm_law an_law cd_law ct_law), sl_law⟩)
    (c_law : PySem.W.codeIn K cd_law "law" = true)
    (k_law : PySem.W.keepIn K (.ref f_law) = true)
    (pg : PySem.W.plainGet K C Str.empty = true)
    (hd : PySem.W.hasDictIn K C = true)
    (po : PySem.W.plainOver K C = true)
    (sa : PySem.W.findIn K (.ref C) "__setattr__" = some (some (.builtin "object.__setattr__")))
    (mk : PySem.W.makesIn K C = true)
    (kc : PySem.W.keepIn K (.ref C) = true)
    (nT : PySem.W.findIn K (.ref C) "top" = some none)
    (nB : PySem.W.findIn K (.ref C) "bottom" = some none)
    (ca : PySem.W.findIn K (.ref C) "__class__" = some (some (.builtin "object.__class__")))
    (cn : PySem.W.specialIn K (.builtin "object.__class__") "__get__" = some (some (.builtin "getset_descriptor.__get__")))
    (ct : PySem.W.takesIn K (.builtin "object.__class__") = some true)
    (cm : PySem.W.mroIn K C (.type "object") = some true)
    (ic : PySem.W.isClsIn K C = true)
    (tyC : PySem.W.typeIn K (.ref C) = some (.type "type"))
    (sub1 : PySem.W.subIn K (.type "int") (.ref C) = some false)
    (sub2 : PySem.W.subIn K (.ref C) (.type "int") = some false)
    (gg : PySem.W.nsIn K mainGlobals "gcd" = some (some (.builtin "math.gcd")))
    (z_isinstance : PySem.W.nsIn K mainGlobals "isinstance" = some none)
    (z_int : PySem.W.nsIn K mainGlobals "int" = some none)
    (z_len : PySem.W.nsIn K mainGlobals "len" = some none)
    (z_ValueError : PySem.W.nsIn K mainGlobals "ValueError" = some none)
    (ecBadFraction : ecB K eBadFraction TE = true)
    (saBadFraction : PySem.W.findIn K (.ref eBadFraction) "__setattr__" = some (some (.builtin "object.__setattr__")))
    (gaBadFraction : PySem.W.findIn K (.ref eBadFraction) "__getattribute__" = some (some (.builtin "BaseException.__getattribute__")))
    (ggBadFraction : PySem.W.findIn K (.ref eBadFraction) "__getattr__" = some none)
    (caBadFraction : PySem.W.findIn K (.ref eBadFraction) "__class__" = some (some (.builtin "object.__class__")))
    (kpBadFraction : PySem.W.keepIn K (.ref eBadFraction) = true)
    (BadFraction_exc : PySem.W.excIn K eBadFraction [.type "ValueError", .type "Exception", .type "BaseException", .type "object"] "ValueError.__new__" = true)
    (ecBadPolynomial : ecB K eBadPolynomial TE = true)
    (saBadPolynomial : PySem.W.findIn K (.ref eBadPolynomial) "__setattr__" = some (some (.builtin "object.__setattr__")))
    (gaBadPolynomial : PySem.W.findIn K (.ref eBadPolynomial) "__getattribute__" = some (some (.builtin "BaseException.__getattribute__")))
    (ggBadPolynomial : PySem.W.findIn K (.ref eBadPolynomial) "__getattr__" = some none)
    (caBadPolynomial : PySem.W.findIn K (.ref eBadPolynomial) "__class__" = some (some (.builtin "object.__class__")))
    (kpBadPolynomial : PySem.W.keepIn K (.ref eBadPolynomial) = true)
    (BadPolynomial_exc : PySem.W.excIn K eBadPolynomial [.type "ValueError", .type "Exception", .type "BaseException", .type "object"] "ValueError.__new__" = true)
    (ecBadReadings : ecB K eBadReadings TE = true)
    (saBadReadings : PySem.W.findIn K (.ref eBadReadings) "__setattr__" = some (some (.builtin "object.__setattr__")))
    (gaBadReadings : PySem.W.findIn K (.ref eBadReadings) "__getattribute__" = some (some (.builtin "BaseException.__getattribute__")))
    (ggBadReadings : PySem.W.findIn K (.ref eBadReadings) "__getattr__" = some none)
    (caBadReadings : PySem.W.findIn K (.ref eBadReadings) "__class__" = some (some (.builtin "object.__class__")))
    (kpBadReadings : PySem.W.keepIn K (.ref eBadReadings) = true)
    (BadReadings_exc : PySem.W.excIn K eBadReadings [.type "ValueError", .type "Exception", .type "BaseException", .type "object"] "ValueError.__new__" = true)
    (ecNothingLeft : ecB K eNothingLeft TE = true)
    (saNothingLeft : PySem.W.findIn K (.ref eNothingLeft) "__setattr__" = some (some (.builtin "object.__setattr__")))
    (gaNothingLeft : PySem.W.findIn K (.ref eNothingLeft) "__getattribute__" = some (some (.builtin "BaseException.__getattribute__")))
    (ggNothingLeft : PySem.W.findIn K (.ref eNothingLeft) "__getattr__" = some none)
    (caNothingLeft : PySem.W.findIn K (.ref eNothingLeft) "__class__" = some (some (.builtin "object.__class__")))
    (kpNothingLeft : PySem.W.keepIn K (.ref eNothingLeft) = true)
    (NothingLeft_exc : PySem.W.excIn K eNothingLeft [.type "ValueError", .type "Exception", .type "BaseException", .type "object"] "ValueError.__new__" = true)
    (ecBadShare : ecB K eBadShare TE = true)
    (saBadShare : PySem.W.findIn K (.ref eBadShare) "__setattr__" = some (some (.builtin "object.__setattr__")))
    (gaBadShare : PySem.W.findIn K (.ref eBadShare) "__getattribute__" = some (some (.builtin "BaseException.__getattribute__")))
    (ggBadShare : PySem.W.findIn K (.ref eBadShare) "__getattr__" = some none)
    (caBadShare : PySem.W.findIn K (.ref eBadShare) "__class__" = some (some (.builtin "object.__class__")))
    (kpBadShare : PySem.W.keepIn K (.ref eBadShare) = true)
    (zBadShare_share : PySem.W.findIn K (.ref eBadShare) "share" = some none)
    (ecBadTick : ecB K eBadTick TE = true)
    (saBadTick : PySem.W.findIn K (.ref eBadTick) "__setattr__" = some (some (.builtin "object.__setattr__")))
    (gaBadTick : PySem.W.findIn K (.ref eBadTick) "__getattribute__" = some (some (.builtin "BaseException.__getattribute__")))
    (ggBadTick : PySem.W.findIn K (.ref eBadTick) "__getattr__" = some none)
    (caBadTick : PySem.W.findIn K (.ref eBadTick) "__class__" = some (some (.builtin "object.__class__")))
    (kpBadTick : PySem.W.keepIn K (.ref eBadTick) = true)
    (zBadTick_tick : PySem.W.findIn K (.ref eBadTick) "tick" = some none)
    (ecBadRoom : ecB K eBadRoom TE = true)
    (saBadRoom : PySem.W.findIn K (.ref eBadRoom) "__setattr__" = some (some (.builtin "object.__setattr__")))
    (gaBadRoom : PySem.W.findIn K (.ref eBadRoom) "__getattribute__" = some (some (.builtin "BaseException.__getattribute__")))
    (ggBadRoom : PySem.W.findIn K (.ref eBadRoom) "__getattr__" = some none)
    (caBadRoom : PySem.W.findIn K (.ref eBadRoom) "__class__" = some (some (.builtin "object.__class__")))
    (kpBadRoom : PySem.W.keepIn K (.ref eBadRoom) = true)
    (zBadRoom_room : PySem.W.findIn K (.ref eBadRoom) "room" = some none)
    (ecBadWeb : ecB K eBadWeb TE = true)
    (saBadWeb : PySem.W.findIn K (.ref eBadWeb) "__setattr__" = some (some (.builtin "object.__setattr__")))
    (gaBadWeb : PySem.W.findIn K (.ref eBadWeb) "__getattribute__" = some (some (.builtin "BaseException.__getattribute__")))
    (ggBadWeb : PySem.W.findIn K (.ref eBadWeb) "__getattr__" = some none)
    (caBadWeb : PySem.W.findIn K (.ref eBadWeb) "__class__" = some (some (.builtin "object.__class__")))
    (kpBadWeb : PySem.W.keepIn K (.ref eBadWeb) = true)
    (zBadWeb_reason : PySem.W.findIn K (.ref eBadWeb) "reason" = some none)
    (ecBadLine : ecB K eBadLine TE = true)
    (saBadLine : PySem.W.findIn K (.ref eBadLine) "__setattr__" = some (some (.builtin "object.__setattr__")))
    (gaBadLine : PySem.W.findIn K (.ref eBadLine) "__getattribute__" = some (some (.builtin "BaseException.__getattribute__")))
    (ggBadLine : PySem.W.findIn K (.ref eBadLine) "__getattr__" = some none)
    (caBadLine : PySem.W.findIn K (.ref eBadLine) "__class__" = some (some (.builtin "object.__class__")))
    (kpBadLine : PySem.W.keepIn K (.ref eBadLine) = true)
    (zBadLine_place : PySem.W.findIn K (.ref eBadLine) "place" = some none)
    (ecBadForm : ecB K eBadForm TE = true)
    (saBadForm : PySem.W.findIn K (.ref eBadForm) "__setattr__" = some (some (.builtin "object.__setattr__")))
    (gaBadForm : PySem.W.findIn K (.ref eBadForm) "__getattribute__" = some (some (.builtin "BaseException.__getattribute__")))
    (ggBadForm : PySem.W.findIn K (.ref eBadForm) "__getattr__" = some none)
    (caBadForm : PySem.W.findIn K (.ref eBadForm) "__class__" = some (some (.builtin "object.__class__")))
    (kpBadForm : PySem.W.keepIn K (.ref eBadForm) = true)
    (zBadForm_form : PySem.W.findIn K (.ref eBadForm) "form" = some none)
    (ecBadText : ecB K eBadText TE = true)
    (saBadText : PySem.W.findIn K (.ref eBadText) "__setattr__" = some (some (.builtin "object.__setattr__")))
    (gaBadText : PySem.W.findIn K (.ref eBadText) "__getattribute__" = some (some (.builtin "BaseException.__getattribute__")))
    (ggBadText : PySem.W.findIn K (.ref eBadText) "__getattr__" = some none)
    (caBadText : PySem.W.findIn K (.ref eBadText) "__class__" = some (some (.builtin "object.__class__")))
    (kpBadText : PySem.W.keepIn K (.ref eBadText) = true)
    (zBadText_line : PySem.W.findIn K (.ref eBadText) "line" = some none)
    (zBadText_column : PySem.W.findIn K (.ref eBadText) "column" = some none)
    (ecBadName : ecB K eBadName TE = true)
    (saBadName : PySem.W.findIn K (.ref eBadName) "__setattr__" = some (some (.builtin "object.__setattr__")))
    (gaBadName : PySem.W.findIn K (.ref eBadName) "__getattribute__" = some (some (.builtin "BaseException.__getattribute__")))
    (ggBadName : PySem.W.findIn K (.ref eBadName) "__getattr__" = some none)
    (caBadName : PySem.W.findIn K (.ref eBadName) "__class__" = some (some (.builtin "object.__class__")))
    (kpBadName : PySem.W.keepIn K (.ref eBadName) = true)
    (zBadName_name : PySem.W.findIn K (.ref eBadName) "name" = some none)
    (ecTakenName : ecB K eTakenName TE = true)
    (saTakenName : PySem.W.findIn K (.ref eTakenName) "__setattr__" = some (some (.builtin "object.__setattr__")))
    (gaTakenName : PySem.W.findIn K (.ref eTakenName) "__getattribute__" = some (some (.builtin "BaseException.__getattribute__")))
    (ggTakenName : PySem.W.findIn K (.ref eTakenName) "__getattr__" = some none)
    (caTakenName : PySem.W.findIn K (.ref eTakenName) "__class__" = some (some (.builtin "object.__class__")))
    (kpTakenName : PySem.W.keepIn K (.ref eTakenName) = true)
    (zTakenName_name : PySem.W.findIn K (.ref eTakenName) "name" = some none)
    (ecUnknownName : ecB K eUnknownName TE = true)
    (saUnknownName : PySem.W.findIn K (.ref eUnknownName) "__setattr__" = some (some (.builtin "object.__setattr__")))
    (gaUnknownName : PySem.W.findIn K (.ref eUnknownName) "__getattribute__" = some (some (.builtin "BaseException.__getattribute__")))
    (ggUnknownName : PySem.W.findIn K (.ref eUnknownName) "__getattr__" = some none)
    (caUnknownName : PySem.W.findIn K (.ref eUnknownName) "__class__" = some (some (.builtin "object.__class__")))
    (kpUnknownName : PySem.W.keepIn K (.ref eUnknownName) = true)
    (zUnknownName_name : PySem.W.findIn K (.ref eUnknownName) "name" = some none)
    (ecFullReader : ecB K eFullReader TE = true)
    (saFullReader : PySem.W.findIn K (.ref eFullReader) "__setattr__" = some (some (.builtin "object.__setattr__")))
    (gaFullReader : PySem.W.findIn K (.ref eFullReader) "__getattribute__" = some (some (.builtin "BaseException.__getattribute__")))
    (ggFullReader : PySem.W.findIn K (.ref eFullReader) "__getattr__" = some none)
    (caFullReader : PySem.W.findIn K (.ref eFullReader) "__class__" = some (some (.builtin "object.__class__")))
    (kpFullReader : PySem.W.keepIn K (.ref eFullReader) = true)
    (zFullReader_most : PySem.W.findIn K (.ref eFullReader) "most" = some none)
    (ecBarred : ecB K eBarred TE = true)
    (saBarred : PySem.W.findIn K (.ref eBarred) "__setattr__" = some (some (.builtin "object.__setattr__")))
    (gaBarred : PySem.W.findIn K (.ref eBarred) "__getattribute__" = some (some (.builtin "BaseException.__getattribute__")))
    (ggBarred : PySem.W.findIn K (.ref eBarred) "__getattr__" = some none)
    (caBarred : PySem.W.findIn K (.ref eBarred) "__class__" = some (some (.builtin "object.__class__")))
    (kpBarred : PySem.W.keepIn K (.ref eBarred) = true)
    (zBarred_tick : PySem.W.findIn K (.ref eBarred) "tick" = some none)
    (zBarred_weights : PySem.W.findIn K (.ref eBarred) "weights" = some none)
    (ecOutOfRange : ecB K eOutOfRange TE = true)
    (saOutOfRange : PySem.W.findIn K (.ref eOutOfRange) "__setattr__" = some (some (.builtin "object.__setattr__")))
    (gaOutOfRange : PySem.W.findIn K (.ref eOutOfRange) "__getattribute__" = some (some (.builtin "BaseException.__getattribute__")))
    (ggOutOfRange : PySem.W.findIn K (.ref eOutOfRange) "__getattr__" = some none)
    (caOutOfRange : PySem.W.findIn K (.ref eOutOfRange) "__class__" = some (some (.builtin "object.__class__")))
    (kpOutOfRange : PySem.W.keepIn K (.ref eOutOfRange) = true)
    (zOutOfRange_least : PySem.W.findIn K (.ref eOutOfRange) "least" = some none)
    (zOutOfRange_greatest : PySem.W.findIn K (.ref eOutOfRange) "greatest" = some none)
    (ecMisfit : ecB K eMisfit TE = true)
    (saMisfit : PySem.W.findIn K (.ref eMisfit) "__setattr__" = some (some (.builtin "object.__setattr__")))
    (gaMisfit : PySem.W.findIn K (.ref eMisfit) "__getattribute__" = some (some (.builtin "BaseException.__getattribute__")))
    (ggMisfit : PySem.W.findIn K (.ref eMisfit) "__getattr__" = some none)
    (caMisfit : PySem.W.findIn K (.ref eMisfit) "__class__" = some (some (.builtin "object.__class__")))
    (kpMisfit : PySem.W.keepIn K (.ref eMisfit) = true)
    (zMisfit_tick : PySem.W.findIn K (.ref eMisfit) "tick" = some none)
    (ecNoWeb : ecB K eNoWeb TE = true)
    (saNoWeb : PySem.W.findIn K (.ref eNoWeb) "__setattr__" = some (some (.builtin "object.__setattr__")))
    (gaNoWeb : PySem.W.findIn K (.ref eNoWeb) "__getattribute__" = some (some (.builtin "BaseException.__getattribute__")))
    (ggNoWeb : PySem.W.findIn K (.ref eNoWeb) "__getattr__" = some none)
    (caNoWeb : PySem.W.findIn K (.ref eNoWeb) "__class__" = some (some (.builtin "object.__class__")))
    (kpNoWeb : PySem.W.keepIn K (.ref eNoWeb) = true)
    (zNoWeb_tick : PySem.W.findIn K (.ref eNoWeb) "tick" = some none)
    (nd : (TE :: [eBadFraction, eBadPolynomial, eBadReadings, eNothingLeft, eBadShare, eBadTick, eBadRoom, eBadWeb, eBadLine, eBadForm, eBadText, eBadName, eTakenName, eUnknownName, eFullReader, eBarred, eOutOfRange, eMisfit, eNoWeb]).Nodup)
    (icT : PySem.W.isClsIn K TE = true)
    (tyT : PySem.W.typeIn K (.ref TE) = some (.type "type"))
    (beT : PySem.W.subIn K (.ref TE) (.type "BaseException") = some true)
    (hdT : PySem.W.hasDictIn K TE = true)
    : ∃ fd : FuncData, (∀ (s : Shared) (v : Value), BindsTo s fd ⟨[v], []⟩ [("_law_script", v)]) ∧ ∀ base : Heap, K.In base → base.Ns mainGlobals mg → FnOk l.prog w K mg base CX0 8 fa fd ["_law_script"] (spD K 1 R_law) := by
  have e := hfa.symm.trans (PySem.W.mg_of X G a_law)
  cases e
  have F_init : FunD K "__init__" "Fraction.__init__" (defArgs s_init) (defBody s_init) (defScope s_init) [V.int 1] [] f_init _ := ⟨⟨_, _, _, _, _, _, _, _, _, _, rfl, l_init, c_init, .inr ⟨(by simp), _, _, [.int 1 tk_init_0], _, rfl, d_init, rfl, (.cons ⟨_, rfl⟩ .nil)⟩, .inl rfl⟩, k_init⟩
  obtain ⟨du_init, hdu_init, b1_init⟩ := F_init.binds1 (ps := ["self", "top", "bottom"]) 2 0 (by simp) rfl fun _ _ _ _ _ _ _ us its hl hi => match us, its, hl, hi with | [_, _], [_], _, _ => ⟨_, rfl, rfl⟩
  obtain ⟨dz_init, hdz_init, b_init⟩ := F_init.binds1 (ps := ["self", "top", "bottom"]) 3 1 (by simp) rfl fun _ _ _ _ _ _ _ us its hl hi => match us, its, hl, hi with | [_, _, _], [_], _, _ => ⟨_, rfl, rfl⟩
  cases hdz_init
  have F_eq := fun_mk (st := s_eq) l_eq c_eq k_eq
  have b_eq := F_eq.binds (ps := ["self", "other"]) fun _ _ _ _ _ _ us hl => match us, hl with | [_, _], _ => rfl
  have F_ne := fun_mk (st := s_ne) l_ne c_ne k_ne
  have b_ne := F_ne.binds (ps := ["self", "other"]) fun _ _ _ _ _ _ us hl => match us, hl with | [_, _], _ => rfl
  have F_iBadShare := fun_mk (st := s_iBadShare) l_iBadShare c_iBadShare k_iBadShare
  have b_iBadShare := F_iBadShare.binds (ps := ["self", "share"]) fun _ _ _ _ _ _ us hl => match us, hl with | [_, _], _ => rfl
  have F_iBadTick := fun_mk (st := s_iBadTick) l_iBadTick c_iBadTick k_iBadTick
  have b_iBadTick := F_iBadTick.binds (ps := ["self", "tick"]) fun _ _ _ _ _ _ us hl => match us, hl with | [_, _], _ => rfl
  have F_iBadRoom := fun_mk (st := s_iBadRoom) l_iBadRoom c_iBadRoom k_iBadRoom
  have b_iBadRoom := F_iBadRoom.binds (ps := ["self", "room"]) fun _ _ _ _ _ _ us hl => match us, hl with | [_, _], _ => rfl
  have F_iBadWeb := fun_mk (st := s_iBadWeb) l_iBadWeb c_iBadWeb k_iBadWeb
  have b_iBadWeb := F_iBadWeb.binds (ps := ["self", "reason"]) fun _ _ _ _ _ _ us hl => match us, hl with | [_, _], _ => rfl
  have F_iBadLine := fun_mk (st := s_iBadLine) l_iBadLine c_iBadLine k_iBadLine
  have b_iBadLine := F_iBadLine.binds (ps := ["self", "place"]) fun _ _ _ _ _ _ us hl => match us, hl with | [_, _], _ => rfl
  have F_iBadForm := fun_mk (st := s_iBadForm) l_iBadForm c_iBadForm k_iBadForm
  have b_iBadForm := F_iBadForm.binds (ps := ["self", "form"]) fun _ _ _ _ _ _ us hl => match us, hl with | [_, _], _ => rfl
  have F_iBadText := fun_mk (st := s_iBadText) l_iBadText c_iBadText k_iBadText
  have b_iBadText := F_iBadText.binds (ps := ["self", "line", "column"]) fun _ _ _ _ _ _ us hl => match us, hl with | [_, _, _], _ => rfl
  have F_iBadName := fun_mk (st := s_iBadName) l_iBadName c_iBadName k_iBadName
  have b_iBadName := F_iBadName.binds (ps := ["self", "name"]) fun _ _ _ _ _ _ us hl => match us, hl with | [_, _], _ => rfl
  have F_iTakenName := fun_mk (st := s_iTakenName) l_iTakenName c_iTakenName k_iTakenName
  have b_iTakenName := F_iTakenName.binds (ps := ["self", "name"]) fun _ _ _ _ _ _ us hl => match us, hl with | [_, _], _ => rfl
  have F_iUnknownName := fun_mk (st := s_iUnknownName) l_iUnknownName c_iUnknownName k_iUnknownName
  have b_iUnknownName := F_iUnknownName.binds (ps := ["self", "name"]) fun _ _ _ _ _ _ us hl => match us, hl with | [_, _], _ => rfl
  have F_iFullReader := fun_mk (st := s_iFullReader) l_iFullReader c_iFullReader k_iFullReader
  have b_iFullReader := F_iFullReader.binds (ps := ["self", "most"]) fun _ _ _ _ _ _ us hl => match us, hl with | [_, _], _ => rfl
  have F_iBarred := fun_mk (st := s_iBarred) l_iBarred c_iBarred k_iBarred
  have b_iBarred := F_iBarred.binds (ps := ["self", "tick", "weights"]) fun _ _ _ _ _ _ us hl => match us, hl with | [_, _, _], _ => rfl
  have F_iOutOfRange := fun_mk (st := s_iOutOfRange) l_iOutOfRange c_iOutOfRange k_iOutOfRange
  have b_iOutOfRange := F_iOutOfRange.binds (ps := ["self", "least", "greatest"]) fun _ _ _ _ _ _ us hl => match us, hl with | [_, _, _], _ => rfl
  have F_iMisfit := fun_mk (st := s_iMisfit) l_iMisfit c_iMisfit k_iMisfit
  have b_iMisfit := F_iMisfit.binds (ps := ["self", "tick"]) fun _ _ _ _ _ _ us hl => match us, hl with | [_, _], _ => rfl
  have F_iNoWeb := fun_mk (st := s_iNoWeb) l_iNoWeb c_iNoWeb k_iNoWeb
  have b_iNoWeb := F_iNoWeb.binds (ps := ["self", "tick"]) fun _ _ _ _ _ _ us hl => match us, hl with | [_, _], _ => rfl
  have F_asf := fun_mk (st := s_asf) l_asf c_asf k_asf
  have b_asf := F_asf.binds (ps := ["number"]) fun _ _ _ _ _ _ us hl => match us, hl with | [_], _ => rfl
  have m_asf := PySem.W.mg_of X G a_asf
  have F_isn := fun_mk (st := s_isn) l_isn c_isn k_isn
  have b_isn := F_isn.binds (ps := ["thing"]) fun _ _ _ _ _ _ us hl => match us, hl with | [_], _ => rfl
  have m_isn := PySem.W.mg_of X G a_isn
  have F_ord := fun_mk (st := s_ord) l_ord c_ord k_ord
  have b_ord := F_ord.binds (ps := ["fraction", "number"]) fun _ _ _ _ _ _ us hl => match us, hl with | [_, _], _ => rfl
  have m_ord := PySem.W.mg_of X G a_ord
  have F_cell := fun_mk (st := s_cell) l_cell c_cell k_cell
  have b_cell := F_cell.binds (ps := ["_law_script", "_law_k"]) fun _ _ _ _ _ _ us hl => match us, hl with | [_, _], _ => rfl
  have m_cell := PySem.W.mg_of X G a_cell
  have F_cls := fun_mk (st := s_cls) l_cls c_cls k_cls
  have b_cls := F_cls.binds (ps := ["_law_e"]) fun _ _ _ _ _ _ us hl => match us, hl with | [_], _ => rfl
  have m_cls := PySem.W.mg_of X G a_cls
  have F_plain := fun_mk (st := s_plain) l_plain c_plain k_plain
  have b_plain := F_plain.binds (ps := ["_law_e"]) fun _ _ _ _ _ _ us hl => match us, hl with | [_], _ => rfl
  have m_plain := PySem.W.mg_of X G a_plain
  have F_without := fun_mk (st := s_without) l_without c_without k_without
  have b_without := F_without.binds (ps := ["_law_number"]) fun _ _ _ _ _ _ us hl => match us, hl with | [_], _ => rfl
  have m_without := PySem.W.mg_of X G a_without
  have F_numbers := fun_mk (st := s_numbers) l_numbers c_numbers k_numbers
  have b_numbers := F_numbers.binds (ps := ["_law_first", "_law_second"]) fun _ _ _ _ _ _ us hl => match us, hl with | [_, _], _ => rfl
  have m_numbers := PySem.W.mg_of X G a_numbers
  have F_strings := fun_mk (st := s_strings) l_strings c_strings k_strings
  have b_strings := F_strings.binds (ps := ["_law_first", "_law_second"]) fun _ _ _ _ _ _ us hl => match us, hl with | [_, _], _ => rfl
  have m_strings := PySem.W.mg_of X G a_strings
  have F_pairs := fun_mk (st := s_pairs) l_pairs c_pairs k_pairs
  have b_pairs := F_pairs.binds (ps := ["_law_number", "_law_first", "_law_second"]) fun _ _ _ _ _ _ us hl => match us, hl with | [_, _, _], _ => rfl
  have m_pairs := PySem.W.mg_of X G a_pairs
  have F_raised := fun_mk (st := s_raised) l_raised c_raised k_raised
  have b_raised := F_raised.binds (ps := ["_law_number"]) fun _ _ _ _ _ _ us hl => match us, hl with | [_], _ => rfl
  have m_raised := PySem.W.mg_of X G a_raised
  have F_law := fun_mk (st := s_law) l_law c_law k_law
  have T : FrTxt K mg C := ⟨⟨pg, hd, po, sa⟩, nT, nB, PySem.W.mg_of X G aC, ca, cn, ct, cm, kit_self, kit_sub ic tyC sub1 (ty_ne _ _), sub1, sub2, PySem.W.mg_none_of X G z_isinstance, PySem.W.mg_none_of X G z_int, PySem.W.mg_of X G gg⟩
  have M : Mk K C f_init := ⟨mk, a_init, i_init, kc⟩
  have TBadFraction : EcT K mg "BadFraction" eBadFraction TE := ⟨PySem.W.mg_of X G aBadFraction, ecBadFraction, saBadFraction, gaBadFraction, ggBadFraction, caBadFraction, cn, ct, kpBadFraction⟩
  have TBadPolynomial : EcT K mg "BadPolynomial" eBadPolynomial TE := ⟨PySem.W.mg_of X G aBadPolynomial, ecBadPolynomial, saBadPolynomial, gaBadPolynomial, ggBadPolynomial, caBadPolynomial, cn, ct, kpBadPolynomial⟩
  have TBadReadings : EcT K mg "BadReadings" eBadReadings TE := ⟨PySem.W.mg_of X G aBadReadings, ecBadReadings, saBadReadings, gaBadReadings, ggBadReadings, caBadReadings, cn, ct, kpBadReadings⟩
  have TNothingLeft : EcT K mg "NothingLeft" eNothingLeft TE := ⟨PySem.W.mg_of X G aNothingLeft, ecNothingLeft, saNothingLeft, gaNothingLeft, ggNothingLeft, caNothingLeft, cn, ct, kpNothingLeft⟩
  have TBadShare : EcT K mg "BadShare" eBadShare TE := ⟨PySem.W.mg_of X G aBadShare, ecBadShare, saBadShare, gaBadShare, ggBadShare, caBadShare, cn, ct, kpBadShare⟩
  have TBadTick : EcT K mg "BadTick" eBadTick TE := ⟨PySem.W.mg_of X G aBadTick, ecBadTick, saBadTick, gaBadTick, ggBadTick, caBadTick, cn, ct, kpBadTick⟩
  have TBadRoom : EcT K mg "BadRoom" eBadRoom TE := ⟨PySem.W.mg_of X G aBadRoom, ecBadRoom, saBadRoom, gaBadRoom, ggBadRoom, caBadRoom, cn, ct, kpBadRoom⟩
  have TBadWeb : EcT K mg "BadWeb" eBadWeb TE := ⟨PySem.W.mg_of X G aBadWeb, ecBadWeb, saBadWeb, gaBadWeb, ggBadWeb, caBadWeb, cn, ct, kpBadWeb⟩
  have TBadLine : EcT K mg "BadLine" eBadLine TE := ⟨PySem.W.mg_of X G aBadLine, ecBadLine, saBadLine, gaBadLine, ggBadLine, caBadLine, cn, ct, kpBadLine⟩
  have TBadForm : EcT K mg "BadForm" eBadForm TE := ⟨PySem.W.mg_of X G aBadForm, ecBadForm, saBadForm, gaBadForm, ggBadForm, caBadForm, cn, ct, kpBadForm⟩
  have TBadText : EcT K mg "BadText" eBadText TE := ⟨PySem.W.mg_of X G aBadText, ecBadText, saBadText, gaBadText, ggBadText, caBadText, cn, ct, kpBadText⟩
  have TBadName : EcT K mg "BadName" eBadName TE := ⟨PySem.W.mg_of X G aBadName, ecBadName, saBadName, gaBadName, ggBadName, caBadName, cn, ct, kpBadName⟩
  have TTakenName : EcT K mg "TakenName" eTakenName TE := ⟨PySem.W.mg_of X G aTakenName, ecTakenName, saTakenName, gaTakenName, ggTakenName, caTakenName, cn, ct, kpTakenName⟩
  have TUnknownName : EcT K mg "UnknownName" eUnknownName TE := ⟨PySem.W.mg_of X G aUnknownName, ecUnknownName, saUnknownName, gaUnknownName, ggUnknownName, caUnknownName, cn, ct, kpUnknownName⟩
  have TFullReader : EcT K mg "FullReader" eFullReader TE := ⟨PySem.W.mg_of X G aFullReader, ecFullReader, saFullReader, gaFullReader, ggFullReader, caFullReader, cn, ct, kpFullReader⟩
  have TBarred : EcT K mg "Barred" eBarred TE := ⟨PySem.W.mg_of X G aBarred, ecBarred, saBarred, gaBarred, ggBarred, caBarred, cn, ct, kpBarred⟩
  have TOutOfRange : EcT K mg "OutOfRange" eOutOfRange TE := ⟨PySem.W.mg_of X G aOutOfRange, ecOutOfRange, saOutOfRange, gaOutOfRange, ggOutOfRange, caOutOfRange, cn, ct, kpOutOfRange⟩
  have TMisfit : EcT K mg "Misfit" eMisfit TE := ⟨PySem.W.mg_of X G aMisfit, ecMisfit, saMisfit, gaMisfit, ggMisfit, caMisfit, cn, ct, kpMisfit⟩
  have TNoWeb : EcT K mg "NoWeb" eNoWeb TE := ⟨PySem.W.mg_of X G aNoWeb, ecNoWeb, saNoWeb, gaNoWeb, ggNoWeb, caNoWeb, cn, ct, kpNoWeb⟩
  have E : Errs K mg TE eBadFraction eBadPolynomial eBadReadings eNothingLeft eBadShare eBadTick eBadRoom eBadWeb eBadLine eBadForm eBadText eBadName eTakenName eUnknownName eFullReader eBarred eOutOfRange eMisfit eNoWeb := ⟨TBadFraction, TBadPolynomial, TBadReadings, TNothingLeft, TBadShare, TBadTick, TBadRoom, TBadWeb, TBadLine, TBadForm, TBadText, TBadName, TTakenName, TUnknownName, TFullReader, TBarred, TOutOfRange, TMisfit, TNoWeb, nd, PySem.W.mg_of X G aTE, icT, tyT, beT, hdT, PySem.W.mg_none_of X G z_ValueError, T.isi, T.tInt⟩
  refine ⟨PySem.W.fnOf "law" "law" (defArgs s_law) (defBody s_law) (defScope s_law) .none kV_law dc_law pm_law an_law cd_law ct_law, fun s v => .of_eq rfl, fun base _ _ => ?_⟩
  have GI : FnOk l.prog w K mg base CX0 1 f_init _ ["self", "top", "bottom"] (spInit C) := ok_init F_init T
  have EB := TBadFraction.erT BadFraction_exc
  have GX : FnOk l.prog w K mg base (L2.CX l.prog w) 1 f_init _ ["self", "top", "bottom"] (spInitX C eBadFraction) := ok_initX F_init T EB
  have GN := ok_isn (P := l.prog) (w := w) (base := base) F_isn T
  have GA := ok_asf (P := l.prog) (w := w) (base := base) F_asf T M GI b1_init hdu_init
  have GO := ok_ord (P := l.prog) (w := w) (base := base) F_ord T GA m_asf k_asf b_asf
  have GE := ok_eq F_eq T GN m_isn k_isn b_isn GO m_ord k_ord b_ord
  have GNE := ok_ne F_ne T ⟨a_eq, i_eq⟩ GE b_eq
  have GC := ok_cell (P := l.prog) (w := w) (mg := mg) (base := base) F_cell (PySem.W.mg_none_of X G z_len)
  have GK := ok_cls (P := l.prog) (w := w) (base := base) F_cls E
  have GKP := fun p => ok_clsP (P := l.prog) (w := w) (base := base) (p := p) F_cls E
  have GP := ok_plain F_plain E GK m_cls k_cls b_cls
  have GPP := fun p => ok_plainP F_plain E (GKP p) m_cls k_cls b_cls
  have WBadShare : NewE l.prog w K mg base eBadShare _ _ := ⟨f_iBadShare, _, a_iBadShare, beq_iff_eq.mp i_iBadShare, ok_iBadShare F_iBadShare TBadShare.oex zBadShare_share, b_iBadShare⟩
  have WBadTick : NewE l.prog w K mg base eBadTick _ _ := ⟨f_iBadTick, _, a_iBadTick, beq_iff_eq.mp i_iBadTick, ok_iBadTick F_iBadTick TBadTick.oex zBadTick_tick, b_iBadTick⟩
  have WBadRoom : NewE l.prog w K mg base eBadRoom _ _ := ⟨f_iBadRoom, _, a_iBadRoom, beq_iff_eq.mp i_iBadRoom, ok_iBadRoom F_iBadRoom TBadRoom.oex zBadRoom_room, b_iBadRoom⟩
  have WBadWeb : NewE l.prog w K mg base eBadWeb _ _ := ⟨f_iBadWeb, _, a_iBadWeb, beq_iff_eq.mp i_iBadWeb, ok_iBadWeb F_iBadWeb TBadWeb.oex zBadWeb_reason, b_iBadWeb⟩
  have WBadLine : NewE l.prog w K mg base eBadLine _ _ := ⟨f_iBadLine, _, a_iBadLine, beq_iff_eq.mp i_iBadLine, ok_iBadLine F_iBadLine TBadLine.oex zBadLine_place, b_iBadLine⟩
  have WBadForm : NewE l.prog w K mg base eBadForm _ _ := ⟨f_iBadForm, _, a_iBadForm, beq_iff_eq.mp i_iBadForm, ok_iBadForm F_iBadForm TBadForm.oex zBadForm_form, b_iBadForm⟩
  have WBadText : NewE l.prog w K mg base eBadText _ _ := ⟨f_iBadText, _, a_iBadText, beq_iff_eq.mp i_iBadText, ok_iBadText F_iBadText TBadText.oex zBadText_line zBadText_column, b_iBadText⟩
  have WBadName : NewE l.prog w K mg base eBadName _ _ := ⟨f_iBadName, _, a_iBadName, beq_iff_eq.mp i_iBadName, ok_iBadName F_iBadName TBadName.oex zBadName_name, b_iBadName⟩
  have WTakenName : NewE l.prog w K mg base eTakenName _ _ := ⟨f_iTakenName, _, a_iTakenName, beq_iff_eq.mp i_iTakenName, ok_iTakenName F_iTakenName TTakenName.oex zTakenName_name, b_iTakenName⟩
  have WUnknownName : NewE l.prog w K mg base eUnknownName _ _ := ⟨f_iUnknownName, _, a_iUnknownName, beq_iff_eq.mp i_iUnknownName, ok_iUnknownName F_iUnknownName TUnknownName.oex zUnknownName_name, b_iUnknownName⟩
  have WFullReader : NewE l.prog w K mg base eFullReader _ _ := ⟨f_iFullReader, _, a_iFullReader, beq_iff_eq.mp i_iFullReader, ok_iFullReader F_iFullReader TFullReader.oex zFullReader_most, b_iFullReader⟩
  have WBarred : NewE l.prog w K mg base eBarred _ _ := ⟨f_iBarred, _, a_iBarred, beq_iff_eq.mp i_iBarred, ok_iBarred F_iBarred TBarred.oex zBarred_tick zBarred_weights, b_iBarred⟩
  have WOutOfRange : NewE l.prog w K mg base eOutOfRange _ _ := ⟨f_iOutOfRange, _, a_iOutOfRange, beq_iff_eq.mp i_iOutOfRange, ok_iOutOfRange F_iOutOfRange TOutOfRange.oex zOutOfRange_least zOutOfRange_greatest, b_iOutOfRange⟩
  have WMisfit : NewE l.prog w K mg base eMisfit _ _ := ⟨f_iMisfit, _, a_iMisfit, beq_iff_eq.mp i_iMisfit, ok_iMisfit F_iMisfit TMisfit.oex zMisfit_tick, b_iMisfit⟩
  have WNoWeb : NewE l.prog w K mg base eNoWeb _ _ := ⟨f_iNoWeb, _, a_iNoWeb, beq_iff_eq.mp i_iNoWeb, ok_iNoWeb F_iNoWeb TNoWeb.oex zNoWeb_tick, b_iNoWeb⟩
  have GW := ok_without F_without E T GP m_plain k_plain b_plain GPP (TBadFraction.erT BadFraction_exc) (TBadPolynomial.erT BadPolynomial_exc) (TBadReadings.erT BadReadings_exc) (TNothingLeft.erT NothingLeft_exc) M GX b_init
  have GR := ok_raised F_raised E WBadTick WBarred zBarred_tick zBarred_weights
  have GU := ok_numbers F_numbers E GP m_plain k_plain b_plain WBadShare WBadTick WBadRoom WBadLine WBadText WFullReader WMisfit WNoWeb zBadShare_share zBadTick_tick zBadRoom_room zBadLine_place zBadText_line zBadText_column zFullReader_most zMisfit_tick zNoWeb_tick
  have GS := ok_strings F_strings E GP m_plain k_plain b_plain WBadWeb WBadForm WBadName WTakenName WUnknownName zBadWeb_reason zBadForm_form zBadName_name zTakenName_name zUnknownName_name
  have GQ := ok_pairs F_pairs E GP m_plain k_plain b_plain WBarred WOutOfRange zBarred_tick zBarred_weights zOutOfRange_least zOutOfRange_greatest ⟨a_ne, i_ne⟩ GNE b_ne
  exact ok_law F_law T GC m_cell k_cell b_cell GW m_without k_without b_without GR m_raised k_raised b_raised GU m_numbers k_numbers b_numbers GS m_strings k_strings b_strings GQ m_pairs k_pairs b_pairs M GI b_init
theorem walk {l : PySem.W.OpenLaw} {q : Program} {loose : List Str} {XP : (Str → Option Value) → Heap → Prop} {YP : World → Heap → Prop} {d : DefRec} {K : Params → PySem.W.Frag} (hn : l.most = some 63) (hdf : d.params.defaults = [])
    (hY : ∀ (w : World) (h : Heap), YP w h → (K w.params).In h)
    (F : ∀ (w : World) (mg : Str → Option Value) (fa : Addr) (h : Heap), (K w.params).In h → h.Ns mainGlobals mg → mg d.name = some (.ref fa) →
      ∃ fd : FuncData, (∀ (s : Shared) (u : Value), BindsTo s fd ⟨[u], []⟩ [("_law_script", u)]) ∧ ∀ base : Heap, (K w.params).In base → base.Ns mainGlobals mg → FnOk l.prog w (K w.params) mg base CX0 8 fa fd ["_law_script"] (spD (K w.params) 1 R_law)) :
    PySem.W.WalkO q loose XP YP l.row.toRowW d [] (fun f vs => PySem.call f vs) :=
  L2.walk_of (n := 63) (k := 8) (x := "_law_script") (CX := fun _ => CX0) (sp := fun w => spD (K w.params) 1 R_law) hn (by decide) hdf ⟨rfl, by decide, by decide⟩ hY F (fun _ _ a ns hl _ hS => sp_law hl hS fun _ => rfl) fun _ _ _ _ _ z => z
end Law

open PySem PySem.W PyProof.Rows in
set_option maxRecDepth 100000 in
set_option maxHeartbeats 0 in
theorem PySem.Challenge.cw_tracerline_k05_errors_holds : PySem.Challenge.rw_tracerline_k05_errors.Holds := by
  w_on; o_law; k_head; (case hw => w_witness2)
  k_fill
  refine Law.walk (l := PySem.Challenge.rw_tracerline_k05_errors) rfl rfl (fun w h Y => PySem.W.kIn_of Y) ?F
  case F =>
    intro w mg fa h KX G hmg
    refine' Law.all_mk KX G hmg ?aC ?aTE ?aBadFraction ?aBadPolynomial ?aBadReadings ?aNothingLeft ?aBadShare ?aBadTick ?aBadRoom ?aBadWeb ?aBadLine ?aBadForm ?aBadText ?aBadName ?aTakenName ?aUnknownName ?aFullReader ?aBarred ?aOutOfRange ?aMisfit ?aNoWeb ?a_init ?i_init ?l_init ?d_init ?c_init ?k_init ?a_eq ?i_eq ?l_eq ?c_eq ?k_eq ?a_ne ?i_ne ?l_ne ?c_ne ?k_ne ?a_iBadShare ?i_iBadShare ?l_iBadShare ?c_iBadShare ?k_iBadShare ?a_iBadTick ?i_iBadTick ?l_iBadTick ?c_iBadTick ?k_iBadTick ?a_iBadRoom ?i_iBadRoom ?l_iBadRoom ?c_iBadRoom ?k_iBadRoom ?a_iBadWeb ?i_iBadWeb ?l_iBadWeb ?c_iBadWeb ?k_iBadWeb ?a_iBadLine ?i_iBadLine ?l_iBadLine ?c_iBadLine ?k_iBadLine ?a_iBadForm ?i_iBadForm ?l_iBadForm ?c_iBadForm ?k_iBadForm ?a_iBadText ?i_iBadText ?l_iBadText ?c_iBadText ?k_iBadText ?a_iBadName ?i_iBadName ?l_iBadName ?c_iBadName ?k_iBadName ?a_iTakenName ?i_iTakenName ?l_iTakenName ?c_iTakenName ?k_iTakenName ?a_iUnknownName ?i_iUnknownName ?l_iUnknownName ?c_iUnknownName ?k_iUnknownName ?a_iFullReader ?i_iFullReader ?l_iFullReader ?c_iFullReader ?k_iFullReader ?a_iBarred ?i_iBarred ?l_iBarred ?c_iBarred ?k_iBarred ?a_iOutOfRange ?i_iOutOfRange ?l_iOutOfRange ?c_iOutOfRange ?k_iOutOfRange ?a_iMisfit ?i_iMisfit ?l_iMisfit ?c_iMisfit ?k_iMisfit ?a_iNoWeb ?i_iNoWeb ?l_iNoWeb ?c_iNoWeb ?k_iNoWeb ?a_asf ?l_asf ?c_asf ?k_asf ?a_isn ?l_isn ?c_isn ?k_isn ?a_ord ?l_ord ?c_ord ?k_ord ?a_cell ?l_cell ?c_cell ?k_cell ?a_cls ?l_cls ?c_cls ?k_cls ?a_plain ?l_plain ?c_plain ?k_plain ?a_without ?l_without ?c_without ?k_without ?a_numbers ?l_numbers ?c_numbers ?k_numbers ?a_strings ?l_strings ?c_strings ?k_strings ?a_pairs ?l_pairs ?c_pairs ?k_pairs ?a_raised ?l_raised ?c_raised ?k_raised ?a_law ?l_law ?c_law ?k_law ?pg ?hd ?po ?sa ?mk ?kc ?nT ?nB ?ca ?cn ?ct ?cm ?ic ?tyC ?sub1 ?sub2 ?gg ?z_isinstance ?z_int ?z_len ?z_ValueError ?ecBadFraction ?saBadFraction ?gaBadFraction ?ggBadFraction ?caBadFraction ?kpBadFraction ?BadFraction_exc ?ecBadPolynomial ?saBadPolynomial ?gaBadPolynomial ?ggBadPolynomial ?caBadPolynomial ?kpBadPolynomial ?BadPolynomial_exc ?ecBadReadings ?saBadReadings ?gaBadReadings ?ggBadReadings ?caBadReadings ?kpBadReadings ?BadReadings_exc ?ecNothingLeft ?saNothingLeft ?gaNothingLeft ?ggNothingLeft ?caNothingLeft ?kpNothingLeft ?NothingLeft_exc ?ecBadShare ?saBadShare ?gaBadShare ?ggBadShare ?caBadShare ?kpBadShare ?zBadShare_share ?ecBadTick ?saBadTick ?gaBadTick ?ggBadTick ?caBadTick ?kpBadTick ?zBadTick_tick ?ecBadRoom ?saBadRoom ?gaBadRoom ?ggBadRoom ?caBadRoom ?kpBadRoom ?zBadRoom_room ?ecBadWeb ?saBadWeb ?gaBadWeb ?ggBadWeb ?caBadWeb ?kpBadWeb ?zBadWeb_reason ?ecBadLine ?saBadLine ?gaBadLine ?ggBadLine ?caBadLine ?kpBadLine ?zBadLine_place ?ecBadForm ?saBadForm ?gaBadForm ?ggBadForm ?caBadForm ?kpBadForm ?zBadForm_form ?ecBadText ?saBadText ?gaBadText ?ggBadText ?caBadText ?kpBadText ?zBadText_line ?zBadText_column ?ecBadName ?saBadName ?gaBadName ?ggBadName ?caBadName ?kpBadName ?zBadName_name ?ecTakenName ?saTakenName ?gaTakenName ?ggTakenName ?caTakenName ?kpTakenName ?zTakenName_name ?ecUnknownName ?saUnknownName ?gaUnknownName ?ggUnknownName ?caUnknownName ?kpUnknownName ?zUnknownName_name ?ecFullReader ?saFullReader ?gaFullReader ?ggFullReader ?caFullReader ?kpFullReader ?zFullReader_most ?ecBarred ?saBarred ?gaBarred ?ggBarred ?caBarred ?kpBarred ?zBarred_tick ?zBarred_weights ?ecOutOfRange ?saOutOfRange ?gaOutOfRange ?ggOutOfRange ?caOutOfRange ?kpOutOfRange ?zOutOfRange_least ?zOutOfRange_greatest ?ecMisfit ?saMisfit ?gaMisfit ?ggMisfit ?caMisfit ?kpMisfit ?zMisfit_tick ?ecNoWeb ?saNoWeb ?gaNoWeb ?ggNoWeb ?caNoWeb ?kpNoWeb ?zNoWeb_tick ?nd ?icT ?tyT ?beT ?hdT
    (case aC => k_is)
    (case aTE => k_is)
    (case aBadFraction => k_is)
    (case aBadPolynomial => k_is)
    (case aBadReadings => k_is)
    (case aNothingLeft => k_is)
    (case aBadShare => k_is)
    (case aBadTick => k_is)
    (case aBadRoom => k_is)
    (case aBadWeb => k_is)
    (case aBadLine => k_is)
    (case aBadForm => k_is)
    (case aBadText => k_is)
    (case aBadName => k_is)
    (case aTakenName => k_is)
    (case aUnknownName => k_is)
    (case aFullReader => k_is)
    (case aBarred => k_is)
    (case aOutOfRange => k_is)
    (case aMisfit => k_is)
    (case aNoWeb => k_is)
    (case a_init => k_is)
    (case i_init => k_is)
    (case l_init => k_is)
    (case d_init => k_is)
    (case c_init => k_is)
    (case k_init => k_is)
    (case a_eq => k_is)
    (case i_eq => k_is)
    (case l_eq => k_is)
    (case c_eq => k_is)
    (case k_eq => k_is)
    (case a_ne => k_is)
    (case i_ne => k_is)
    (case l_ne => k_is)
    (case c_ne => k_is)
    (case k_ne => k_is)
    (case a_iBadShare => k_is)
    (case i_iBadShare => k_is)
    (case l_iBadShare => k_is)
    (case c_iBadShare => k_is)
    (case k_iBadShare => k_is)
    (case a_iBadTick => k_is)
    (case i_iBadTick => k_is)
    (case l_iBadTick => k_is)
    (case c_iBadTick => k_is)
    (case k_iBadTick => k_is)
    (case a_iBadRoom => k_is)
    (case i_iBadRoom => k_is)
    (case l_iBadRoom => k_is)
    (case c_iBadRoom => k_is)
    (case k_iBadRoom => k_is)
    (case a_iBadWeb => k_is)
    (case i_iBadWeb => k_is)
    (case l_iBadWeb => k_is)
    (case c_iBadWeb => k_is)
    (case k_iBadWeb => k_is)
    (case a_iBadLine => k_is)
    (case i_iBadLine => k_is)
    (case l_iBadLine => k_is)
    (case c_iBadLine => k_is)
    (case k_iBadLine => k_is)
    (case a_iBadForm => k_is)
    (case i_iBadForm => k_is)
    (case l_iBadForm => k_is)
    (case c_iBadForm => k_is)
    (case k_iBadForm => k_is)
    (case a_iBadText => k_is)
    (case i_iBadText => k_is)
    (case l_iBadText => k_is)
    (case c_iBadText => k_is)
    (case k_iBadText => k_is)
    (case a_iBadName => k_is)
    (case i_iBadName => k_is)
    (case l_iBadName => k_is)
    (case c_iBadName => k_is)
    (case k_iBadName => k_is)
    (case a_iTakenName => k_is)
    (case i_iTakenName => k_is)
    (case l_iTakenName => k_is)
    (case c_iTakenName => k_is)
    (case k_iTakenName => k_is)
    (case a_iUnknownName => k_is)
    (case i_iUnknownName => k_is)
    (case l_iUnknownName => k_is)
    (case c_iUnknownName => k_is)
    (case k_iUnknownName => k_is)
    (case a_iFullReader => k_is)
    (case i_iFullReader => k_is)
    (case l_iFullReader => k_is)
    (case c_iFullReader => k_is)
    (case k_iFullReader => k_is)
    (case a_iBarred => k_is)
    (case i_iBarred => k_is)
    (case l_iBarred => k_is)
    (case c_iBarred => k_is)
    (case k_iBarred => k_is)
    (case a_iOutOfRange => k_is)
    (case i_iOutOfRange => k_is)
    (case l_iOutOfRange => k_is)
    (case c_iOutOfRange => k_is)
    (case k_iOutOfRange => k_is)
    (case a_iMisfit => k_is)
    (case i_iMisfit => k_is)
    (case l_iMisfit => k_is)
    (case c_iMisfit => k_is)
    (case k_iMisfit => k_is)
    (case a_iNoWeb => k_is)
    (case i_iNoWeb => k_is)
    (case l_iNoWeb => k_is)
    (case c_iNoWeb => k_is)
    (case k_iNoWeb => k_is)
    (case a_asf => k_is)
    (case l_asf => k_is)
    (case c_asf => k_is)
    (case k_asf => k_is)
    (case a_isn => k_is)
    (case l_isn => k_is)
    (case c_isn => k_is)
    (case k_isn => k_is)
    (case a_ord => k_is)
    (case l_ord => k_is)
    (case c_ord => k_is)
    (case k_ord => k_is)
    (case a_cell => k_is)
    (case l_cell => k_is)
    (case c_cell => k_is)
    (case k_cell => k_is)
    (case a_cls => k_is)
    (case l_cls => k_is)
    (case c_cls => k_is)
    (case k_cls => k_is)
    (case a_plain => k_is)
    (case l_plain => k_is)
    (case c_plain => k_is)
    (case k_plain => k_is)
    (case a_without => k_is)
    (case l_without => k_is)
    (case c_without => k_is)
    (case k_without => k_is)
    (case a_numbers => k_is)
    (case l_numbers => k_is)
    (case c_numbers => k_is)
    (case k_numbers => k_is)
    (case a_strings => k_is)
    (case l_strings => k_is)
    (case c_strings => k_is)
    (case k_strings => k_is)
    (case a_pairs => k_is)
    (case l_pairs => k_is)
    (case c_pairs => k_is)
    (case k_pairs => k_is)
    (case a_raised => k_is)
    (case l_raised => k_is)
    (case c_raised => k_is)
    (case k_raised => k_is)
    (case a_law => k_is)
    (case l_law => k_is)
    (case c_law => k_is)
    (case k_law => k_is)
    (case pg => k_is)
    (case hd => k_is)
    (case po => k_is)
    (case sa => k_is)
    (case mk => k_is)
    (case kc => k_is)
    (case nT => k_is)
    (case nB => k_is)
    (case ca => k_is)
    (case cn => k_is)
    (case ct => k_is)
    (case cm => k_is)
    (case ic => k_is)
    (case tyC => k_is)
    (case sub1 => k_is)
    (case sub2 => k_is)
    (case gg => k_is)
    (case z_isinstance => k_is)
    (case z_int => k_is)
    (case z_len => k_is)
    (case z_ValueError => k_is)
    (case ecBadFraction => kernel_rfl)
    (case saBadFraction => k_is)
    (case gaBadFraction => k_is)
    (case ggBadFraction => k_is)
    (case caBadFraction => k_is)
    (case kpBadFraction => k_is)
    (case BadFraction_exc => k_exc)
    (case ecBadPolynomial => kernel_rfl)
    (case saBadPolynomial => k_is)
    (case gaBadPolynomial => k_is)
    (case ggBadPolynomial => k_is)
    (case caBadPolynomial => k_is)
    (case kpBadPolynomial => k_is)
    (case BadPolynomial_exc => k_exc)
    (case ecBadReadings => kernel_rfl)
    (case saBadReadings => k_is)
    (case gaBadReadings => k_is)
    (case ggBadReadings => k_is)
    (case caBadReadings => k_is)
    (case kpBadReadings => k_is)
    (case BadReadings_exc => k_exc)
    (case ecNothingLeft => kernel_rfl)
    (case saNothingLeft => k_is)
    (case gaNothingLeft => k_is)
    (case ggNothingLeft => k_is)
    (case caNothingLeft => k_is)
    (case kpNothingLeft => k_is)
    (case NothingLeft_exc => k_exc)
    (case ecBadShare => kernel_rfl)
    (case saBadShare => k_is)
    (case gaBadShare => k_is)
    (case ggBadShare => k_is)
    (case caBadShare => k_is)
    (case kpBadShare => k_is)
    (case zBadShare_share => k_is)
    (case ecBadTick => kernel_rfl)
    (case saBadTick => k_is)
    (case gaBadTick => k_is)
    (case ggBadTick => k_is)
    (case caBadTick => k_is)
    (case kpBadTick => k_is)
    (case zBadTick_tick => k_is)
    (case ecBadRoom => kernel_rfl)
    (case saBadRoom => k_is)
    (case gaBadRoom => k_is)
    (case ggBadRoom => k_is)
    (case caBadRoom => k_is)
    (case kpBadRoom => k_is)
    (case zBadRoom_room => k_is)
    (case ecBadWeb => kernel_rfl)
    (case saBadWeb => k_is)
    (case gaBadWeb => k_is)
    (case ggBadWeb => k_is)
    (case caBadWeb => k_is)
    (case kpBadWeb => k_is)
    (case zBadWeb_reason => k_is)
    (case ecBadLine => kernel_rfl)
    (case saBadLine => k_is)
    (case gaBadLine => k_is)
    (case ggBadLine => k_is)
    (case caBadLine => k_is)
    (case kpBadLine => k_is)
    (case zBadLine_place => k_is)
    (case ecBadForm => kernel_rfl)
    (case saBadForm => k_is)
    (case gaBadForm => k_is)
    (case ggBadForm => k_is)
    (case caBadForm => k_is)
    (case kpBadForm => k_is)
    (case zBadForm_form => k_is)
    (case ecBadText => kernel_rfl)
    (case saBadText => k_is)
    (case gaBadText => k_is)
    (case ggBadText => k_is)
    (case caBadText => k_is)
    (case kpBadText => k_is)
    (case zBadText_line => k_is)
    (case zBadText_column => k_is)
    (case ecBadName => kernel_rfl)
    (case saBadName => k_is)
    (case gaBadName => k_is)
    (case ggBadName => k_is)
    (case caBadName => k_is)
    (case kpBadName => k_is)
    (case zBadName_name => k_is)
    (case ecTakenName => kernel_rfl)
    (case saTakenName => k_is)
    (case gaTakenName => k_is)
    (case ggTakenName => k_is)
    (case caTakenName => k_is)
    (case kpTakenName => k_is)
    (case zTakenName_name => k_is)
    (case ecUnknownName => kernel_rfl)
    (case saUnknownName => k_is)
    (case gaUnknownName => k_is)
    (case ggUnknownName => k_is)
    (case caUnknownName => k_is)
    (case kpUnknownName => k_is)
    (case zUnknownName_name => k_is)
    (case ecFullReader => kernel_rfl)
    (case saFullReader => k_is)
    (case gaFullReader => k_is)
    (case ggFullReader => k_is)
    (case caFullReader => k_is)
    (case kpFullReader => k_is)
    (case zFullReader_most => k_is)
    (case ecBarred => kernel_rfl)
    (case saBarred => k_is)
    (case gaBarred => k_is)
    (case ggBarred => k_is)
    (case caBarred => k_is)
    (case kpBarred => k_is)
    (case zBarred_tick => k_is)
    (case zBarred_weights => k_is)
    (case ecOutOfRange => kernel_rfl)
    (case saOutOfRange => k_is)
    (case gaOutOfRange => k_is)
    (case ggOutOfRange => k_is)
    (case caOutOfRange => k_is)
    (case kpOutOfRange => k_is)
    (case zOutOfRange_least => k_is)
    (case zOutOfRange_greatest => k_is)
    (case ecMisfit => kernel_rfl)
    (case saMisfit => k_is)
    (case gaMisfit => k_is)
    (case ggMisfit => k_is)
    (case caMisfit => k_is)
    (case kpMisfit => k_is)
    (case zMisfit_tick => k_is)
    (case ecNoWeb => kernel_rfl)
    (case saNoWeb => k_is)
    (case gaNoWeb => k_is)
    (case ggNoWeb => k_is)
    (case caNoWeb => k_is)
    (case kpNoWeb => k_is)
    (case zNoWeb_tick => k_is)
    (case nd => decide)
    (case icT => k_is)
    (case tyT => k_is)
    (case beT => k_is)
    (case hdT => k_is)
