import PyProof.Rows.All
import Wide.All
import OpenK.AllK
import Wide.FinOn
import KE.KOpsOwn
import HandS.ForMost
import HandS.ForExc
import HandS.Evl
import HandS.IsInst
import HandS.Gcd
import HandS.Wide
import HandS.OwnEq
import HandS.SlotsOwn
import HandS.Defaults
import HandS.TryOnly
import HandS.ExcOwn
import HandS.ExcIs
import HandS.MakeKw
import HandS.MakeKwOnly
import HandS.ExcInit
import KE.KExcIs
import HandS.ExcField
import HandS.ExcValue
import HandS.HotCalls
import PyProof.StrOps2
import HandS.Property
import KE.KCallOwn
import KE.KMethU
import HandS.Comp
import HandS.Style
import HandS.Records
import HandS.ClsMeth
import HandS.Walk
import HandS.Iter
import KE.KBoundM
import PySem.Challenge.RW_tracerline_k22_lists_that_are_lines
set_option Elab.async false
set_option linter.all false
set_option maxRecDepth 100000
set_option maxHeartbeats 4000000
set_option exponentiation.threshold 10000
namespace Trk
open PySem PySem.W PySem.Calls PyProof.Rows
section
variable {prog : Program} {w : World} {A : Around} {E : Value → Shared → Prop} {s : Shared} {K : Frag} {x C dx L f : Addr} {h₀ : Heap} {m : Str → Option Value} {ox : Obj} {od : Option Obj} {n : Int} {t : Tok} {Q : Value → Shared → Prop}

section
variable {M : Model} {R : Fin → Shared → Prop} (ho : s.heap.get? x = some (instObj C dx)) (h : R (.done (.ret .notImplemented)) s)
include ho h
theorem add_no : wpAny M A (Builtin.«int.__add__» ⟨[.int n t, .ref x], []⟩) R E s := by
  obtain ⟨hp, g, d, tk, os⟩ := s
  wp_walk using wpAny_load ho
  exact h
theorem sub_no : wpAny M A (Builtin.«int.__sub__» ⟨[.int n t, .ref x], []⟩) R E s := by
  obtain ⟨hp, g, d, tk, os⟩ := s
  wp_walk using wpAny_load ho
  exact h
theorem mul_no : wpAny M A (Builtin.«int.__mul__» ⟨[.int n t, .ref x], []⟩) R E s := by
  obtain ⟨hp, g, d, tk, os⟩ := s
  wp_walk using wpAny_load ho
  exact h
theorem eq_no : wpAny M A (Builtin.«int.__eq__» ⟨[.int n t, .ref x], []⟩) R E s := by
  obtain ⟨hp, g, d, tk, os⟩ := s
  wp_walk using wpAny_load ho
  exact h
theorem ne_no : wpAny M A (Builtin.«int.__ne__» ⟨[.int n t, .ref x], []⟩) R E s := by
  obtain ⟨hp, g, d, tk, os⟩ := s
  wp_walk using wpAny_load ho
  exact h
theorem lt_no : wpAny M A (Builtin.«int.__lt__» ⟨[.int n t, .ref x], []⟩) R E s := by
  obtain ⟨hp, g, d, tk, os⟩ := s
  wp_walk using wpAny_load ho
  exact h
theorem le_no : wpAny M A (Builtin.«int.__le__» ⟨[.int n t, .ref x], []⟩) R E s := by
  obtain ⟨hp, g, d, tk, os⟩ := s
  wp_walk using wpAny_load ho
  exact h
theorem gt_no : wpAny M A (Builtin.«int.__gt__» ⟨[.int n t, .ref x], []⟩) R E s := by
  obtain ⟨hp, g, d, tk, os⟩ := s
  wp_walk using wpAny_load ho
  exact h
theorem ge_no : wpAny M A (Builtin.«int.__ge__» ⟨[.int n t, .ref x], []⟩) R E s := by
  obtain ⟨hp, g, d, tk, os⟩ := s
  wp_walk using wpAny_load ho
  exact h
end

/-- the slots of int that the four signs use -/
structure IntSlot (nm id : String) (B : Builtin) : Prop where
  slot : Slot "int" (PySem.dunder nm) id
  entry : entryFor table id = some B
  args : ∀ a b : Value, argsOk id ⟨[a, b], []⟩
  no : ∀ (M : Model) (A : Around) (E : Value → Shared → Prop) (s : Shared) (x C dx : Addr) (n : Int) (t : Tok) (R : Fin → Shared → Prop), s.heap.get? x = some (instObj C dx) → R (.done (.ret .notImplemented)) s → wpAny M A (B ⟨[.int n t, .ref x], []⟩) R E s
theorem sAdd : IntSlot "add" "int.__add__" Builtin.«int.__add__» := ⟨F.slot_int_add, F.entry_int_add, F.args_int_add_2, fun _ _ _ _ _ _ _ _ _ _ h q => add_no h q⟩
theorem sSub : IntSlot "sub" "int.__sub__" Builtin.«int.__sub__» := ⟨F.slot_int_sub, F.entry_int_sub, F.args_int_sub_2, fun _ _ _ _ _ _ _ _ _ _ h q => sub_no h q⟩
theorem sMul : IntSlot "mul" "int.__mul__" Builtin.«int.__mul__» := ⟨F.slot_int_mul, F.entry_int_mul, F.args_int_mul_2, fun _ _ _ _ _ _ _ _ _ _ h q => mul_no h q⟩

theorem int_try {nm id : String} {B : Builtin} {R : Option Value → Shared → Prop} (S : IntSlot nm id B) (ho : s.heap.get? x = some (instObj C dx)) (h : R none s) : wpAny (model prog w) A (tryMethod (.int n t) (PySem.dunder nm) (.ref x)) R E s :=
  wpAny_tryMethod_declines (typeIs_int s n t) S.slot (wpAny_call_entry S.slot (typeIs_int s n t) S.entry (S.no _ _ _ _ _ _ _ _ _ _ ho ⟨_, rfl, rfl, h⟩) (S.args _ _))

theorem rbinT {op : Operator} {id : String} {B : Builtin} {fo ro : Option Value} {g : Addr} (S : IntSlot op.info.2 id B) (F : Fr h₀ L s.heap m) (X₀ : K.In h₀) (I : InstAt s.heap x (instObj C dx) C od) (hc : selfFirst K C = true)
    (hs : findIn K (.ref C) (PySem.dunder op.info.2) = some (some (.ref g)))
    (hr : findIn K (.ref C) (dunderR op.info.2) = some (some (.ref f))) (hf : isFn K (.ref f) = true)
    (h1 : findIn K (.type "int") (PySem.dunder op.info.2) = some fo) (h2 : findIn K (.type "int") (dunderR op.info.2) = some ro) (hl : ((fo.isSome && !isSeqSlot fo) || (ro.isSome && !isSeqSlot ro)) = true)
    (hsub : subIn K (.ref C) (.type "int") = some false)
    (h : wpAny (model prog w) A (call (.ref f) [.ref x, .int n t]) (PySem.W.CmpBack Q) E s) : wpAny (model prog w) A (binaryOp op (.int n t) (.ref x)) Q E s := by
  have X := X₀.keeps F.keep
  obtain ⟨cd, rest, hcd, hm⟩ := ksp_first hc
  have two := ksp_try X I hr hf h
  have ho : s.heap.get? x = some (instObj C dx) := I.1
  rcases hi : op.info with ⟨sym, nm'⟩
  rw [hi] at hs hr h1 h2 S two
  dsimp only at hs hr h1 h2 S two
  obtain ⟨hh, gg, d, tt, os⟩ := s
  have L1 : Looks (model prog w) hh (typeOf (.ref x)) (.ref C) := I.type
  have L2 : Looks (model prog w) hh (typeOf (.int n t)) (.type "int") := Looks.of_pure rfl
  have L3 : Looks (model prog w) hh (fillsNumberSlot (.ref C) nm') true := fills_K X hcd hm hs
  have L4 : Looks (model prog w) hh (fillsNumberSlot (.type "int") nm') true := hl ▸ ksp_fillsT X h1 h2
  have L5 : Looks (model prog w) hh (isSubtype (.ref C) (.type "int")) false := looks_subIn X hsub
  have L7 : Looks (model prog w) hh (numberSlotInPython (.type "int") nm') false := Looks.of_pure rfl
  have hne : (Value.type "int" == Value.ref C) = false := Bool.eq_false_iff.mpr fun q => by cases beq_iff_eq.mp q
  simp only [binaryOp, hi]
  refine wpAny_holding (wpAny_bind ?_)
  unfold binaryOp1
  refine wpAny_bind (L2.at (wpAny_bind (L1.at (wpAny_bind (L4.at ?_)))))
  simp only [hne, Bool.false_eq_true, if_false]
  refine wpAny_bind (L3.at ?_)
  simp only [Bool.and_self, if_true]
  refine wpAny_bind (L5.at ?_)
  ksp_lk
  refine int_try S ho ?_
  ksp_lk
  refine wpAny_mono two (fun r s' hr' => ?_) fun _ _ e => e
  obtain ⟨v, rfl, hq⟩ := hr'
  ksp_lk
  exact hq

structure CmpSlot (op : CmpOp) (id : String) (B : Builtin) : Prop where
  slot : Slot "int" (cmpInfo op).2.1 id
  entry : entryFor table id = some B
  args : ∀ a b : Value, argsOk id ⟨[a, b], []⟩
  no : ∀ (M : Model) (A : Around) (E : Value → Shared → Prop) (s : Shared) (x C dx : Addr) (n : Int) (t : Tok) (R : Fin → Shared → Prop), s.heap.get? x = some (instObj C dx) → R (.done (.ret .notImplemented)) s → wpAny M A (B ⟨[.int n t, .ref x], []⟩) R E s
theorem cEq : CmpSlot .Eq "int.__eq__" Builtin.«int.__eq__» := ⟨F.slot_int_eq, F.entry_int_eq, F.args_int_eq_2, fun _ _ _ _ _ _ _ _ _ _ h q => eq_no h q⟩
theorem cNe : CmpSlot .NotEq "int.__ne__" Builtin.«int.__ne__» := ⟨F.slot_int_ne, F.entry_int_ne, F.args_int_ne_2, fun _ _ _ _ _ _ _ _ _ _ h q => ne_no h q⟩
theorem cLt : CmpSlot .Lt "int.__lt__" Builtin.«int.__lt__» := ⟨F.slot_int_lt, F.entry_int_lt, F.args_int_lt_2, fun _ _ _ _ _ _ _ _ _ _ h q => lt_no h q⟩
theorem cLe : CmpSlot .LtE "int.__le__" Builtin.«int.__le__» := ⟨F.slot_int_le, F.entry_int_le, F.args_int_le_2, fun _ _ _ _ _ _ _ _ _ _ h q => le_no h q⟩
theorem cGt : CmpSlot .Gt "int.__gt__" Builtin.«int.__gt__» := ⟨F.slot_int_gt, F.entry_int_gt, F.args_int_gt_2, fun _ _ _ _ _ _ _ _ _ _ h q => gt_no h q⟩
theorem cGe : CmpSlot .GtE "int.__ge__" Builtin.«int.__ge__» := ⟨F.slot_int_ge, F.entry_int_ge, F.args_int_ge_2, fun _ _ _ _ _ _ _ _ _ _ h q => ge_no h q⟩

theorem int_cmp {op : CmpOp} {id : String} {B : Builtin} {R : Option Value → Shared → Prop} (S : CmpSlot op id B) (ho : s.heap.get? x = some (instObj C dx)) (h : R none s) : wpAny (model prog w) A (tryCompare (.int n t) (cmpInfo op).2.1 (.ref x)) R E s :=
  wpAny_tryCompare_declines (typeIs_int s n t) S.slot (wpAny_call_entry S.slot (typeIs_int s n t) S.entry (S.no _ _ _ _ _ _ _ _ _ _ ho ⟨_, rfl, rfl, h⟩) (S.args _ _))

theorem rcmpT {op : CmpOp} {id : String} {B : Builtin} (S : CmpSlot op id B) (hu : A.units < cLine) (F : Fr h₀ L s.heap m) (X₀ : K.In h₀) (I : InstAt s.heap x (instObj C dx) C od)
    (hs : findIn K (.ref C) (cmpInfo op).2.2 = some (some (.ref f))) (hf : isFn K (.ref f) = true) (hsub : subIn K (.ref C) (.type "int") = some false)
    (h : wpAny (model prog w) A (call (.ref f) [.ref x, .int n t]) (PySem.W.CmpBack Q) E s) : wpAny (model prog w) A (richCompare op (.int n t) (.ref x)) Q E s := by
  have X := X₀.keeps F.keep
  have ho : s.heap.get? x = some (instObj C dx) := I.1
  have one : wpAny (model prog w) A (tryCompare (.ref x) (cmpInfo op).2.2 (.int n t)) (fun r s' => ∃ v, r = some v ∧ Q v s') E s := by
    unfold tryCompare
    refine wpAny_bind (ifBound_K X I hs hf (wpAny_mono h (fun v s' hv => ?_) fun _ _ e => e))
    cases v <;> first | exact hv.elim | exact wpAny_pure ⟨_, rfl, hv⟩
  have two := int_cmp (prog := prog) (w := w) (A := A) (E := E) (n := n) (t := t) (R := fun r s' => r = none ∧ s' = s) S ho ⟨rfl, rfl⟩
  have hne : (Value.type "int" != Value.ref C) = true := by
    have e : (Value.type "int" == Value.ref C) = false := Bool.eq_false_iff.mpr fun q => by cases beq_iff_eq.mp q
    show (!(Value.type "int" == Value.ref C)) = true
    rw [e]
    rfl
  have hob : oneThing? op (.int n t) (.ref x) = none := by rfl
  unfold richCompare
  simp only [hob]
  refine wpAny_holding (wpAny_bind (wpAny_cRoomFor hu ?_))
  refine wpAny_bind ((Looks.of_pure (M := model prog w) (h := s.heap) (t := typeOf (.int n t)) (r := .type "int") rfl).here (wpAny_bind (I.type.here ?_)))
  rw [if_pos hne]
  refine wpAny_bind ((looks_subIn X hsub).here ?_)
  simp only [Bool.false_eq_true, if_false]
  refine wpAny_bind (wpAny_mono two (fun r s' z => ?_) fun _ _ e => e)
  obtain ⟨rfl, rfl⟩ := z
  dsimp only
  simp only [Bool.not_false, if_true]
  refine wpAny_bind (wpAny_mono one (fun r s' z => ?_) fun _ _ e => e)
  obtain ⟨v, rfl, hq⟩ := z
  exact wpAny_pure hq
end
end Trk

namespace Trk
open PySem PySem.W PySem.Calls PyProof.Rows
section
variable {prog : Program} {w : World} {M : Model} {A : Around} {E : Value → Shared → Prop} {s : Shared} {K : Frag} {x C dx L f : Addr} {h₀ : Heap} {m : Str → Option Value} {ox : Obj} {od : Option Obj} {n : Int} {t : Tok} {b : Value}
/-- an own class right below object -/
def underObject (K : Frag) (C : Addr) : Bool := (clsIn K C).any fun cd => cd.mro == [.ref C, .type "object"]
theorem under_mro (h : underObject K C = true) : ∃ cd, clsIn K C = some cd ∧ cd.mro = [.ref C, .type "object"] := by
  unfold underObject at h
  cases q : clsIn K C with
  | none =>
    rw [q] at h
    cases h
  | some cd =>
    rw [q] at h
    exact ⟨cd, rfl, beq_iff_eq.mp h⟩
theorem no_inplace {nm : String} {add : Bool} {h : Heap} (X : K.In h) (hu : underObject K C = true) (h1 : findIn K (.ref C) (dunderI nm) = some none) (h2 : findIn K (.type "object") (dunderI nm) = some none) : Looks M h (fillsInplaceSlot (.ref C) nm add) false := by
  intro A Q E s k q
  obtain ⟨cd, hc, hm⟩ := under_mro hu
  have Lm : Looks M h (mroOf (.ref C)) cd.mro := (looks_clsIn X hc).andThen (f := fun cd => pure cd.mro) .now
  have Lm' := Lm.keeps k
  obtain ⟨hh, g, d, tt, os⟩ := s
  have X' : K.In hh := X.keeps k
  have L1 : Looks M hh (typeLookup (.ref C) (dunderI nm)) none := looks_findIn X' h1
  have L2 : Looks M hh (typeLookup (.type "object") (dunderI nm)) none := looks_findIn X' h2
  unfold fillsInplaceSlot
  refine wpAny_bind (Lm'.at ?_)
  rw [hm, List.anyM_cons]
  refine wpAny_bind ?_
  refine wpAny_bind (L1.at ?_)
  refine wpAny_pure ?_
  simp only [Bool.false_eq_true, if_false]
  rw [List.anyM_cons]
  refine wpAny_bind ?_
  refine wpAny_bind (L2.at ?_)
  refine wpAny_pure ?_
  simp only [Bool.false_eq_true, if_false, List.anyM_nil]
  exact wpAny_pure q
/-- what the one turn of a sign gives, both of the class -/
theorem bin1_own {nm : String} {Q : Option Value → Shared → Prop} (F : Fr h₀ L s.heap m) (X₀ : K.In h₀) (I : InstAt s.heap x ox C od) (hb : Looks (model prog w) s.heap (typeOf b) (.ref C)) (hc : selfFirst K C = true)
    (hs : findIn K (.ref C) (PySem.dunder nm) = some (some (.ref f))) (hf : isFn K (.ref f) = true)
    (h : wpAny (model prog w) A (call (.ref f) [.ref x, b]) (PySem.W.CmpBack fun v => Q (some v)) E s) : wpAny (model prog w) A (binaryOp1 nm (.ref x) b) Q E s := by
  have X := X₀.keeps F.keep
  obtain ⟨cd, rest, hcd, hm⟩ := ksp_first hc
  have one := ksp_try X I hs hf h
  obtain ⟨hh, gg, d, tt, os⟩ := s
  have L1 : Looks (model prog w) hh (typeOf (.ref x)) (.ref C) := I.type
  have L3 : Looks (model prog w) hh (fillsNumberSlot (.ref C) nm) true := fills_K X hcd hm hs
  unfold binaryOp1
  refine wpAny_bind (L1.at (wpAny_bind (hb.at (wpAny_bind (L3.at ?_)))))
  simp only [beq_self_eq_true, if_true]
  ksp_lk
  refine wpAny_mono one (fun r s' hr' => ?_) fun _ _ e => e
  obtain ⟨v, rfl, hq⟩ := hr'
  ksp_lk
  exact hq
theorem bin1_int {nm : String} {fo ro rc : Option Value} {Q : Option Value → Shared → Prop} (F : Fr h₀ L s.heap m) (X₀ : K.In h₀) (I : InstAt s.heap x ox C od) (hc : selfFirst K C = true)
    (hs : findIn K (.ref C) (PySem.dunder nm) = some (some (.ref f))) (hf : isFn K (.ref f) = true) (hr : findIn K (.ref C) (dunderR nm) = some rc) (hp : rc = none ∨ ∃ g : Addr, rc = some (.ref g))
    (h1 : findIn K (.type "int") (PySem.dunder nm) = some fo) (h2 : findIn K (.type "int") (dunderR nm) = some ro) (hsub : subIn K (.type "int") (.ref C) = some false)
    (h : wpAny (model prog w) A (call (.ref f) [.ref x, .int n t]) (PySem.W.CmpBack fun v => Q (some v)) E s) : wpAny (model prog w) A (binaryOp1 nm (.ref x) (.int n t)) Q E s := by
  have X := X₀.keeps F.keep
  obtain ⟨cd, rest, hcd, hm⟩ := ksp_first hc
  have one := ksp_try X I hs hf h
  obtain ⟨hh, gg, d, tt, os⟩ := s
  have L1 : Looks (model prog w) hh (typeOf (.ref x)) (.ref C) := I.type
  have L2 : Looks (model prog w) hh (typeOf (.int n t)) (.type "int") := Looks.of_pure rfl
  have L3 : Looks (model prog w) hh (fillsNumberSlot (.ref C) nm) true := fills_K X hcd hm hs
  have L4 : Looks (model prog w) hh (fillsNumberSlot (.type "int") nm) ((fo.isSome && !isSeqSlot fo) || (ro.isSome && !isSeqSlot ro)) := ksp_fillsT X h1 h2
  have L5 : Looks (model prog w) hh (isSubtype (.type "int") (.ref C)) false := looks_subIn X hsub
  have L6 : Looks (model prog w) hh (numberSlotInPython (.ref C) nm) true := ksp_inPy X hs hr hp
  have L7 : Looks (model prog w) hh (numberSlotInPython (.type "int") nm) false := Looks.of_pure rfl
  have L8 : Looks (model prog w) hh (typeLookup (.type "int") (dunderR nm)) ro := looks_findIn X h2
  generalize ((fo.isSome && !isSeqSlot fo) || (ro.isSome && !isSeqSlot ro)) = right at L4
  have hne : (Value.ref C == Value.type "int") = false := Bool.eq_false_iff.mpr fun q => by cases beq_iff_eq.mp q
  unfold binaryOp1
  refine wpAny_bind (L1.at (wpAny_bind (L2.at (wpAny_bind (L3.at ?_)))))
  simp only [hne, Bool.false_eq_true, if_false]
  cases right <;>
  · ksp_lk
    refine wpAny_mono one (fun r s' hr' => ?_) fun _ _ e => e
    obtain ⟨v, rfl, hq⟩ := hr'
    ksp_lk
    exact hq
/-- x op= b without an __i..__ -/
theorem inplace_by {op : Operator} {Q : Value → Shared → Prop} (X : K.In s.heap) (I : InstAt s.heap x ox C od) (hu : underObject K C = true) (h1 : findIn K (.ref C) (dunderI op.info.2) = some none) (h2 : findIn K (.type "object") (dunderI op.info.2) = some none)
    (h : wpAny (model prog w) A (binaryOp1 op.info.2 (.ref x) b) (fun r s' => ∃ v, r = some v ∧ Q v s') E s) : wpAny (model prog w) A (inplaceOp op (.ref x) b) Q E s := by
  obtain ⟨hh, g, d, tt, os⟩ := s
  have L1 : Looks (model prog w) hh (typeOf (.ref x)) (.ref C) := I.type
  have L2 : Looks (model prog w) hh (fillsInplaceSlot (.ref C) op.info.2 (op == .Add)) false := no_inplace X hu h1 h2
  unfold inplaceOp
  refine wpAny_holding ?_
  refine wpAny_bind (L1.at (wpAny_bind (L2.at ?_)))
  simp only [Bool.false_eq_true, if_false]
  refine wpAny_bind (wpAny_mono h (fun r s' hr => ?_) fun _ _ e => e)
  obtain ⟨v, rfl, hq⟩ := hr
  exact wpAny_pure hq
/-- abs(x) by an own __abs__ -/
theorem abs_own {Q : Value → Shared → Prop} (X : K.In s.heap) (I : InstAt s.heap x ox C od) (hs : findIn K (.ref C) "__abs__" = some (some (.ref f))) (hf : isFn K (.ref f) = true)
    (h : wpAny (model prog w) A.in1 (call (.ref f) [.ref x]) Q E s) : wpAny (model prog w) A (call (.builtin "abs") [.ref x]) Q E s := by
  refine Calls.call_function_entry PyProof.Rows.kind_abs PyProof.Rows.plain_abs PyProof.Rows.entry_abs (PyProof.Rows.args_abs _) ?_
  unfold Builtin.«abs»
  refine wpAny_bind (m := oneArg "abs" ⟨[.ref x], []⟩) (wpAny_pure ?_)
  exact wpAny_bind (special_fn X I hs (beq_iff_eq.mp hf) (wpAny_mono h (fun r s' hr => wpAny_pure ⟨_, rfl, hr⟩) fun _ _ y => y))
/-- bool(x) by an own __bool__ -/
theorem bool_own {Q : Value → Shared → Prop} (F : Fr h₀ L s.heap m) (X₀ : K.In h₀) (I : InstAt s.heap x ox C od) (hs : findIn K (.ref C) "__bool__" = some (some (.ref f))) (hf : isFn K (.ref f) = true)
    (h : wpAny (model prog w) A.in1.in1 (call (.ref f) [.ref x]) (PySem.W.BoolBack fun b s' => Q (.bool b) s') E s) : wpAny (model prog w) A (call (.type "bool") [.ref x]) Q E s := by
  have tr := truthy_K (M := model prog w) (Q := fun b s' => Q (.bool b) s') F X₀ I hs hf h
  refine callType_codes (T := "bool") (Bi := Builtin.«object.__init__») (Q₁ := fun r s₁ => ∃ b, r = Value.bool b ∧ Q r s₁) PySem.F.called_bool (PySem.F.typeCall_bool_1 _) PySem.F.entry_object_init ?_ ?_
  · refine codeAny_of_tree ?_
    show wpAny _ A.in1.in1 (do checkBuiltinCall "bool.__new__" ⟨[.type "bool", .ref x], []⟩; again (.builtin "bool.__new__" ⟨[.type "bool", .ref x], []⟩)) _ _ s
    refine wpAny_bind (wpAny_of_eq (PySem.F.newCall_bool_1 _) (wpAny_pure ⟨plainId_quiet (by decide +kernel) _, codeAny_builtin PySem.F.entry_bool_new ?_⟩))
    rw [Around.under_plainId (by decide +kernel) _]
    unfold Builtin.«bool.__new__»
    have f1 := PySem.F.conv_sub_bool
    obtain ⟨hp, g, d, tk, os⟩ := s
    repeat (any_goals (first | assumption | (with_reducible refine wpAny_mono tr (fun b s' hb => ?_) fun _ _ e => e) | wp_step))
    exact ⟨_, rfl, hb⟩
  · rintro obj s₁ ⟨b, rfl, hq⟩
    exact ⟨PySem.typeIs_bool _ _, PySem.F.args_object_init_2 _ _, object_init_meets PySem.F.called_bool.init.lookup PySem.F.called_bool.made (by decide) prog w A.in1 _ s₁ ⟨PySem.typeIs_bool _ _, rfl, hq⟩⟩
end
end Trk

namespace Trk
open PySem L2 Evl

/-! ### what a value is, whatever its address -/
inductive D where
  | v (x : V)
  | obj (C : Addr) (fs : List (Str × D))
  | lst (xs : List D)
  | scr (ns : List Int)
  | tup (xs : List D)
  | exc (C : Addr) (fs : List (Str × D))
  | ced (a : Addr) (d : Option Addr) (fs : List (Str × D))
/-- at a stands an exception of the class C with the dict d -/
def IsX (a C : Addr) (d : Option Addr) (o : HO) : Prop := ∀ (P : Program) (w : World) (H : Hp) (h : Heap), ObjOk P w H h a o → ∃ (oe : Obj) (vs : Array Value), h.get? a = some oe ∧ Zc (.ref C) d oe ∧ oe.data = .fields vs
mutual
def Den (K : PySem.W.Frag) (H : Hp) : D → V → Prop
  | .v x, y => y = x
  | .obj C fs, y => ∃ a dx gs, y = .ref a ∧ H a = some (.ins C dx gs) ∧ DenF K H fs gs
  | .lst xs, y => ∃ a ys, y = .ref a ∧ H a = some (.lst ys) ∧ DenL K H xs ys
  | .scr ns, y => ∃ a, y = .ref a ∧ SqL K H a (ns.map V.int)
  | .tup xs, y => ∃ a ys, y = .ref a ∧ SqT K H a ys ∧ DenL K H xs ys
  | .exc C fs, y => ∃ a o, y = .ref a ∧ H a = some o ∧ ((fs = [] ∧ IsX a C none o) ∨ ∃ dd gs, fs ≠ [] ∧ IsX a C (some dd) o ∧ H dd = some (exd dd gs) ∧ DenF K H fs gs)
  | .ced a d fs, y => y = .ref a ∧ ((fs = [] ∧ d = none) ∨ ∃ dd gs, fs ≠ [] ∧ d = some dd ∧ H dd = some (.xd gs) ∧ DenF K H fs gs)
def DenL (K : PySem.W.Frag) (H : Hp) : List D → List V → Prop
  | [], ys => ys = []
  | x :: xs, ys => ∃ z zs, ys = z :: zs ∧ Den K H x z ∧ DenL K H xs zs
def DenF (K : PySem.W.Frag) (H : Hp) : List (Str × D) → List (Str × V) → Prop
  | [], ys => ys = []
  | (f, x) :: xs, ys => ∃ z zs, ys = (f, z) :: zs ∧ Den K H x z ∧ DenF K H xs zs
end
section
variable {K : PySem.W.Frag} {H H' : Hp}
mutual
theorem Den.mono (e : Ex H H') : ∀ {d : D} {y : V}, Den K H d y → Den K H' d y
  | .v x, y, h => by
    simp only [Den] at h ⊢
    exact h
  | .obj C fs, y, h => by
    simp only [Den] at h ⊢
    obtain ⟨a, dx, gs, h1, h2, h3⟩ := h
    exact ⟨a, dx, gs, h1, e _ _ h2, DenF.mono e h3⟩
  | .lst xs, y, h => by
    simp only [Den] at h ⊢
    obtain ⟨a, ys, h1, h2, h3⟩ := h
    exact ⟨a, ys, h1, e _ _ h2, DenL.mono e h3⟩
  | .scr ns, y, h => by
    simp only [Den] at h ⊢
    obtain ⟨a, h1, h2⟩ := h
    exact ⟨a, h1, ex_l e h2⟩
  | .tup xs, y, h => by
    simp only [Den] at h ⊢
    obtain ⟨a, ys, h1, h2, h3⟩ := h
    exact ⟨a, ys, h1, ex_t e h2, DenL.mono e h3⟩
  | .exc C fs, y, h => by
    simp only [Den] at h ⊢
    obtain ⟨a, o, h1, h2, h3⟩ := h
    refine ⟨a, o, h1, e _ _ h2, ?_⟩
    rcases h3 with h3 | ⟨dd, gs, h4, h5, h6, h7⟩
    · exact .inl h3
    · exact .inr ⟨dd, gs, h4, h5, e _ _ h6, DenF.mono e h7⟩
  | .ced a d fs, y, h => by
    simp only [Den] at h ⊢
    obtain ⟨h1, h3⟩ := h
    refine ⟨h1, ?_⟩
    rcases h3 with h3 | ⟨dd, gs, h4, h5, h6, h7⟩
    · exact .inl h3
    · exact .inr ⟨dd, gs, h4, h5, e _ _ h6, DenF.mono e h7⟩
theorem DenL.mono (e : Ex H H') : ∀ {ds : List D} {ys : List V}, DenL K H ds ys → DenL K H' ds ys
  | [], ys, h => by
    simp only [DenL] at h ⊢
    exact h
  | x :: xs, ys, h => by
    simp only [DenL] at h ⊢
    obtain ⟨z, zs, h1, h2, h3⟩ := h
    exact ⟨z, zs, h1, Den.mono e h2, DenL.mono e h3⟩
theorem DenF.mono (e : Ex H H') : ∀ {ds : List (Str × D)} {ys : List (Str × V)}, DenF K H ds ys → DenF K H' ds ys
  | [], ys, h => by
    simp only [DenF] at h ⊢
    exact h
  | (f, x) :: xs, ys, h => by
    simp only [DenF] at h ⊢
    obtain ⟨z, zs, h1, h2, h3⟩ := h
    exact ⟨z, zs, h1, Den.mono e h2, DenF.mono e h3⟩
end
theorem den_v {x y : V} : Den K H (.v x) y ↔ y = x := by simp only [Den]
theorem DenL.cons {d : D} {ds : List D} {x : V} {xs : List V} (h : Den K H d x) (t : DenL K H ds xs) : DenL K H (d :: ds) (x :: xs) := by
  simp only [DenL]
  exact ⟨x, xs, rfl, h, t⟩
theorem DenL.nil : DenL K H [] [] := by simp only [DenL]
theorem DenL.len : ∀ {ds : List D} {ys : List V}, DenL K H ds ys → ds.length = ys.length
  | [], ys, h => by
    simp only [DenL] at h
    subst h
    rfl
  | x :: xs, ys, h => by
    simp only [DenL] at h
    obtain ⟨z, zs, h1, h2, h3⟩ := h
    rw [h1, List.length_cons, List.length_cons, DenL.len h3]
theorem DenL.get : ∀ {ds : List D} {ys : List V} {i : Nat} {d : D}, DenL K H ds ys → ds[i]? = some d → ∃ y, ys[i]? = some y ∧ Den K H d y
  | [], ys, i, d, h, e => by simp at e
  | x :: xs, ys, 0, d, h, e => by
    simp only [DenL] at h
    obtain ⟨z, zs, h1, h2, h3⟩ := h
    subst h1
    simp at e
    subst e
    exact ⟨z, by simp, h2⟩
  | x :: xs, ys, i + 1, d, h, e => by
    simp only [DenL] at h
    obtain ⟨z, zs, h1, h2, h3⟩ := h
    subst h1
    obtain ⟨y, h4, h5⟩ := DenL.get (i := i) (d := d) h3 (by simpa using e)
    exact ⟨y, by simpa using h4, h5⟩
theorem denL_two {d e : D} {ys : List V} (h : DenL K H [d, e] ys) : ∃ x y, ys = [x, y] ∧ Den K H d x ∧ Den K H e y := by
  simp only [DenL] at h
  obtain ⟨x, _, rfl, h1, y, _, rfl, h2, rfl⟩ := h
  exact ⟨x, y, rfl, h1, h2⟩
theorem denL_one {d : D} {ys : List V} (h : DenL K H [d] ys) : ∃ x, ys = [x] ∧ Den K H d x := by
  simp only [DenL] at h
  obtain ⟨x, _, rfl, h1, rfl⟩ := h
  exact ⟨x, rfl, h1⟩
end

/-! ### slots -/
abbrev Gm := List (Option D)
def Ctx (K : PySem.W.Frag) (H : Hp) (Γ : Gm) (σ : L2.St) : Prop := ∀ (i : Nat) (d : D), Γ[i]? = some (some d) → ∃ v, σ[i]? = some (some v) ∧ Den K H d v
theorem Ctx.mono {K : PySem.W.Frag} {H H' : Hp} {Γ : Gm} {σ : L2.St} (e : Ex H H') (c : Ctx K H Γ σ) : Ctx K H' Γ σ := fun i d h => by
  obtain ⟨v, h1, h2⟩ := c i d h
  exact ⟨v, h1, h2.mono e⟩
theorem Ctx.set {K : PySem.W.Frag} {H : Hp} {Γ : Gm} {σ : L2.St} {i : Nat} {d : D} {v : V} (c : Ctx K H Γ σ) (hi : i < σ.length) (h : Den K H d v) : Ctx K H (Γ.set i (some d)) (σ.set i (some v)) := fun j d' e => by
  by_cases hj : i = j
  · subst hj
    rw [List.getElem?_set] at e
    simp only [if_true] at e
    split at e
    · cases Option.some.inj (Option.some.inj e)
      exact ⟨v, List.getElem?_set_self hi, h⟩
    · cases e
  · rw [List.getElem?_set_ne hj] at e
    obtain ⟨w, h1, h2⟩ := c j d' e
    exact ⟨w, by rw [List.getElem?_set_ne hj]; exact h1, h2⟩

/-! ### the judgements -/
section
variable (X : Cx)
def ED (e : Expr) (Γ : Gm) (d : D) : Prop := ∃ t, PE X e t ∧ ∀ σ H, Ctx X.K H Γ σ → ∀ Q : VK, (∀ v H', Ex H H' → Den X.K H' d v → Q v H') → t σ H Q
def TD (e : Expr) (Γ : Gm) (b : Bool) : Prop := ∃ t, PT X e t ∧ ∀ σ H, Ctx X.K H Γ σ → ∀ Q : Bool → Hp → Prop, (∀ H', Ex H H' → Q b H') → t σ H Q
def WD (e : Expr) (Γ : Gm) (b : Bool) : Prop := ∃ t, PW X e t ∧ ∀ σ H, Ctx X.K H Γ σ → ∀ Q : Bool → Hp → Prop, (∀ H', Ex H H' → Q b H') → t σ H Q
def AD (es : List Expr) (Γ : Gm) (ds : List D) : Prop := ∃ t, PA X es t ∧ ∀ σ H, Ctx X.K H Γ σ → ∀ Q : List V → Hp → Prop, (∀ vs H', Ex H H' → DenL X.K H' ds vs → Q vs H') → t σ H Q
end
inductive Out where
  | nx (Γ : Gm)
  | rt (d : D)
  | bk (Γ : Gm)
  | ct (Γ : Gm)
  | ex (cls : Value) (fs : List (Str × D)) (Γ : Gm)
/-- what X takes of an exception -/
def W0 (X : Cx) : WX := fun cls d σ H => ∀ u s', XE X (fun c d' σ' H' => c = cls ∧ d' = d ∧ σ' = σ ∧ H' = H) u s' → X.xe u s'
theorem tk0 {X : Cx} : L2.Takes X (W0 X) := fun u s' ⟨a, B, sI, pins, σ, H, cls, d, e, I, nb, up, sky, na, os, ag, w⟩ => w u s' ⟨a, B, sI, pins, σ, H, cls, d, e, I, nb, up, sky, na, os, ag, rfl, rfl, rfl, rfl⟩
theorem w0_of {X : Cx} {W : WX} {cls : Value} {d : Option Addr} {σ : L2.St} {H : Hp} (tk : L2.Takes X W) (h : W cls d σ H) : W0 X cls d σ H := fun u s' ⟨a, B, sI, pins, σ', H', cls', d', e, I, nb, up, sky, na, os, ag, h1, h2, h3, h4⟩ => by
  subst h1; subst h2; subst h3; subst h4
  exact tk u s' ⟨a, B, sI, pins, _, _, _, _, e, I, nb, up, sky, na, os, ag, h⟩
/-- what the exception bears -/
def DenX (K : PySem.W.Frag) (H : Hp) (d : Option Addr) (fs : List (Str × D)) : Prop := (fs = [] ∧ d = none) ∨ ∃ dd gs, fs ≠ [] ∧ d = some dd ∧ H dd = some (.xd gs) ∧ DenF K H fs gs
theorem DenX.mono {K : PySem.W.Frag} {H H' : Hp} {d : Option Addr} {fs : List (Str × D)} (e : Ex H H') (h : DenX K H d fs) : DenX K H' d fs := by
  rcases h with h | ⟨dd, gs, h0, h1, h2, h3⟩
  · exact .inl h
  · exact .inr ⟨dd, gs, h0, h1, e _ _ h2, h3.mono e⟩
/-- where the ends take what Φ says -/
structure Tk (X : Cx) (H : Hp) (Φ : Out → Prop) (E : Ends) : Prop where
  nx : ∀ Γ σ H', Φ (.nx Γ) → Ex H H' → σ.length = X.N.length → Ctx X.K H' Γ σ → E.nx σ H'
  rt : ∀ d v H', Φ (.rt d) → Ex H H' → Den X.K H' d v → E.rt v H'
  bk : ∀ Γ σ H', Φ (.bk Γ) → Ex H H' → σ.length = X.N.length → Ctx X.K H' Γ σ → E.bk σ H'
  ct : ∀ Γ σ H', Φ (.ct Γ) → Ex H H' → σ.length = X.N.length → Ctx X.K H' Γ σ → E.ct σ H'
  ex : ∀ cls fs Γ d σ H', Φ (.ex cls fs Γ) → Ex H H' → σ.length = X.N.length → Ctx X.K H' Γ σ → DenX X.K H' d fs → W0 X cls d σ H'
theorem Tk.mono {X : Cx} {H H' : Hp} {Φ : Out → Prop} {E : Ends} (e : Ex H H') (t : Tk X H Φ E) : Tk X H' Φ E :=
  ⟨fun Γ σ H2 h e2 => t.nx Γ σ H2 h (e.trans e2), fun d v H2 h e2 => t.rt d v H2 h (e.trans e2), fun Γ σ H2 h e2 => t.bk Γ σ H2 h (e.trans e2), fun Γ σ H2 h e2 => t.ct Γ σ H2 h (e.trans e2), fun c fs Γ d σ H2 h e2 => t.ex c fs Γ d σ H2 h (e.trans e2)⟩
section
variable (X : Cx)
def SD (st : Stmt) (Γ : Gm) (Φ : Out → Prop) : Prop := ∃ t, PS X st t ∧ ∀ σ H, σ.length = X.N.length → Ctx X.K H Γ σ → ∀ E : Ends, Tk X H Φ E → t E σ H
def SsD (st : List Stmt) (Γ : Gm) (Φ : Out → Prop) : Prop := ∃ t, PSs X st t ∧ ∀ σ H, σ.length = X.N.length → Ctx X.K H Γ σ → ∀ E : Ends, Tk X H Φ E → t E σ H
end

section
variable {X : Cx} {Γ : Gm} {d d1 d2 : D} {e a b c : Expr} {es : List Expr} {pos : Pos} {st : Stmt} {sts rest : List Stmt} {Φ Ψ : Out → Prop}

/-! ### expressions -/
theorem ed_var (i : Nat) {x : Str} (h : Γ[i]? = some (some d)) (hN : X.N[i]? = some x := by rfl) (hv : Vis X.env.scope x := by first | exact Or.inl rfl | exact Or.inr (Or.inl rfl) | exact Or.inr (Or.inr rfl)) (hd : (x == ("__debug__" : Str)) = false := by decide)
    (hcd : (x == ("__classdict__" : Str)) = false := by decide) : ED X (.Name x pos) Γ d := by
  refine ⟨_, pe_var hN hv hd hcd, fun σ H C Q q => ?_⟩
  obtain ⟨v, h1, h2⟩ := C i d h
  exact ⟨v, h1, q v H (Ex.refl H) h2⟩
theorem ed_int {n : Int} {j : Nat} : ED X (.Constant (.int n) j pos) Γ (.v (.int n)) := ⟨_, pe_int, fun σ H C Q q => q _ H (Ex.refl H) (den_v.mpr rfl)⟩
theorem ed_bl {n : Bool} {j : Nat} : ED X (.Constant (.bool n) j pos) Γ (.v (.bl n)) := ⟨_, pe_bl, fun σ H C Q q => q _ H (Ex.refl H) (den_v.mpr rfl)⟩
theorem ed_non {j : Nat} : ED X (.Constant .none j pos) Γ (.v .non) := ⟨_, pe_non, fun σ H C Q q => q _ H (Ex.refl H) (den_v.mpr rfl)⟩
theorem ed_str {x : Str} {j : Nat} : ED X (.Constant (.str x) j pos) Γ (.v (.str x)) := ⟨_, pe_str, fun σ H C Q q => q _ H (Ex.refl H) (den_v.mpr rfl)⟩
theorem ed_is (h : ED X e Γ d1) (q : d1 = d) : ED X e Γ d := q ▸ h

/-- what an operation by values gives -/
def RD (K : PySem.W.Frag) (r : R2) (d1 d2 d : D) : Prop := ∀ x y H, Den K H d1 x → Den K H d2 y → ∀ Q : VK, (∀ v H', Ex H H' → Den K H' d v → Q v H') → r x y H Q
def UD (K : PySem.W.Frag) (r : V → Hp → VK → Prop) (d1 d : D) : Prop := ∀ x H, Den K H d1 x → ∀ Q : VK, (∀ v H', Ex H H' → Den K H' d v → Q v H') → r x H Q
def CD (K : PySem.W.Frag) (r : List V → Hp → VK → Prop) (ds : List D) (d : D) : Prop := ∀ xs H, DenL K H ds xs → ∀ Q : VK, (∀ v H', Ex H H' → Den K H' d v → Q v H') → r xs H Q
theorem ed_op {op : Operator} {r : R2} (ho : OpR X (binaryOp op) r) (ha : ED X a Γ d1) (hb : ED X b Γ d2) (hr : RD X.K r d1 d2 d) : ED X (.BinOp a op b pos) Γ d := by
  obtain ⟨ta, pa, qa⟩ := ha
  obtain ⟨tb, pb, qb⟩ := hb
  refine ⟨_, pe_op ho pa pb, fun σ H C Q q => qa σ H C _ fun x H1 e1 h1 => qb σ H1 (C.mono e1) _ fun y H2 e2 h2 => hr x y H2 (h1.mono e2) h2 _ fun v H3 e3 h3 => q v H3 ((e1.trans e2).trans e3) h3⟩
theorem ed_cmp {op : CmpOp} {r : R2} (ho : OpR X (compareOp op) r) (ha : ED X a Γ d1) (hb : ED X b Γ d2) (hr : RD X.K r d1 d2 d) (hm : behindInMarks op b = false := by exact nomark _) : ED X (.Compare a [op] [b] pos) Γ d := by
  obtain ⟨ta, pa, qa⟩ := ha
  obtain ⟨tb, pb, qb⟩ := hb
  refine ⟨_, pe_cmpR ho pa pb hm, fun σ H C Q q => qa σ H C _ fun x H1 e1 h1 => qb σ H1 (C.mono e1) _ fun y H2 e2 h2 => hr x y H2 (h1.mono e2) h2 _ fun v H3 e3 h3 => q v H3 ((e1.trans e2).trans e3) h3⟩
theorem td_cmp {op : CmpOp} {r : R2} {k : Bool} (ho : OpR X (compareOp op) r) (ha : ED X a Γ d1) (hb : ED X b Γ d2) (hr : RD X.K r d1 d2 (.v (.bl k))) (hm : behindInMarks op b = false := by exact nomark _) : TD X (.Compare a [op] [b] pos) Γ k := by
  obtain ⟨ta, pa, qa⟩ := ha
  obtain ⟨tb, pb, qb⟩ := hb
  refine ⟨_, pt_cmpR ho pa pb hm, fun σ H C Q q => qa σ H C _ fun x H1 e1 h1 => qb σ H1 (C.mono e1) _ fun y H2 e2 h2 => hr x y H2 (h1.mono e2) h2 _ fun v H3 e3 h3 => ⟨k, den_v.mp h3, q H3 ((e1.trans e2).trans e3)⟩⟩
theorem ed_un {op : UnaryOp} {r : V → Hp → VK → Prop} (ho : UnR X (unaryOp op) r) (ha : ED X a Γ d1) (hr : UD X.K r d1 d) : ED X (.UnaryOp op a pos) Γ d := by
  obtain ⟨ta, pa, qa⟩ := ha
  exact ⟨_, pe_un ho pa, fun σ H C Q q => qa σ H C _ fun x H1 e1 h1 => hr x H1 h1 _ fun v H3 e3 h3 => q v H3 (e1.trans e3) h3⟩

section
variable {K : PySem.W.Frag} {i j : Int}
theorem rd_I0 {g : Int → Int → V} : RD K (rI0 g) (.v (.int i)) (.v (.int j)) (.v (g i j)) := fun x y H h1 h2 Q q => ⟨i, j, den_v.mp h1, den_v.mp h2, q _ H (Ex.refl H) (den_v.mpr rfl)⟩
theorem rd_I {C : Int → Int → Prop} {g : Int → Int → V} (hc : C i j) : RD K (rI C g) (.v (.int i)) (.v (.int j)) (.v (g i j)) := fun x y H h1 h2 Q q => ⟨i, j, den_v.mp h1, den_v.mp h2, hc, q _ H (Ex.refl H) (den_v.mpr rfl)⟩
theorem ud_neg : UD K (rU fun i => .int (-i)) (.v (.int i)) (.v (.int (-i))) := fun x H h1 Q q => ⟨i, den_v.mp h1, q _ H (Ex.refl H) (den_v.mpr rfl)⟩
theorem rd_eq {x y : V} (h : scal x y = true) : RD K rEq (.v x) (.v y) (.v (.bl (decide (x = y)))) := fun a b H h1 h2 Q q => by
  rw [den_v.mp h1, den_v.mp h2]
  exact ⟨h, q _ H (Ex.refl H) (den_v.mpr rfl)⟩
theorem rd_ne {x y : V} (h : scal x y = true) : RD K rNe (.v x) (.v y) (.v (.bl (!decide (x = y)))) := fun a b H h1 h2 Q q => by
  rw [den_v.mp h1, den_v.mp h2]
  exact ⟨h, q _ H (Ex.refl H) (den_v.mpr rfl)⟩
end

/-! ### tests -/
theorem td_val {b : Bool} (h : ED X e Γ (.v (.bl b))) (he : ∀ whole, isTrue e X.env whole = (do let v ← whole; standAt e.pos; holding [v] (truthy v)) := by intro _; rfl) : TD X e Γ b := by
  obtain ⟨t, p, q⟩ := h
  exact ⟨_, pt_val p he, fun σ H C Q k => q σ H C _ fun v H1 e1 h1 => ⟨b, den_v.mp h1, k H1 e1⟩⟩
theorem td_not {k : Bool} (h : TD X a Γ k) : TD X (.UnaryOp .Not a pos) Γ (!k) := by
  obtain ⟨t, p, q⟩ := h
  exact ⟨_, pt_not p, fun σ H C Q r => q σ H C _ fun H1 e1 => r H1 e1⟩
theorem wd_and1 {k : Bool} (h : TD X a Γ k) : WD X (.BoolOp .And [a] pos) Γ k := by
  obtain ⟨t, p, q⟩ := h
  exact ⟨_, pw_and1 p, q⟩
theorem wd_or1 {k : Bool} (h : TD X a Γ k) : WD X (.BoolOp .Or [a] pos) Γ k := by
  obtain ⟨t, p, q⟩ := h
  exact ⟨_, pw_or1 p, q⟩
theorem pw_never : PW X e (fun _ _ _ => False) := ⟨fun _ _ _ _ _ _ _ h => h.elim⟩
theorem pt_never : PT X e (fun _ _ _ => False) := ⟨fun _ _ _ _ _ _ h => h.elim⟩
theorem pe_never : PE X e (fun _ _ _ => False) := ⟨fun _ _ _ _ _ _ h => h.elim⟩
theorem pss_nv : PSs X sts (fun _ _ _ => False) := ⟨fun _ _ _ _ _ _ h => h.elim⟩
theorem ps_nv : PS X st (fun _ _ _ => False) := ⟨fun _ _ _ _ _ _ h => h.elim⟩
/-- a and ..: a False -/
theorem wd_andF (h : TD X a Γ false) : WD X (.BoolOp .And (a :: b :: es) pos) Γ false := by
  obtain ⟨t, p, q⟩ := h
  exact ⟨_, pw_and p pw_never, fun σ H C Q r => q σ H C _ fun H1 e1 => r H1 e1⟩
theorem wd_andT {k : Bool} (h : TD X a Γ true) (h2 : WD X (.BoolOp .And (b :: es) pos) Γ k) : WD X (.BoolOp .And (a :: b :: es) pos) Γ k := by
  obtain ⟨t, p, q⟩ := h
  obtain ⟨t2, p2, q2⟩ := h2
  exact ⟨_, pw_and p p2, fun σ H C Q r => q σ H C _ fun H1 e1 => q2 σ H1 (C.mono e1) Q fun H2 e2 => r H2 (e1.trans e2)⟩
theorem wd_orT (h : TD X a Γ true) : WD X (.BoolOp .Or (a :: b :: es) pos) Γ true := by
  obtain ⟨t, p, q⟩ := h
  exact ⟨_, pw_or p pw_never, fun σ H C Q r => q σ H C _ fun H1 e1 => r H1 e1⟩
theorem wd_orF {k : Bool} (h : TD X a Γ false) (h2 : WD X (.BoolOp .Or (b :: es) pos) Γ k) : WD X (.BoolOp .Or (a :: b :: es) pos) Γ k := by
  obtain ⟨t, p, q⟩ := h
  obtain ⟨t2, p2, q2⟩ := h2
  exact ⟨_, pw_or p p2, fun σ H C Q r => q σ H C _ fun H1 e1 => q2 σ H1 (C.mono e1) Q fun H2 e2 => r H2 (e1.trans e2)⟩
theorem WD.td {k : Bool} (h : WD X e Γ k) : TD X e Γ k := by
  obtain ⟨t, p, q⟩ := h
  exact ⟨t, p.pt, q⟩
/-- and, or, not as values -/
theorem ed_not {k : Bool} (h : ED X a Γ (.v (.bl k))) : ED X (.UnaryOp .Not a pos) Γ (.v (.bl (!k))) := by
  obtain ⟨t, p, q⟩ := h
  exact ⟨_, pe_not p, fun σ H C Q r => q σ H C _ fun v H1 e1 h1 => ⟨k, den_v.mp h1, r _ H1 e1 (den_v.mpr rfl)⟩⟩
theorem ed_one {op} (h : ED X a Γ d) : ED X (.BoolOp op [a] pos) Γ d := by
  obtain ⟨t, p, q⟩ := h
  exact ⟨_, pe_one p, q⟩
theorem ed_andT {d : D} (h : ED X a Γ (.v (.bl true))) (h2 : ED X (.BoolOp .And (b :: es) pos) Γ d) : ED X (.BoolOp .And (a :: b :: es) pos) Γ d := by
  obtain ⟨t, p, q⟩ := h
  obtain ⟨t2, p2, q2⟩ := h2
  exact ⟨_, pe_and p p2, fun σ H C Q r => q σ H C _ fun v H1 e1 h1 => ⟨true, den_v.mp h1, q2 σ H1 (C.mono e1) Q fun w H2 e2 h3 => r w H2 (e1.trans e2) h3⟩⟩
theorem ed_andF (h : ED X a Γ (.v (.bl false))) : ED X (.BoolOp .And (a :: b :: es) pos) Γ (.v (.bl false)) := by
  obtain ⟨t, p, q⟩ := h
  exact ⟨_, pe_and p pe_never, fun σ H C Q r => q σ H C _ fun v H1 e1 h1 => ⟨false, den_v.mp h1, r _ H1 e1 (den_v.mpr rfl)⟩⟩
theorem ed_orF {d : D} (h : ED X a Γ (.v (.bl false))) (h2 : ED X (.BoolOp .Or (b :: es) pos) Γ d) : ED X (.BoolOp .Or (a :: b :: es) pos) Γ d := by
  obtain ⟨t, p, q⟩ := h
  obtain ⟨t2, p2, q2⟩ := h2
  exact ⟨_, pe_or p p2, fun σ H C Q r => q σ H C _ fun v H1 e1 h1 => ⟨false, den_v.mp h1, q2 σ H1 (C.mono e1) Q fun w H2 e2 h3 => r w H2 (e1.trans e2) h3⟩⟩
theorem ed_orT (h : ED X a Γ (.v (.bl true))) : ED X (.BoolOp .Or (a :: b :: es) pos) Γ (.v (.bl true)) := by
  obtain ⟨t, p, q⟩ := h
  exact ⟨_, pe_or p pe_never, fun σ H C Q r => q σ H C _ fun v H1 e1 h1 => ⟨true, den_v.mp h1, r _ H1 e1 (den_v.mpr rfl)⟩⟩

/-! ### arguments, displays, calls -/
theorem ad_nil : AD X [] Γ [] := ⟨_, pa_nil, fun σ H C Q r => r [] H (Ex.refl H) DenL.nil⟩
theorem ad_cons {ds : List D} (h : ED X e Γ d) (h2 : AD X es Γ ds) (hs : starEach (e :: es) X.env = (false, eval e X.env) :: starEach es X.env := by rfl) : AD X (e :: es) Γ (d :: ds) := by
  obtain ⟨t, p, q⟩ := h
  obtain ⟨t2, p2, q2⟩ := h2
  exact ⟨_, pa_cons p p2 hs, fun σ H C Q r => q σ H C _ fun v H1 e1 h1 => q2 σ H1 (C.mono e1) _ fun vs H2 e2 h2 => r _ H2 (e1.trans e2) (DenL.cons (h1.mono e2) h2)⟩
theorem ed_lst {ds : List D} (h : AD X es Γ ds) (hl : ds.length ≤ 100000 := by exact Nat.le_of_ble_eq_true rfl) : ED X (.List es pos) Γ (.lst ds) := by
  obtain ⟨t, p, q⟩ := h
  refine ⟨_, pe_lst p, fun σ H C Q r => q σ H C _ fun vs H1 e1 h1 => ⟨by rw [← h1.len]; exact sz_of hl, fun l hn => ?_⟩⟩
  refine r (.ref l) _ (e1.trans (Ex.new hn)) ?_
  simp only [Den]
  exact ⟨l, vs, rfl, upd_same, h1.mono (Ex.new hn)⟩
theorem ed_tup {ds : List D} {x1} (h : AD X es Γ ds) (hl : ds.length ≤ 100000 := by exact Nat.le_of_ble_eq_true rfl) : ED X (.Tuple es x1 pos) Γ (.tup ds) := by
  obtain ⟨t, p, q⟩ := h
  refine ⟨_, pe_tup p, fun σ H C Q r => q σ H C _ fun vs H1 e1 h1 => ⟨by rw [← h1.len]; exact sz_of hl, fun l hn => ?_⟩⟩
  refine r (.ref l) _ (e1.trans (Ex.new hn)) ?_
  simp only [Den]
  exact ⟨l, vs, rfl, st_of upd_same, h1.mono (Ex.new hn)⟩
/-- the promise of a def that only makes things: from such arguments such a result -/
def spD (K : PySem.W.Frag) (n : Nat) (R : List D → D → Prop) : Sp := fun vs H Q _ => ∃ ds d, ds.length = n ∧ DenL K H ds vs ∧ R ds d ∧ ∀ v H', Ex H H' → Den K H' d v → Q v H'
theorem spD_len {K : PySem.W.Frag} {n : Nat} {R : List D → D → Prop} {vs : List V} {H : Hp} {Q : VK} {E : XK} (h : spD K n R vs H Q E) : vs.length = n := by
  obtain ⟨ds, d, h1, h2, _⟩ := h
  rw [← h2.len, h1]
theorem ed_call {CX : CXT} {k n : Nat} {f : Addr} {fd : FuncData} {ps : List Str} {R : List D → D → Prop} {E : XK} {x : Str} {p : Pos} {ds : List D} (F : FnOk X.prog X.w X.K X.mg X.base CX k f fd ps (spD X.K n R)) (hr : Room k X.A) (hm : X.mg x = some (.ref f))
    (hk : PySem.W.keepIn X.K (.ref f) = true) (hb : Binds X.K fd ps []) (hx : Passes CX X E) (ha : AD X (e :: es) Γ ds) (hR : R ds d) (hn : ds.length = n := by rfl) (hg : Gl X x := by rfl) (hdb : (x == ("__debug__" : Str)) = false := by decide)
    (he : starEach (e :: es) X.env = (false, eval e X.env) :: starEach es X.env := by rfl) (hpl : (backTo pos (starEach es X.env)).any (·.1) = false := by rfl) : ED X (.Call (.Name x p) (e :: es) [] pos) Γ d := by
  obtain ⟨t, p, q⟩ := ha
  refine ⟨_, pe_call F hr hg hm hk hb .nil hx p hdb he hpl, fun σ H C Q r => q σ H C _ fun vs H1 e1 h1 => ?_⟩
  rw [List.append_nil]
  exact ⟨ds, d, hn, h1, hR, fun v H' e2 h2 => r v H' (e1.trans e2) h2⟩
/-- a built-in called by its name -/
theorem ed_callB {r : List V → Hp → VK → Prop} {id : String} {x : Str} {p : Pos} {ds : List D} (hc : CallR X (.builtin id) r) (hm : X.mg x = none) (hv : bootBuiltins x = some (.builtin id)) (ha : AD X (e :: es) Γ ds) (hr : CD X.K r ds d) (hg : Gl X x := by rfl)
    (hn : x ≠ "__name__" := by decide) (hdb : (x == ("__debug__" : Str)) = false := by decide) (he : starEach (e :: es) X.env = (false, eval e X.env) :: starEach es X.env := by rfl) (hpl : (backTo pos (starEach es X.env)).any (·.1) = false := by rfl) :
    ED X (.Call (.Name x p) (e :: es) [] pos) Γ d := by
  obtain ⟨t, p, q⟩ := ha
  exact ⟨_, pe_callB hc hg hm hv p hn hdb he hpl, fun σ H C Q k => q σ H C _ fun vs H1 e1 h1 => hr vs H1 h1 Q fun v H' e2 h2 => k v H' (e1.trans e2) h2⟩
theorem ed_callTy {r : List V → Hp → VK → Prop} {T : String} {x : Str} {p : Pos} {ds : List D} (hc : CallR X (.type T) r) (hm : X.mg x = none) (hv : bootBuiltins x = some (.type T)) (ha : AD X (e :: es) Γ ds) (hr : CD X.K r ds d) (hg : Gl X x := by rfl)
    (hn : x ≠ "__name__" := by decide) (hdb : (x == ("__debug__" : Str)) = false := by decide) (he : starEach (e :: es) X.env = (false, eval e X.env) :: starEach es X.env := by rfl) (hpl : (backTo pos (starEach es X.env)).any (·.1) = false := by rfl) :
    ED X (.Call (.Name x p) (e :: es) [] pos) Γ d := by
  obtain ⟨t, p, q⟩ := ha
  exact ⟨_, pe_callTy hc hg hm hv p hn hdb he hpl, fun σ H C Q k => q σ H C _ fun vs H1 e1 h1 => hr vs H1 h1 Q fun v H' e2 h2 => k v H' (e1.trans e2) h2⟩
theorem lookup_put {β : Type} (f g : Str) (y : β) (fs : List (Str × β)) : ((f, y) :: fs).lookup g = if g = f then some y else fs.lookup g := by
  by_cases h : g = f
  · subst h
    simp [List.lookup]
  · have e : (g == f) = false := by simpa using h
    rw [if_neg h]
    simp [List.lookup, e]
/-- o.f -/
theorem ed_fld {C : Addr} {fs : List (Str × D)} {f : Str} {p : Pos} (h : ED X e Γ (.obj C fs)) (hc : Cls X.K C) (hn : NoAttr X.K C f) (hl : fs.lookup f = some d) (hb : attributeBase e f X.env (eval e X.env) = eval e X.env := by rfl) : ED X (.Attribute e f p) Γ d := by
  obtain ⟨t, p, q⟩ := h
  refine ⟨_, pe_fld p hb, fun σ H C Q k => q σ H C _ fun v H1 e1 h1 => ?_⟩
  simp only [Den] at h1
  obtain ⟨a, dx, gs, rfl, h2, h3⟩ := h1
  have key : ∀ {fs : List (Str × D)} {gs : List (Str × V)}, DenF X.K H1 fs gs → fs.lookup f = some d → ∃ y, gs.lookup f = some y ∧ Den X.K H1 d y := by
    intro fs
    induction fs with
    | nil =>
      intro gs _ h
      cases h
    | cons p r ih =>
      intro gs hF hl
      obtain ⟨g, x⟩ := p
      simp only [DenF] at hF
      obtain ⟨z, zs, rfl, hz, hzs⟩ := hF
      rw [lookup_put] at hl ⊢
      by_cases hfg : f = g
      · rw [if_pos hfg] at hl ⊢
        cases hl
        exact ⟨z, rfl, hz⟩
      · rw [if_neg hfg] at hl ⊢
        exact ih hzs hl
  obtain ⟨y, h4, h5⟩ := key h3 hl
  exact ⟨a, _, dx, gs, y, rfl, h2, hc, hn, h4, k y H1 e1 h5⟩

/-! ### statements -/
theorem ss_nil (h : Φ (.nx Γ)) : SsD X [] Γ Φ := ⟨_, pss_nil, fun σ H hl C E T => T.nx Γ σ H h (Ex.refl H) hl C⟩
theorem Tk.imp {H : Hp} {E : Ends} (h : ∀ o, Ψ o → Φ o) (t : Tk X H Φ E) : Tk X H Ψ E :=
  ⟨fun Γ σ H2 z => t.nx Γ σ H2 (h _ z), fun d v H2 z => t.rt d v H2 (h _ z), fun Γ σ H2 z => t.bk Γ σ H2 (h _ z), fun Γ σ H2 z => t.ct Γ σ H2 (h _ z), fun c fs Γ d σ H2 z => t.ex c fs Γ d σ H2 (h _ z)⟩
/-- a statement, then the rest -/
theorem ss_seq (h : SD X st Γ Ψ) (hn : ∀ Γ', Ψ (.nx Γ') → SsD X sts Γ' Φ) (ho : ∀ o, (∀ Γ', o ≠ .nx Γ') → Ψ o → Φ o) : SsD X (st :: sts) Γ Φ := by
  obtain ⟨t, p, q⟩ := h
  by_cases hs : ∃ Γ', Ψ (.nx Γ')
  · let u : TS := fun E σ H => ∃ Γ', Ψ (.nx Γ') ∧ σ.length = X.N.length ∧ Ctx X.K H Γ' σ ∧ Tk X H Φ E
    have pu : PSs X sts u := ⟨fun pins s σ H E I ⟨Γ', h1, h2, h3, h4⟩ => by
      obtain ⟨t', p', q'⟩ := hn Γ' h1
      exact p'.run pins s σ H E I (q' σ H h2 h3 E h4)⟩
    refine ⟨_, pss_cons p pu, fun σ H hl C E T => q σ H hl C _ ⟨fun Γ' σ' H' h1 e1 h2 h3 => ⟨Γ', h1, h2, h3, T.mono e1⟩, fun d v H' h1 => T.rt d v H' (ho _ (fun _ z => by cases z) h1), fun Γ' σ' H' h1 => T.bk Γ' σ' H' (ho _ (fun _ z => by cases z) h1), fun Γ' σ' H' h1 => T.ct Γ' σ' H' (ho _ (fun _ z => by cases z) h1), fun c fs Γ' d σ' H' h1 => T.ex c fs Γ' d σ' H' (ho _ (fun _ z => by cases z) h1)⟩⟩
  · refine ⟨_, pss_cons p pss_nv, fun σ H hl C E T => q σ H hl C _ ⟨fun Γ' σ' H' h1 e1 h2 h3 => absurd ⟨Γ', h1⟩ hs, fun d v H' h1 => T.rt d v H' (ho _ (fun _ z => by cases z) h1), fun Γ' σ' H' h1 => T.bk Γ' σ' H' (ho _ (fun _ z => by cases z) h1), fun Γ' σ' H' h1 => T.ct Γ' σ' H' (ho _ (fun _ z => by cases z) h1), fun c fs Γ' d σ' H' h1 => T.ex c fs Γ' d σ' H' (ho _ (fun _ z => by cases z) h1)⟩⟩
theorem sd_asg (i : Nat) {x : Str} {pos' : Pos} (he : ED X e Γ d) (hd : X.N.Nodup) (h : Φ (.nx (Γ.set i (some d)))) (hN : X.N[i]? = some x := by rfl) (hx : Loc X.env.scope x := by first | exact Or.inl rfl | exact Or.inr rfl)
    (hs : swapsWith e (some (.Name x pos')) pos.line X.env = pure false := by rfl) (hf : X.fn x = true ∨ X.env.scope.names.lookup x = some .local := by first | exact .inl rfl | exact .inr rfl) : SD X (.Assign [.Name x pos'] e pos) Γ Φ := by
  obtain ⟨t, p, q⟩ := he
  refine ⟨_, ps_set (i := i) hd hN hx p hs hf, fun σ H hl C E T => q σ H C _ fun v H1 e1 h1 => ?_⟩
  have hi : i < σ.length := by
    rw [hl]
    exact (List.getElem?_eq_some_iff.mp hN).1
  exact T.nx _ _ H1 h e1 (by rw [List.length_set]; exact hl) ((C.mono e1).set hi h1)
theorem sd_ret (he : ED X e Γ d) (h : Φ (.rt d)) : SD X (.Return (some e) pos) Γ Φ := by
  obtain ⟨t, p, q⟩ := he
  exact ⟨_, ps_ret p, fun σ H hl C E T => q σ H C _ fun v H1 e1 h1 => T.rt d v H1 h e1 h1⟩
theorem sd_if {k : Bool} {sa sb : List Stmt} (hc : TD X c Γ k) (ha : k = true → SsD X sa Γ Φ) (hb : k = false → SsD X sb Γ Φ) : SD X (.If c sa sb pos) Γ Φ := by
  obtain ⟨t, p, q⟩ := hc
  cases k with
  | true =>
    obtain ⟨ta, pa, qa⟩ := ha rfl
    exact ⟨_, ps_if p pa pss_nv, fun σ H hl C E T => q σ H C _ fun H1 e1 => qa σ H1 hl (C.mono e1) E (T.mono e1)⟩
  | false =>
    obtain ⟨tb, pb, qb⟩ := hb rfl
    exact ⟨_, ps_if p pss_nv pb, fun σ H hl C E T => q σ H C _ fun H1 e1 => qb σ H1 hl (C.mono e1) E (T.mono e1)⟩
theorem sd_expr (he : ED X e Γ d) (h : Φ (.nx Γ)) (hs : swapsWith e none pos.line X.env = pure false := by rfl) : SD X (.Expr e pos) Γ Φ := by
  obtain ⟨t, p, q⟩ := he
  exact ⟨_, ps_expr p hs, fun σ H hl C E T => q σ H C _ fun v H1 e1 h1 => T.nx Γ σ H1 h e1 hl (C.mono e1)⟩
/-! ### the short ways -/
theorem z_asg (i : Nat) {x : Str} {pos' : Pos} (he : ED X e Γ d) (hd : X.N.Nodup) (k : SsD X sts (Γ.set i (some d)) Φ) (hN : X.N[i]? = some x := by rfl) (hx : Loc X.env.scope x := by first | exact Or.inl rfl | exact Or.inr rfl)
    (hs : swapsWith e (some (.Name x pos')) pos.line X.env = pure false := by rfl) (hf : X.fn x = true ∨ X.env.scope.names.lookup x = some .local := by first | exact .inl rfl | exact .inr rfl) : SsD X (.Assign [.Name x pos'] e pos :: sts) Γ Φ :=
  ss_seq (Ψ := fun o => o = .nx (Γ.set i (some d))) (sd_asg i he hd rfl hN hx hs hf) (fun Γ' h => by
    cases h
    exact k) fun o h1 h2 => absurd h2 (h1 _)
theorem z_ret (he : ED X e Γ d) (h : Φ (.rt d)) : SsD X (.Return (some e) pos :: sts) Γ Φ :=
  ss_seq (Ψ := fun o => o = .rt d) (sd_ret he rfl) (fun Γ' h => by cases h) fun o h1 h2 => by
    rw [h2]
    exact h
/-- an if whose test is false, no else -/
theorem z_ifF {sa : List Stmt} (hc : TD X c Γ false) (k : SsD X sts Γ Φ) : SsD X (.If c sa [] pos :: sts) Γ Φ :=
  ss_seq (Ψ := fun o => o = .nx Γ) (sd_if hc (fun z => by cases z) fun _ => ss_nil rfl) (fun Γ' h => by
    cases h
    exact k) fun o h1 h2 => absurd h2 (h1 _)
/-- an if whose body leaves, or not -/
theorem z_ifR {b : Bool} {sa : List Stmt} (hc : TD X c Γ b) (h : b = true → SsD X sa Γ (fun o => (∀ Γ', o ≠ .nx Γ') ∧ Φ o)) (k : b = false → SsD X sts Γ Φ) : SsD X (.If c sa [] pos :: sts) Γ Φ :=
  ss_seq (Ψ := fun o => (b = true ∧ (∀ Γ', o ≠ .nx Γ') ∧ Φ o) ∨ (b = false ∧ o = .nx Γ))
    (sd_if hc (fun z => by
      obtain ⟨t, p, q⟩ := h z
      exact ⟨t, p, fun σ H hl C E T => q σ H hl C E (T.imp fun o w => .inl ⟨z, w⟩)⟩) fun z => ss_nil (.inr ⟨z, rfl⟩))
    (fun Γ' h => by
      rcases h with ⟨_, h, _⟩ | ⟨z, h⟩
      · exact absurd rfl (h Γ')
      · cases h
        exact k z) fun o h1 h2 => by
    rcases h2 with ⟨_, _, h⟩ | ⟨_, h⟩
    · exact h
    · exact absurd h (h1 _)
theorem SsD.imp (h : SsD X sts Γ Ψ) (hi : ∀ o, Ψ o → Φ o) : SsD X sts Γ Φ := by
  obtain ⟨t, p, q⟩ := h
  exact ⟨t, p, fun σ H hl C E T => q σ H hl C E (T.imp hi)⟩
theorem SD.imp (h : SD X st Γ Ψ) (hi : ∀ o, Ψ o → Φ o) : SD X st Γ Φ := by
  obtain ⟨t, p, q⟩ := h
  exact ⟨t, p, fun σ H hl C E T => q σ H hl C E (T.imp hi)⟩
end

/-! ### a def whose body only makes things -/
theorem start_ctx {K : PySem.W.Frag} {H : Hp} {N : List Str} {ds : List D} {vs : List V} (h : DenL K H ds vs) : Ctx K H (ds.map some ++ List.replicate (N.length - ds.length) none) (L2.start N vs) := fun i d e => by
  unfold L2.start
  have hl := h.len
  by_cases hi : i < ds.length
  · rw [List.getElem?_append_left (by rw [List.length_map]; exact hi), List.getElem?_map] at e
    cases q : ds[i]? with
    | none =>
      rw [q] at e
      cases e
    | some d' =>
      rw [q] at e
      cases e
      obtain ⟨y, h1, h2⟩ := h.get q
      refine ⟨y, ?_, h2⟩
      rw [List.getElem?_append_left (by rw [List.length_map, ← hl]; exact hi), List.getElem?_map, h1]
      rfl
  · rw [List.getElem?_append_right (by rw [List.length_map]; omega), List.getElem?_replicate] at e
    split at e <;> cases e
theorem fn_D {P : Program} {w : World} {K : PySem.W.Frag} {mg : Str → Option Value} {base : Heap} {x qual : Str} {st : Stmt} {f : Addr} {fd : FuncData} {N ps : List Str} {k : Nat} {R : List D → D → Prop} (F : Fun K x qual st f fd) (S : FnScope N ps (defScope st))
    (hN : ps.length ≤ N.length)
    (h : ∀ (cdv : Value) (A : Around) (outer : List Env) (s : Shared) (H : Hp) (E : XK) (ds : List D) (d : D), Room k (A.deeper (PyProof.Rows.envOfC qual (defScope st) s.heap.objs.size f cdv)) → ds.length = ps.length → R ds d →
      SsD (cxOf CX0 P w K mg base N qual (defScope st) f cdv A outer s H E).nox (defBody st) (ds.map some ++ List.replicate (N.length - ds.length) none) (fun o => o = .rt d ∨ (d = .v .non ∧ ∃ Γ, o = .nx Γ))) :
    FnOk P w K mg base CX0 (k + 1) f fd ps (spD K ps.length R) := by
  refine F.ok S (fun vs H Q E h => spD_len h) fun cdv A outer s H vs Q E hr hsp => ?_
  obtain ⟨ds, d, h1, h2, h3, h4⟩ := hsp
  obtain ⟨t, p, q⟩ := h cdv A outer s H E ds d hr h1 h3
  refine ⟨t, p, q (L2.start N vs) H ?_ (start_ctx h2) _ ⟨fun Γ σ H' z e1 _ _ => ?_, fun d' v H' z e1 hv => ?_, fun Γ σ H' z => ?_, fun Γ σ H' z => ?_, fun c fs Γ d σ H' z => ?_⟩⟩
  · show (L2.start N vs).length = N.length
    unfold L2.start
    rw [List.length_append, List.length_map, List.length_replicate, ← h2.len, h1]
    omega
  · rcases z with z | ⟨z, _⟩
    · cases z
    · subst z
      exact h4 _ H' e1 (den_v.mpr rfl)
  · rcases z with z | ⟨_, _, z⟩
    · cases z
      exact h4 v H' e1 hv
    · cases z
  · rcases z with z | ⟨_, _, z⟩ <;> cases z
  · rcases z with z | ⟨_, _, z⟩ <;> cases z
  · rcases z with z | ⟨_, _, z⟩ <;> cases z
end Trk

namespace Trk
open PySem L2 Evl

/-- a sign's own methods: f for C op .., g for int op C -/
structure NumOp (K : PySem.W.Frag) (C : Addr) (op : Operator) (f g : Addr) : Prop where
  first : PySem.W.selfFirst K C = true
  find : PySem.W.findIn K (.ref C) (PySem.dunder op.info.2) = some (some (.ref f))
  fn : PySem.W.isFn K (.ref f) = true
  rfind : PySem.W.findIn K (.ref C) (dunderR op.info.2) = some (some (.ref g))
  rfn : PySem.W.isFn K (.ref g) = true
  sub1 : PySem.W.subIn K (.type "int") (.ref C) = some false
  sub2 : PySem.W.subIn K (.ref C) (.type "int") = some false
structure CmpM (K : PySem.W.Frag) (C : Addr) (name : Str) (f : Addr) : Prop where
  find : PySem.W.findIn K (.ref C) name = some (some (.ref f))
  fn : PySem.W.isFn K (.ref f) = true
section
variable {X : Cx} {CX : CXT} {k : Nat} {C f g : Addr} {fd : FuncData} {ps : List Str} {sp : Sp} {E : XK} {op : Operator}
theorem back_of {pins : List (Addr × Obj)} {σ : L2.St} {H : Hp} {s : Shared} {Q : VK} {us : List Value} {vs : List V} (F : FnOk X.prog X.w X.K X.mg X.base CX k f fd ps sp) (hr : Room k X.A) (hb : Binds X.K fd ps []) (hx : Passes CX X E)
    (I : Inv X pins σ H s) (r : Vals vs us) (h : sp vs H Q E) : wpAny (model X.prog X.w) X.A (call (.ref f) us) (PySem.W.CmpBack (EP X pins σ Q)) X.xe s :=
  thn (run_fn F hr hb .nil hx I r (by rw [List.append_nil]; exact h)) fun u s' q => by
    have q' := q
    obtain ⟨v, H', I', rv, _⟩ := q'
    exact SlX.cmpback rv q
theorem vals_rr (a b : Addr) : Vals [V.ref a, V.ref b] [Value.ref a, Value.ref b] := .cons (show RelV (V.ref a) (Value.ref a) from rfl) (.cons (show RelV (V.ref b) (Value.ref b) from rfl) .nil)
theorem vals_ri (a : Addr) (n : Int) (t : Tok) : Vals [V.ref a, V.int n] [Value.ref a, Value.int n t] := .cons (show RelV (V.ref a) (Value.ref a) from rfl) (.cons (show RelV (V.int n) (Value.int n t) from ⟨t, rfl⟩) .nil)
/-- both of the class -/
def rOwn (C : Addr) (sp : Sp) (E : XK) : R2 := fun x y H Q => ∃ a b dx dy fs gs, x = .ref a ∧ y = .ref b ∧ H a = some (.ins C dx fs) ∧ H b = some (.ins C dy gs) ∧ sp [x, y] H Q E
/-- an int on the right -/
def rOwnI (C : Addr) (sp : Sp) (E : XK) : R2 := fun x y H Q => ∃ a dx fs n, x = .ref a ∧ y = .int n ∧ H a = some (.ins C dx fs) ∧ sp [x, y] H Q E
/-- an int on the left -/
def rIOwn (C : Addr) (sp : Sp) (E : XK) : R2 := fun x y H Q => ∃ b dx fs n, x = .int n ∧ y = .ref b ∧ H b = some (.ins C dx fs) ∧ sp [y, x] H Q E
theorem op_own (M : NumOp X.K C op f g) (F : FnOk X.prog X.w X.K X.mg X.base CX k f fd ps sp) (hr : Room k X.A) (hb : Binds X.K fd ps []) (hx : Passes CX X E) : OpR X (binaryOp op) (rOwn C sp E) := by
  intro pins s σ H x y v u Q I rx ry h
  obtain ⟨a, b, dx, dy, fs, gs, rfl, rfl, ha, hb', hsp⟩ := h
  cases rx
  cases ry
  obtain ⟨mA, J, _⟩ := ins_get I.hok ha
  obtain ⟨mB, J', _⟩ := ins_get I.hok hb'
  obtain ⟨od, J, _⟩ := J.look
  obtain ⟨od', J', _⟩ := J'.look
  obtain ⟨m, hF⟩ := I.fr
  exact PySem.W.binop_K hF I.ok.mod.kin J J'.type M.first M.find M.fn (back_of F hr hb hx I (vals_rr a b) hsp)
theorem op_ownI {fo ro : Option Value} (M : NumOp X.K C op f g) (h1 : PySem.W.findIn X.K (.type "int") (PySem.dunder op.info.2) = some fo) (h2 : PySem.W.findIn X.K (.type "int") (dunderR op.info.2) = some ro)
    (F : FnOk X.prog X.w X.K X.mg X.base CX k f fd ps sp) (hr : Room k X.A) (hb : Binds X.K fd ps []) (hx : Passes CX X E) : OpR X (binaryOp op) (rOwnI C sp E) := by
  intro pins s σ H x y v u Q I rx ry h
  obtain ⟨a, dx, fs, n, rfl, rfl, ha, hsp⟩ := h
  cases rx
  obtain ⟨t, rfl⟩ := ry
  obtain ⟨mA, J, _⟩ := ins_get I.hok ha
  obtain ⟨od, J, _⟩ := J.look
  obtain ⟨m, hF⟩ := I.fr
  exact PySem.W.ksp_binT (T := "int") hF I.ok.mod.kin J rfl M.first M.find M.fn M.rfind (.inr ⟨_, rfl⟩) h1 h2 M.sub1 (back_of F hr hb hx I (vals_ri a n t) hsp)
theorem op_iown {fo ro : Option Value} {id : String} {B : Builtin} (S : Trk.IntSlot op.info.2 id B) (M : NumOp X.K C op f g) (h1 : PySem.W.findIn X.K (.type "int") (PySem.dunder op.info.2) = some fo) (h2 : PySem.W.findIn X.K (.type "int") (dunderR op.info.2) = some ro)
    (hl : ((fo.isSome && !isSeqSlot fo) || (ro.isSome && !isSeqSlot ro)) = true)
    (F : FnOk X.prog X.w X.K X.mg X.base CX k g fd ps sp) (hr : Room k X.A) (hb : Binds X.K fd ps []) (hx : Passes CX X E) : OpR X (binaryOp op) (rIOwn C sp E) := by
  intro pins s σ H x y v u Q I rx ry h
  obtain ⟨a, dx, fs, n, rfl, rfl, ha, hsp⟩ := h
  cases ry
  obtain ⟨t, rfl⟩ := rx
  obtain ⟨mA, J, _⟩ := ins_get I.hok ha
  obtain ⟨od, J, _⟩ := J.look
  obtain ⟨m, hF⟩ := I.fr
  exact Trk.rbinT S hF I.ok.mod.kin J M.first M.find M.rfind M.rfn h1 h2 hl M.sub2 (back_of F hr hb hx I (vals_ri a n t) hsp)
/-! ### comparisons -/
variable {cop : CmpOp}
theorem cmp_own (hro : ∀ a b, compareOp cop a b = richCompare cop a b) (M : CmpM X.K C (cmpInfo cop).2.1 f) (F : FnOk X.prog X.w X.K X.mg X.base CX k f fd ps sp) (hr : Room k X.A) (hb : Binds X.K fd ps []) (hx : Passes CX X E) : OpR X (compareOp cop) (rOwn C sp E) := by
  intro pins s σ H x y v u Q I rx ry h
  obtain ⟨a, b, dx, dy, fs, gs, rfl, rfl, ha, hb', hsp⟩ := h
  cases rx
  cases ry
  obtain ⟨mA, J, _⟩ := ins_get I.hok ha
  obtain ⟨mB, J', _⟩ := ins_get I.hok hb'
  obtain ⟨od, J, _⟩ := J.look
  obtain ⟨od', J', _⟩ := J'.look
  obtain ⟨m, hF⟩ := I.fr
  rw [hro]
  exact PySem.W.cmp_K (tb := .ref C) hr.units0 hF I.ok.mod.kin J J'.type (by simp [PySem.W.notFirst]) M.find M.fn (back_of F hr hb hx I (vals_rr a b) hsp)
theorem cmp_ownI (hro : ∀ a b, compareOp cop a b = richCompare cop a b) (M : CmpM X.K C (cmpInfo cop).2.1 f) (hs : PySem.W.subIn X.K (.type "int") (.ref C) = some false) (F : FnOk X.prog X.w X.K X.mg X.base CX k f fd ps sp) (hr : Room k X.A) (hb : Binds X.K fd ps []) (hx : Passes CX X E) : OpR X (compareOp cop) (rOwnI C sp E) := by
  intro pins s σ H x y v u Q I rx ry h
  obtain ⟨a, dx, fs, n, rfl, rfl, ha, hsp⟩ := h
  cases rx
  obtain ⟨t, rfl⟩ := ry
  obtain ⟨mA, J, _⟩ := ins_get I.hok ha
  obtain ⟨od, J, _⟩ := J.look
  obtain ⟨m, hF⟩ := I.fr
  rw [hro]
  exact PySem.W.cmp_K (tb := .type "int") hr.units0 hF I.ok.mod.kin J (PySem.W.Looks.of_pure rfl) (by unfold PySem.W.notFirst; rw [hs]; simp) M.find M.fn (back_of F hr hb hx I (vals_ri a n t) hsp)
/-- an int on the left: the mirrored sign's method -/
theorem cmp_iown {id : String} {B : Builtin} (hro : ∀ a b, compareOp cop a b = richCompare cop a b) (S : Trk.CmpSlot cop id B) (M : CmpM X.K C (cmpInfo cop).2.2 f) (hs : PySem.W.subIn X.K (.ref C) (.type "int") = some false) (F : FnOk X.prog X.w X.K X.mg X.base CX k f fd ps sp) (hr : Room k X.A) (hb : Binds X.K fd ps []) (hx : Passes CX X E) :
    OpR X (compareOp cop) (rIOwn C sp E) := by
  intro pins s σ H x y v u Q I rx ry h
  obtain ⟨a, dx, fs, n, rfl, rfl, ha, hsp⟩ := h
  cases ry
  obtain ⟨t, rfl⟩ := rx
  obtain ⟨mA, J, _⟩ := ins_get I.hok ha
  obtain ⟨od, J, _⟩ := J.look
  obtain ⟨m, hF⟩ := I.fr
  rw [hro]
  exact Trk.rcmpT S hr.units0 hF I.ok.mod.kin J M.find M.fn hs (back_of F hr hb hx I (vals_ri a n t) hsp)
end
section
variable {K : PySem.W.Frag} {C : Addr} {fs gs : List (Str × D)} {R : List D → D → Prop} {E : XK} {d : D} {n : Int}
theorem rd_own (h : R [.obj C fs, .obj C gs] d) : RD K (rOwn C (spD K 2 R) E) (.obj C fs) (.obj C gs) d := fun x y H h1 h2 Q q => by
  have k1 := h1
  have k2 := h2
  simp only [Den] at h1 h2
  obtain ⟨a, dx, fs', rfl, ha, _⟩ := h1
  obtain ⟨b, dy, gs', rfl, hb, _⟩ := h2
  exact ⟨a, b, dx, dy, fs', gs', rfl, rfl, ha, hb, _, d, rfl, DenL.cons k1 (DenL.cons k2 DenL.nil), h, q⟩
theorem rd_ownI (h : R [.obj C fs, .v (.int n)] d) : RD K (rOwnI C (spD K 2 R) E) (.obj C fs) (.v (.int n)) d := fun x y H h1 h2 Q q => by
  have k1 := h1
  have k2 := h2
  simp only [Den] at h1 h2
  obtain ⟨a, dx, fs', rfl, ha, _⟩ := h1
  subst h2
  exact ⟨a, dx, fs', n, rfl, rfl, ha, _, d, rfl, DenL.cons k1 (DenL.cons k2 DenL.nil), h, q⟩
theorem rd_iown (h : R [.obj C fs, .v (.int n)] d) : RD K (rIOwn C (spD K 2 R) E) (.v (.int n)) (.obj C fs) d := fun x y H h1 h2 Q q => by
  have k1 := h1
  have k2 := h2
  simp only [Den] at h1 h2
  obtain ⟨a, dx, fs', rfl, ha, _⟩ := h2
  subst h1
  exact ⟨a, dx, fs', n, rfl, rfl, ha, _, d, rfl, DenL.cons k2 (DenL.cons k1 DenL.nil), h, q⟩
end
/-! ### a negative divisor, of any size -/
def CDivZ (_ j : Int) : Prop := j ≠ 0 ∧ j.natAbs.log2 < 9000
theorem op_fdivZ {X : Cx} : OpR X (binaryOp .FloorDiv) (rI CDivZ fun i j => .int (i.fdiv j)) := opI fun i j _ _ _ _ _ hc q => PyProof.Rows.floordiv_int hc.1 q (.inl (PyProof.noPylong_of_log2 hc.2))
end Trk

namespace Trk
/-! ### what the class Fraction reckons: Rat -/
def cmn (a b : Int) : Int := if b < 0 then -((Nat.gcd a.natAbs b.natAbs : Nat) : Int) else ((Nat.gcd a.natAbs b.natAbs : Nat) : Int)
theorem cmn_ne {a b : Int} (hb : b ≠ 0) : cmn a b ≠ 0 := by
  have h : 0 < Nat.gcd a.natAbs b.natAbs := Nat.gcd_pos_of_pos_right _ (Int.natAbs_pos.mpr hb)
  unfold cmn
  split <;> omega
theorem cmn_le {a b : Int} (hb : b ≠ 0) : (cmn a b).natAbs ≤ b.natAbs := by
  have h : Nat.gcd a.natAbs b.natAbs ≤ b.natAbs := Nat.gcd_le_right _ (Int.natAbs_pos.mpr hb)
  unfold cmn
  split <;> omega
theorem fdiv_exact {g k : Int} (hg : g ≠ 0) : (g * k).fdiv g = k := by
  rw [Int.mul_comm, Int.mul_fdiv_cancel _ hg]
theorem top_eq {a b : Int} (hb : b ≠ 0) : a.fdiv (cmn a b) = (Rat.divInt a b).num := by
  have hg : 0 < Nat.gcd a.natAbs b.natAbs := Nat.gcd_pos_of_pos_right _ (Int.natAbs_pos.mpr hb)
  obtain ⟨k, hk⟩ : ((Nat.gcd a.natAbs b.natAbs : Nat) : Int) ∣ a := Int.ofNat_dvd_left.mpr (Nat.gcd_dvd_left _ _)
  rw [Rat.num_divInt, show Int.gcd b a = Nat.gcd a.natAbs b.natAbs from Nat.gcd_comm _ _]
  unfold cmn
  generalize hG : Nat.gcd a.natAbs b.natAbs = G at *
  by_cases h : b < 0
  · rw [if_pos h, Int.sign_eq_neg_one_of_neg h, hk, show ((G : Int) * k).fdiv (-(G : Int)) = -k from by
      rw [show (G : Int) * k = (-(G : Int)) * (-k) by rw [Int.neg_mul_neg], fdiv_exact (by omega)]]
    rw [show (-1 : Int) * ((G : Int) * k) = (G : Int) * (-k) by rw [Int.neg_one_mul, Int.mul_neg], Int.mul_ediv_cancel_left _ (by omega)]
  · rw [if_neg h, Int.sign_eq_one_of_pos (by omega), hk, fdiv_exact (by omega), Int.one_mul, Int.mul_ediv_cancel_left _ (by omega)]
theorem bottom_eq {a b : Int} (hb : b ≠ 0) : b.fdiv (cmn a b) = ((Rat.divInt a b).den : Int) := by
  have hg : 0 < Nat.gcd a.natAbs b.natAbs := Nat.gcd_pos_of_pos_right _ (Int.natAbs_pos.mpr hb)
  obtain ⟨k, hk⟩ : ((Nat.gcd a.natAbs b.natAbs : Nat) : Int) ∣ b := Int.ofNat_dvd_left.mpr (Nat.gcd_dvd_right _ _)
  rw [Rat.den_divInt, if_neg hb, show Int.gcd b a = Nat.gcd a.natAbs b.natAbs from Nat.gcd_comm _ _]
  unfold cmn
  generalize hG : Nat.gcd a.natAbs b.natAbs = G at *
  have hn : b.natAbs / G = k.natAbs := by
    rw [hk, Int.natAbs_mul, Int.natAbs_natCast, Nat.mul_div_cancel_left _ hg]
  rw [hn]
  by_cases h : b < 0
  · have hk0 : k < 0 := by
      rcases Int.lt_or_le k 0 with z | z
      · exact z
      · have := Int.mul_nonneg (show (0 : Int) ≤ (G : Int) by omega) z
        omega
    rw [if_pos h]
    conv => lhs; rw [hk]
    rw [show (G : Int) * k = (-(G : Int)) * (-k) by rw [Int.neg_mul_neg], fdiv_exact (by omega)]
    omega
  · have hk0 : 0 ≤ k := by
      rcases Int.lt_or_le k 0 with z | z
      · have := Int.mul_neg_of_pos_of_neg (show (0 : Int) < (G : Int) by omega) z
        omega
      · exact z
    rw [if_neg h]
    conv => lhs; rw [hk]
    rw [fdiv_exact (by omega)]
    omega
/-- no greater than what it was made of -/
theorem num_le (a b : Int) : (Rat.divInt a b).num.natAbs ≤ a.natAbs := by
  rw [Rat.num_divInt]
  have h1 : (b.sign * a).natAbs ≤ a.natAbs := by
    rw [Int.natAbs_mul]
    rcases Int.sign_trichotomy b with h | h | h <;> rw [h] <;> simp
  refine Nat.le_trans ?_ h1
  exact Int.natAbs_ediv_le_natAbs _ _
theorem den_le {a b : Int} (hb : b ≠ 0) : (Rat.divInt a b).den ≤ b.natAbs := by
  rw [Rat.den_divInt, if_neg hb]
  exact Nat.div_le_self _ _
/-- sizes -/
def Sz (n : Nat) (q : Rat) : Prop := q.num.natAbs < 2 ^ n ∧ q.den < 2 ^ n
end Trk
namespace Trk
theorem q_mul {a b : Int} (hb : b ≠ 0) : Rat.divInt a b * (b : Rat) = (a : Rat) := by
  rw [Rat.divInt_eq_div]
  exact Rat.div_mul_cancel (by simpa using hb)
theorem q_lt {a b c e : Int} (hb : 0 < b) (he : 0 < e) : Rat.divInt a b < Rat.divInt c e ↔ a * e < c * b := by
  have h1 : (0 : Rat) < ((b * e : Int) : Rat) := Rat.intCast_pos.mpr (Int.mul_pos hb he)
  have e1 : Rat.divInt a b * ((b * e : Int) : Rat) = ((a * e : Int) : Rat) := by
    rw [Rat.intCast_mul, ← Rat.mul_assoc, q_mul (by omega), ← Rat.intCast_mul]
  have e2 : Rat.divInt c e * ((b * e : Int) : Rat) = ((c * b : Int) : Rat) := by
    rw [Int.mul_comm b e, Rat.intCast_mul, ← Rat.mul_assoc, q_mul (by omega), ← Rat.intCast_mul]
  rw [← Rat.mul_lt_mul_right h1, e1, e2, Rat.intCast_lt_intCast]
theorem q_int (n : Int) : (n : Rat) = Rat.divInt n 1 := (Rat.num_divInt_den (n : Rat)).symm
/-- the sign of a difference -/
theorem q_sgn {a b c e : Int} (hb : 0 < b) (he : 0 < e) : (a * e - c * b < 0 ↔ Rat.divInt a b < Rat.divInt c e) ∧ (0 < a * e - c * b ↔ Rat.divInt c e < Rat.divInt a b) := by
  rw [q_lt hb he, q_lt he hb]
  exact ⟨by omega, by omega⟩
end Trk

namespace Trk
open PySem L2 Evl

abbrev fr (C : Addr) (q : Rat) : D := .obj C [("top", .v (.int q.num)), ("bottom", .v (.int (q.den : Int)))]
abbrev iD (n : Int) : D := .v (.int n)
abbrev bD (b : Bool) : D := .v (.bl b)
/-- a number: a Fraction, an int -/
def NumV (C : Addr) (y : D) (q : Rat) : Prop := y = fr C q ∨ ∃ n : Int, y = iD n ∧ q = (n : Rat)
theorem den_fr {K : PySem.W.Frag} {H : Hp} {C : Addr} {q : Rat} {v : V} : Den K H (fr C q) v ↔ ∃ a dx, v = .ref a ∧ H a = some (.ins C dx [("top", .int q.num), ("bottom", .int (q.den : Int))]) := by
  simp only [Den, DenF]
  constructor
  · rintro ⟨a, dx, gs, h1, h2, z, zs, h3, h4, z', zs', h5, h6, h7⟩
    subst h4 h6 h7 h5 h3
    exact ⟨a, dx, h1, h2⟩
  · rintro ⟨a, dx, h1, h2⟩
    exact ⟨a, dx, _, h1, h2, _, _, rfl, rfl, _, _, rfl, rfl, rfl⟩

/-- what the written part says of the class Fraction, at C -/
structure FrTxt (K : PySem.W.Frag) (mg : Str → Option Value) (C : Addr) : Prop where
  cl : Cls K C
  nT : NoAttr K C "top"
  nB : NoAttr K C "bottom"
  mgC : mg "Fraction" = some (.ref C)
  ca : PySem.W.findIn K (.ref C) "__class__" = some (some (.builtin "object.__class__"))
  cn : PySem.W.specialIn K (.builtin "object.__class__") "__get__" = some (some (.builtin "getset_descriptor.__get__"))
  ct : PySem.W.takesIn K (.builtin "object.__class__") = some true
  cm : PySem.W.mroIn K C (.type "object") = some true
  kCC : PySem.W.kitOne K (.ref C) (.ref C) = some true
  kIC : PySem.W.kitOne K (.type "int") (.ref C) = some false
  sub1 : PySem.W.subIn K (.type "int") (.ref C) = some false
  sub2 : PySem.W.subIn K (.ref C) (.type "int") = some false
  isi : mg "isinstance" = none
  tInt : mg "int" = none
  gcd : mg "gcd" = some (.builtin "math.gcd")
theorem kit_self {K : PySem.W.Frag} {C : Addr} : PySem.W.kitOne K (.ref C) (.ref C) = some true := by
  unfold PySem.W.kitOne
  rw [if_pos (by simp)]
theorem kit_sub {K : PySem.W.Frag} {C : Addr} {t : Value} {b : Bool} (ic : PySem.W.isClsIn K C = true) (ty : PySem.W.typeIn K (.ref C) = some (.type "type")) (s : PySem.W.subIn K t (.ref C) = some b) (hne : (t == Value.ref C) = false) : PySem.W.kitOne K t (.ref C) = some b := by
  unfold PySem.W.kitOne PySem.W.kitCls
  rw [if_neg (by rw [hne]; exact Bool.false_ne_true)]
  show (if ((PySem.W.clsIn K C).isSome && PySem.W.typeIn K (.ref C) == some (.type "type")) = true then PySem.W.subIn K t (.ref C) else none) = some b
  rw [if_pos (by
    rw [ty]
    have : (PySem.W.clsIn K C).isSome = true := ic
    rw [this]
    simp), s]
theorem ty_ne (n : String) (C : Addr) : (Value.type n == Value.ref C) = false := Bool.eq_false_iff.mpr fun q => by cases beq_iff_eq.mp q
theorem rf_ne {A C : Addr} (h : A ≠ C) : (Value.ref A == Value.ref C) = false := Bool.eq_false_iff.mpr fun q => h (Value.ref.inj (beq_iff_eq.mp q))
section
variable {X : Cx} {Γ : Gm} {d d1 d2 : D} {e a b c : Expr} {es : List Expr} {pos : Pos} {C : Addr}
theorem ed_glob {x : Str} {v : V} {u : Value} (hm : X.mg x = some u) (r : RelV v u) (hg : Gl X x := by rfl) (hd : (x == ("__debug__" : Str)) = false := by decide) : ED X (.Name x pos) Γ (.v v) := ⟨_, pe_glob hg hm r hd, fun σ H C Q q => q _ H (Ex.refl H) (den_v.mpr rfl)⟩
theorem ed_bltn {x : Str} {v : V} {u : Value} (hm : X.mg x = none) (hv : bootBuiltins x = some u) (r : RelV v u) (hg : Gl X x := by rfl) (hn : x ≠ "__name__" := by decide) (hd : (x == ("__debug__" : Str)) = false := by decide) : ED X (.Name x pos) Γ (.v v) := ⟨_, pe_bltn hg hm hv r hn hd, fun σ H C Q q => q _ H (Ex.refl H) (den_v.mpr rfl)⟩
/-- the type that isinstance sees -/
inductive TyD (K : PySem.W.Frag) (mg : Str → Option Value) : D → Value → Prop where
  | int (n : Int) : TyD K mg (iD n) (.type "int")
  | bl (b : Bool) : TyD K mg (bD b) (.type "bool")
  | fr {C : Addr} {q : Rat} (T : FrTxt K mg C) : TyD K mg (fr C q) (.ref C)
  | ob {C : Addr} {fs : List (Str × D)} (c : Cls K C) (ca : PySem.W.findIn K (.ref C) "__class__" = some (some (.builtin "object.__class__"))) (cn : PySem.W.specialIn K (.builtin "object.__class__") "__get__" = some (some (.builtin "getset_descriptor.__get__")))
    (ct : PySem.W.takesIn K (.builtin "object.__class__") = some true) (cm : PySem.W.mroIn K C (.type "object") = some true) : TyD K mg (.obj C fs) (.ref C)
theorem TyD.to {K : PySem.W.Frag} {mg : Str → Option Value} {H : Hp} {d : D} {t : Value} {v : V} (h : TyD K mg d t) (hd : Den K H d v) : TyX K H v t := by
  cases h with
  | int n => rw [den_v.mp hd]; exact .base (.int n)
  | bl b => rw [den_v.mp hd]; exact .base (.bl b)
  | fr T =>
    obtain ⟨a, dx, rfl, h⟩ := den_fr.mp hd
    exact .base (.ins h T.cl T.ca T.cn T.ct T.cm)
  | ob c ca cn ct cm =>
    simp only [Den] at hd
    obtain ⟨a, dx, gs, rfl, h, _⟩ := hd
    exact .base (.ins h c ca cn ct cm)
/-- isinstance(a, c) -/
theorem ed_isi {k : Bool} {u t : Value} {cv : V} {p : Pos} (hm : X.mg "isinstance" = none) (ha : ED X a Γ d) (hc : ED X c Γ (.v cv)) (hcv : ClsV cv u) (ht : TyD X.K X.mg d t) (hk : PySem.W.kitOne X.K t u = some k) (hg : Gl X "isinstance" := by rfl)
    (he : starEach (a :: [c]) X.env = (false, eval a X.env) :: starEach [c] X.env := by rfl) (hs1 : starEach (c :: []) X.env = (false, eval c X.env) :: starEach [] X.env := by rfl) (hpl : (backTo pos (starEach [c] X.env)).any (·.1) = false := by rfl) :
    ED X (.Call (.Name "isinstance" p) [a, c] [] pos) Γ (bD k) := by
  refine ed_callB (d := bD k) (r := rIsi X.K) call_isi hm (by decide +kernel) (ad_cons ha (ad_cons hc ad_nil hs1) he) (fun xs H h Q q => ?_) hg (by decide) (by decide) he hpl
  obtain ⟨x, y, rfl, h1, h2⟩ := denL_two h
  rw [den_v.mp h2]
  exact ⟨x, cv, t, u, k, rfl, hcv, ht.to h1, hk, q _ H (Ex.refl H) (den_v.mpr rfl)⟩
/-- isinstance(a, (c1, c2)) -/
theorem ed_isi2 {k : Bool} {u1 u2 t : Value} {cv1 cv2 : V} {c1 c2 : Expr} {p p2 : Pos} {x1} (hm : X.mg "isinstance" = none) (ha : ED X a Γ d) (hc1 : PE X c1 (tC cv1)) (hc2 : PE X c2 (tC cv2)) (hcv1 : ClsV cv1 u1) (hcv2 : ClsV cv2 u2)
    (ht : TyD X.K X.mg d t) (hk : PySem.W.kitAny X.K t [u1, u2] = some k) (hg : Gl X "isinstance" := by rfl)
    (he : starEach (a :: [.Tuple [c1, c2] x1 p2]) X.env = (false, eval a X.env) :: starEach [.Tuple [c1, c2] x1 p2] X.env := by rfl) (hs1 : starEach (.Tuple [c1, c2] x1 p2 :: []) X.env = (false, eval (.Tuple [c1, c2] x1 p2) X.env) :: starEach [] X.env := by rfl)
    (hs2 : starEach (c1 :: [c2]) X.env = (false, eval c1 X.env) :: starEach [c2] X.env := by rfl) (hs3 : starEach (c2 :: []) X.env = (false, eval c2 X.env) :: starEach [] X.env := by rfl)
    (hpl : (backTo pos (starEach [.Tuple [c1, c2] x1 p2] X.env)).any (·.1) = false := by rfl) :
    ED X (.Call (.Name "isinstance" p) [a, .Tuple [c1, c2] x1 p2] [] pos) Γ (bD k) := by
  obtain ⟨ta, pa, qa⟩ := ha
  refine ⟨_, pe_callB (call_isiT (X := X)) hg hm (by decide +kernel) (pa_cons pa (pa_cons (pe_tup (pa_cons hc1 (pa_cons hc2 pa_nil hs3) hs2)) pa_nil hs1) he) (by decide) (by decide) he hpl, fun σ H Cc Q q => ?_⟩
  refine qa σ H Cc _ fun v H1 e1 h1 => ⟨(by show 2 ≤ sizeLine; decide), fun tp hn => ?_⟩
  exact ⟨v, tp, [cv1, cv2], t, [u1, u2], k, rfl, upd_same, .cons hcv1 (.cons hcv2 .nil), ht.to (h1.mono (Ex.new hn)), hk, q _ _ (e1.trans (Ex.new hn)) (den_v.mpr rfl)⟩

/-! ### Fraction(a, b) -/
def spInit (C : Addr) : Sp := fun vs H Q _ => ∃ (p dx : Addr) (a b : Int), vs = [.ref p, .int a, .int b] ∧ b ≠ 0 ∧ b.natAbs < 2 ^ 8900 ∧ H p = some (.ins C dx []) ∧
  Q .non (upd H p (.ins C dx [("top", .int (Rat.divInt a b).num), ("bottom", .int ((Rat.divInt a b).den : Int))]))
theorem init_new {C : Addr} {Q : VK} {H H1 : Hp} {K : PySem.W.Frag} {E : XK} {i j : Int} {x dx : Addr} (hb : j ≠ 0) (hz : j.natAbs < 2 ^ 8900) (nx : H1 x = none) (ndx : H1 dx = none) (ne : dx ≠ x) (e1 : Ex H H1)
    (q : ∀ v H', Ex H H' → Den K H' (fr C (Rat.divInt i j)) v → Q v H') : spInit C [.ref x, .int i, .int j] (upd (upd H1 dx (.own x)) x (.ins C dx [])) (fun v H2 => v = .non ∧ Q (.ref x) H2) E := by
  refine ⟨x, dx, i, j, rfl, hb, hz, upd_same, rfl, q _ _ (fun b o ho => ?_) (den_fr.mpr ⟨x, dx, rfl, upd_same⟩)⟩
  have h1 : H1 b = some o := e1 b o ho
  rw [upd_ne (ne_of_none h1 nx), upd_ne (ne_of_none h1 nx), upd_ne (ne_of_none h1 ndx)]
  exact h1
theorem ed_mk {CX : CXT} {k : Nat} {f : Addr} {fd : FuncData} {ps : List Str} {E : XK} {p : Pos} {i j : Int} (M : Mk X.K C f) (F : FnOk X.prog X.w X.K X.mg X.base CX k f fd ps (spInit C)) (hr : Room (k + 1) X.A) (hm : X.mg "Fraction" = some (.ref C))
    (hb : Binds X.K fd ps []) (hx : Passes CX X E) (ha : AD X (e :: es) Γ [iD i, iD j]) (h0 : j ≠ 0) (hz : j.natAbs < 2 ^ 8900) (hg : Gl X "Fraction" := by rfl) (he : starEach (e :: es) X.env = (false, eval e X.env) :: starEach es X.env := by rfl)
    (hpl : (backTo pos (starEach es X.env)).any (·.1) = false := by rfl) : ED X (.Call (.Name "Fraction" p) (e :: es) [] pos) Γ (fr C (Rat.divInt i j)) := by
  obtain ⟨t, pp, q⟩ := ha
  refine ⟨_, pe_make M F hr hg hm hb .nil hx pp (by decide) he hpl, fun σ H Cc Q r => q σ H Cc _ fun vs H1 e1 h1 x dx nx ndx ne => ?_⟩
  obtain ⟨x1, x2, rfl, h2, h3⟩ := denL_two h1
  rw [den_v.mp h2, den_v.mp h3]
  exact init_new h0 hz nx ndx ne e1 r
theorem ed_mk1 {CX : CXT} {k : Nat} {f : Addr} {fd : FuncData} {ps : List Str} {E : XK} {p : Pos} {i : Int} {ds : List Value} (M : Mk X.K C f) (F : FnOk X.prog X.w X.K X.mg X.base CX k f fd ps (spInit C)) (hr : Room (k + 1) X.A) (hm : X.mg "Fraction" = some (.ref C))
    (hb : Binds X.K fd ps ds) (hd : Vals [V.int 1] ds) (hx : Passes CX X E) (ha : ED X e Γ (iD i)) (hg : Gl X "Fraction" := by rfl) (he : starEach (e :: []) X.env = (false, eval e X.env) :: starEach [] X.env := by rfl)
    (hpl : (backTo pos (starEach [] X.env)).any (·.1) = false := by rfl) : ED X (.Call (.Name "Fraction" p) [e] [] pos) Γ (fr C (i : Rat)) := by
  obtain ⟨t, pp, q⟩ := ha
  have e0 : (i : Rat) = Rat.divInt i 1 := (Rat.num_divInt_den (i : Rat)).symm
  rw [e0]
  refine ⟨_, pe_make M F hr hg hm hb hd hx (pa_cons pp pa_nil he) (by decide) he hpl, fun σ H Cc Q r => q σ H Cc _ fun v H1 e1 h1 x dx nx ndx ne => ?_⟩
  rw [den_v.mp h1]
  exact init_new (by decide) (Nat.one_lt_two_pow (by decide)) nx ndx ne e1 r
end
/-! ### sizes -/
theorem Sz.num {n : Nat} {q : Rat} (h : Sz n q) : q.num.natAbs < 2 ^ n := h.1
theorem Sz.denI {n : Nat} {q : Rat} (h : Sz n q) : ((q.den : Int)).natAbs < 2 ^ n := h.2
theorem Sz.mono {n m : Nat} {q : Rat} (h : Sz n q) (hm : n ≤ m) : Sz m q := ⟨Nat.lt_of_lt_of_le h.1 (Nat.pow_le_pow_right (by decide) hm), Nat.lt_of_lt_of_le h.2 (Nat.pow_le_pow_right (by decide) hm)⟩
theorem cdivZ_of {i j : Int} (h : j ≠ 0) (hb : j.natAbs < 2 ^ 8900) : CDivZ i j := ⟨h, Nat.lt_of_lt_of_le (PySem.Flt.log2_lt_of (by decide) hb) (by decide)⟩
end Trk

namespace Trk
open PySem L2 Evl
section
variable {X : Cx} {Γ : Gm} {d d1 d2 : D} {e a b c : Expr} {es : List Expr} {pos : Pos} {st : Stmt} {sts body rest : List Stmt} {Φ Ψ : Out → Prop}
/-- what a piece of the text does, by itself -/
def allS (X : Cx) (st : List Stmt) : TS := fun E σ H => ∀ (pins : List (Addr × Obj)) (s : Shared), Inv X pins σ H s → wpAny (model X.prog X.w) X.A (execs st X.env) (SP X pins E) X.xe s
def allT (X : Cx) (c : Expr) : TT := fun σ H Q => ∀ (pins : List (Addr × Obj)) (s : Shared), Inv X pins σ H s → wpAny (model X.prog X.w) X.A (isTrue c X.env (eval c X.env)) (TP X pins σ Q) X.xe s
theorem pss_all : PSs X st' (allS X st') := ⟨fun pins s σ H E I h => h pins s I⟩
theorem pt_all : PT X c (allT X c) := ⟨fun pins s σ H Q I h => h pins s I⟩
theorem SsD.all (h : SsD X sts Γ Φ) {σ : L2.St} {H : Hp} {E : Ends} (hl : σ.length = X.N.length) (C : Ctx X.K H Γ σ) (T : Tk X H Φ E) : allS X sts E σ H := by
  obtain ⟨t, p, q⟩ := h
  exact fun pins s I => p.run pins s σ H E I (q σ H hl C E T)
theorem TD.all {k : Bool} (h : TD X c Γ k) {σ : L2.St} {H : Hp} {Q : Bool → Hp → Prop} (C : Ctx X.K H Γ σ) (q : ∀ H', Ex H H' → Q k H') : allT X c σ H Q := by
  obtain ⟨t, p, r⟩ := h
  exact fun pins s I => p.run pins s σ H Q I (r σ H C Q q)

/-! ### lists read -/
theorem denL_at {K : PySem.W.Frag} {H : Hp} {ds : List D} {ys : List V} {i : Int} (h : DenL K H ds ys) (e : atI ds i = some d) : ∃ y, atI ys i = some y ∧ Den K H d y := by
  unfold atI at e ⊢
  rw [← h.len]
  cases hx : ixN ds.length i with
  | none =>
    rw [hx] at e
    cases e
  | some j =>
    rw [hx] at e
    exact h.get e
theorem ed_ix {ds : List D} {i : Int} (ha : ED X a Γ (.lst ds)) (hb : ED X b Γ (iD i)) (h : atI ds i = some d) (hs : PlainIx b := by exact fun _ _ => rfl) : ED X (.Subscript a b pos) Γ d := by
  obtain ⟨ta, pa, qa⟩ := ha
  obtain ⟨tb, pb, qb⟩ := hb
  refine ⟨_, pe_ix ix_list pa pb hs, fun σ H C Q q => qa σ H C _ fun x H1 e1 h1 => qb σ H1 (C.mono e1) _ fun y H2 e2 h2 => ?_⟩
  have h1' := h1.mono e2
  simp only [Den] at h1'
  obtain ⟨p, ys, rfl, hq, hL⟩ := h1'
  obtain ⟨z, hz, hd⟩ := denL_at hL h
  exact ⟨p, ys, i, z, rfl, den_v.mp h2, SqL.of hq, hz, q z H2 (e1.trans e2) hd⟩
theorem ed_ixT {ds : List D} {i : Int} (ha : ED X a Γ (.tup ds)) (hb : ED X b Γ (iD i)) (h : atI ds i = some d) (hs : PlainIx b := by exact fun _ _ => rfl) : ED X (.Subscript a b pos) Γ d := by
  obtain ⟨ta, pa, qa⟩ := ha
  obtain ⟨tb, pb, qb⟩ := hb
  refine ⟨_, pe_ix ix_tup pa pb hs, fun σ H C Q q => qa σ H C _ fun x H1 e1 h1 => qb σ H1 (C.mono e1) _ fun y H2 e2 h2 => ?_⟩
  have h1' := h1.mono e2
  simp only [Den] at h1'
  obtain ⟨p, ys, rfl, hq, hL⟩ := h1'
  obtain ⟨z, hz, hd⟩ := denL_at hL h
  exact ⟨p, ys, i, z, rfl, den_v.mp h2, hq, hz, q z H2 (e1.trans e2) hd⟩
theorem ed_len {ds : List D} {p : Pos} (hm : X.mg "len" = none) (ha : ED X a Γ (.lst ds)) (hg : Gl X "len" := by rfl) (he : starEach (a :: []) X.env = (false, eval a X.env) :: starEach [] X.env := by rfl) (hpl : (backTo pos (starEach [] X.env)).any (·.1) = false := by rfl) :
    ED X (.Call (.Name "len" p) [a] [] pos) Γ (iD (ds.length : Int)) := by
  refine ed_callB (d := iD (ds.length : Int)) call_len_seq hm PySem.boot_len (ad_cons ha ad_nil he) (fun xs H h Q q => ?_) hg (by decide) (by decide) he hpl
  obtain ⟨x, rfl, h1⟩ := denL_one h
  simp only [Den] at h1
  obtain ⟨p, ys, rfl, hq, hL⟩ := h1
  refine ⟨p, ys, rfl, .inl (SqL.of hq), ?_⟩
  rw [← hL.len]
  exact q _ H (Ex.refl H) (den_v.mpr rfl)
theorem ed_lenS {ns : List Int} {p : Pos} (hm : X.mg "len" = none) (ha : ED X a Γ (.scr ns)) (hg : Gl X "len" := by rfl) (he : starEach (a :: []) X.env = (false, eval a X.env) :: starEach [] X.env := by rfl) (hpl : (backTo pos (starEach [] X.env)).any (·.1) = false := by rfl) :
    ED X (.Call (.Name "len" p) [a] [] pos) Γ (iD (ns.length : Int)) := by
  refine ed_callB (d := iD (ns.length : Int)) call_len_seq hm PySem.boot_len (ad_cons ha ad_nil he) (fun xs H h Q q => ?_) hg (by decide) (by decide) he hpl
  obtain ⟨x, rfl, h1⟩ := denL_one h
  simp only [Den] at h1
  obtain ⟨p, rfl, hq⟩ := h1
  refine ⟨p, _, rfl, .inl hq, ?_⟩
  rw [List.length_map]
  exact q _ H (Ex.refl H) (den_v.mpr rfl)
theorem ed_ixC {ns : List Int} {i n : Int} (ha : ED X a Γ (.scr ns)) (hb : ED X b Γ (iD i)) (h : atI ns i = some n) (hs : PlainIx b := by exact fun _ _ => rfl) : ED X (.Subscript a b pos) Γ (iD n) := by
  obtain ⟨ta, pa, qa⟩ := ha
  obtain ⟨tb, pb, qb⟩ := hb
  refine ⟨_, pe_ix ix_list pa pb hs, fun σ H C Q q => qa σ H C _ fun x H1 e1 h1 => qb σ H1 (C.mono e1) _ fun y H2 e2 h2 => ?_⟩
  have h1' := h1.mono e2
  simp only [Den] at h1'
  obtain ⟨p, rfl, hq⟩ := h1'
  refine ⟨p, _, i, .int n, rfl, den_v.mp h2, hq, ?_, q _ H2 (e1.trans e2) (den_v.mpr rfl)⟩
  unfold atI at h ⊢
  rw [List.length_map]
  cases hx : ixN ns.length i with
  | none =>
    rw [hx] at h
    cases h
  | some j =>
    rw [hx] at h
    show (ns.map V.int)[j]? = some (V.int n)
    rw [List.getElem?_map]
    have h' : ns[j]? = some n := h
    rw [h']
    rfl
/-- abs(e), int(e) of an int -/
theorem ed_abs {i : Int} {p : Pos} (hm : X.mg "abs" = none) (ha : ED X a Γ (iD i)) (hg : Gl X "abs" := by rfl) (he : starEach (a :: []) X.env = (false, eval a X.env) :: starEach [] X.env := by rfl) (hpl : (backTo pos (starEach [] X.env)).any (·.1) = false := by rfl) :
    ED X (.Call (.Name "abs" p) [a] [] pos) Γ (iD (if i < 0 then -i else i)) := by
  refine ed_callB (d := iD (if i < 0 then -i else i)) call_abs hm (by decide +kernel) (ad_cons ha ad_nil he) (fun xs H h Q q => ?_) hg (by decide) (by decide) he hpl
  obtain ⟨x, rfl, h1⟩ := denL_one h
  rw [den_v.mp h1]
  exact ⟨i, rfl, q _ H (Ex.refl H) (den_v.mpr rfl)⟩
theorem ed_toInt {i : Int} {p : Pos} (hm : X.mg "int" = none) (ha : ED X a Γ (iD i)) (hg : Gl X "int" := by rfl) (he : starEach (a :: []) X.env = (false, eval a X.env) :: starEach [] X.env := by rfl) (hpl : (backTo pos (starEach [] X.env)).any (·.1) = false := by rfl) :
    ED X (.Call (.Name "int" p) [a] [] pos) Γ (iD i) := by
  refine ed_callTy (d := iD i) call_int1 hm (by decide +kernel) (ad_cons ha ad_nil he) (fun xs H h Q q => ?_) hg (by decide) (by decide) he hpl
  obtain ⟨x, rfl, h1⟩ := denL_one h
  rw [den_v.mp h1]
  exact .inl ⟨i, rfl, q _ H (Ex.refl H) (den_v.mpr rfl)⟩

/-! ### loops -/
/-- for x in range(n) -/
theorem z_forR (i : Nat) {x : Str} {n : Nat} {p1 p2 p3 : Pos} (J : Nat → Gm → Prop) (hc : X.calm = true) (hm : X.mg "range" = none) (ha : ED X e Γ (iD (n : Int))) (hd : X.N.Nodup) (hn : (n : Int) < 2 ^ 62) (h0 : J 0 Γ)
    (hs : ∀ j Γ', j < n → J j Γ' → SsD X body (Γ'.set i (some (iD (j : Int)))) (fun o => (∃ Γ'', (o = .nx Γ'' ∨ o = .ct Γ'') ∧ J (j + 1) Γ'') ∨ (∃ d, o = .rt d ∧ Φ (.rt d)) ∨ (∃ Γ'', o = .bk Γ'' ∧ SsD X sts Γ'' Φ) ∨ ∃ c fs Γ'', o = .ex c fs Γ'' ∧ Φ (.ex c fs Γ'')))
    (k : ∀ Γ', J n Γ' → SsD X sts Γ' Φ) (hp : PassesOwn (model X.prog X.w) X.A X.env X.xe := by exact PassesOwn.never) (hN : X.N[i]? = some x := by rfl) (hx : Loc X.env.scope x := by first | exact Or.inl rfl | exact Or.inr rfl) (hg : Gl X "range" := by rfl)
    (he : starEach [e] X.env = [(false, eval e X.env)] := by rfl) (hse : starEach (e :: []) X.env = (false, eval e X.env) :: starEach [] X.env := by rfl)
    (hf : X.fn x = true ∨ X.env.scope.names.lookup x = some .local := by first | exact .inl rfl | exact .inr rfl)
    (hfs : ∀ x, foldedSetIterable (.Call (.Name "range" p1) [e] [] p2) X.env x = pure x := by intro _; rfl) : SsD X (.For (.Name x p3) (.Call (.Name "range" p1) [e] [] p2) body [] pos :: sts) Γ Φ := by
  obtain ⟨ta, pa, qa⟩ := ha
  refine ⟨_, pss_cons (ps_for hp hc (pi_range1 hg hm (pa_cons pa pa_nil hse) he) (pg_name (i := i) hd hN hx hf) (pss_all (st' := body)) hfs) (pss_all (st' := sts)), fun σ H hl C E T => ?_⟩
  refine qa σ H C _ fun v H1 e1 h1 => ?_
  refine ⟨(n : Int), by rw [den_v.mp h1], by omega, hn, ?_⟩
  rw [Int.toNat_natCast]
  have hi : i < X.N.length := (List.getElem?_eq_some_iff.mp hN).1
  refine for_range (lo := 0) (n := n) (fun j σ' H' => ∃ Γ', J j Γ' ∧ σ'.length = X.N.length ∧ Ctx X.K H' Γ' σ' ∧ Ex H1 H') ⟨Γ, h0, hl, C.mono e1, Ex.refl H1⟩ ?_ ?_
  · rintro j σ' H' hj ⟨Γ', g1, g2, g3, g4⟩
    show allS X body _ (σ'.set i (some (.int ((0 : Int) + (j : Int))))) H'
    rw [Int.zero_add]
    refine (hs j Γ' hj g1).all (by rw [List.length_set]; exact g2) (g3.set (by rw [g2]; exact hi) (den_v.mpr rfl)) ?_
    refine ⟨fun Γ'' σ2 H2 z e2 l2 c2 => ?_, fun d v H2 z e2 hv => ?_, fun Γ'' σ2 H2 z e2 l2 c2 => ?_, fun Γ'' σ2 H2 z e2 l2 c2 => ?_, fun cl fs Γ'' d σ2 H2 z e2 l2 c2 x2 => ?_⟩
    · rcases z with ⟨Γ3, z | z, w⟩ | ⟨_, z, _⟩ | ⟨_, z, _⟩ | ⟨_, _, _, z, _⟩ <;> cases z
      exact ⟨Γ'', w, l2, c2, g4.trans e2⟩
    · rcases z with ⟨Γ3, z | z, w⟩ | ⟨_, z, w⟩ | ⟨_, z, _⟩ | ⟨_, _, _, z, _⟩ <;> cases z
      exact T.rt d v H2 w ((e1.trans g4).trans e2) hv
    · rcases z with ⟨Γ3, z | z, w⟩ | ⟨_, z, w⟩ | ⟨_, z, w⟩ | ⟨_, _, _, z, _⟩ <;> cases z
      exact w.all l2 c2 (T.mono ((e1.trans g4).trans e2))
    · rcases z with ⟨Γ3, z | z, w⟩ | ⟨_, z, w⟩ | ⟨_, z, w⟩ | ⟨_, _, _, z, _⟩ <;> cases z
      exact ⟨Γ'', w, l2, c2, g4.trans e2⟩
    · rcases z with ⟨Γ3, z | z, w⟩ | ⟨_, z, w⟩ | ⟨_, z, w⟩ | ⟨_, _, _, z, w⟩ <;> cases z
      exact T.ex cl fs Γ'' d σ2 H2 w ((e1.trans g4).trans e2) l2 c2 x2
  · rintro σ' H' ⟨Γ', g1, g2, g3, g4⟩
    exact (k Γ' g1).all g2 g3 (T.mono (e1.trans g4))
/-- while -/
theorem z_while (J : Nat → Gm → Prop) (m0 : Nat) (h0 : J m0 Γ)
    (hs : ∀ m Γ', J m Γ' → ∃ k, TD X c Γ' k ∧ (k = true → SsD X body Γ' (fun o => (∃ Γ'' m', (o = .nx Γ'' ∨ o = .ct Γ'') ∧ m' < m ∧ J m' Γ'') ∨ (∃ d, o = .rt d ∧ Φ (.rt d)) ∨ (∃ Γ'', o = .bk Γ'' ∧ SsD X sts Γ'' Φ) ∨ ∃ c fs Γ'', o = .ex c fs Γ'' ∧ Φ (.ex c fs Γ''))) ∧ (k = false → SsD X sts Γ' Φ))
    (hp : PassesOwn (model X.prog X.w) X.A X.env X.xe := by exact PassesOwn.never) : SsD X (.While c body [] pos :: sts) Γ Φ := by
  refine ⟨_, pss_cons (ps_while hp (pt_all (c := c)) (pss_all (st' := body))) (pss_all (st' := sts)), fun σ H hl C E T => ?_⟩
  refine ⟨fun m σ' H' => ∃ Γ', J m Γ' ∧ σ'.length = X.N.length ∧ Ctx X.K H' Γ' σ' ∧ Ex H H', ⟨m0, Γ, h0, hl, C, Ex.refl H⟩, ?_⟩
  rintro m σ' H' ⟨Γ', g1, g2, g3, g4⟩
  obtain ⟨k, ht, hb, hn⟩ := hs m Γ' g1
  refine ht.all g3 fun H2 e2 => ?_
  cases k with
  | false =>
    show allS X sts E σ' H2
    exact (hn rfl).all g2 (g3.mono e2) (T.mono (g4.trans e2))
  | true =>
    show ∃ N : L2.St → Hp → Prop, _
    refine ⟨fun σ3 H3 => ∃ m' Γ3, m' < m ∧ J m' Γ3 ∧ σ3.length = X.N.length ∧ Ctx X.K H3 Γ3 σ3 ∧ Ex H H3, fun σ3 H3 ⟨m', Γ3, q1, q2, q3, q4, q5⟩ => ⟨m', q1, Γ3, q2, q3, q4, q5⟩, ?_⟩
    refine (hb rfl).all g2 (g3.mono e2) ?_
    refine ⟨fun Γ'' σ2 H2 z e3 l2 c2 => ?_, fun d v H2 z e3 hv => ?_, fun Γ'' σ2 H2 z e3 l2 c2 => ?_, fun Γ'' σ2 H2 z e3 l2 c2 => ?_, fun cl fs Γ'' d σ2 H2 z e3 l2 c2 x2 => ?_⟩
    · rcases z with ⟨Γ3, m', z | z, w1, w2⟩ | ⟨_, z, _⟩ | ⟨_, z, _⟩ | ⟨_, _, _, z, _⟩ <;> cases z
      exact ⟨m', Γ'', w1, w2, l2, c2, (g4.trans e2).trans e3⟩
    · rcases z with ⟨Γ3, m', z | z, w⟩ | ⟨_, z, w⟩ | ⟨_, z, _⟩ | ⟨_, _, _, z, _⟩ <;> cases z
      exact T.rt d v _ w ((g4.trans e2).trans e3) hv
    · rcases z with ⟨Γ3, m', z | z, w⟩ | ⟨_, z, w⟩ | ⟨_, z, w⟩ | ⟨_, _, _, z, _⟩ <;> cases z
      exact w.all l2 c2 (T.mono ((g4.trans e2).trans e3))
    · rcases z with ⟨Γ3, m', z | z, w1, w2⟩ | ⟨_, z, w⟩ | ⟨_, z, w⟩ | ⟨_, _, _, z, _⟩ <;> cases z
      exact ⟨m', Γ'', w1, w2, l2, c2, (g4.trans e2).trans e3⟩
    · rcases z with ⟨Γ3, m', z | z, w⟩ | ⟨_, z, w⟩ | ⟨_, z, w⟩ | ⟨_, _, _, z, w⟩ <;> cases z
      exact T.ex cl fs Γ'' d σ2 _ w ((g4.trans e2).trans e3) l2 c2 x2
/-- if c: body, joined behind: from whatever Γ' the two ways leave -/
theorem z_if {k : Bool} {sa sb : List Stmt} (J : Gm → Prop) (hc : TD X c Γ k) (ha : k = true → SsD X sa Γ (fun o => ∃ Γ', o = .nx Γ' ∧ J Γ')) (hb : k = false → SsD X sb Γ (fun o => ∃ Γ', o = .nx Γ' ∧ J Γ')) (h : ∀ Γ', J Γ' → SsD X sts Γ' Φ) : SsD X (.If c sa sb pos :: sts) Γ Φ :=
  ss_seq (Ψ := fun o => ∃ Γ', o = .nx Γ' ∧ J Γ') (sd_if hc ha hb) (fun Γ' ⟨Γ2, e, j⟩ => by
    cases e
    exact h _ j) fun o h1 ⟨Γ2, e, _⟩ => absurd e (h1 _)
end
end Trk

namespace Trk
open PySem L2 Evl
/-! ### comparisons of numbers, of which one at least is a Fraction -/
def R_cmp (C : Addr) (b : Rat → Rat → Bool) : List D → D → Prop := fun ds d => ∃ p y q, ds = [fr C p, y] ∧ NumV C y q ∧ Sz 4000 p ∧ Sz 4000 q ∧ d = bD (b p q)
def cmpB : CmpOp → Rat → Rat → Bool
  | .Eq, p, q => decide (p = q)
  | .NotEq, p, q => !decide (p = q)
  | .Lt, p, q => decide (p < q)
  | .LtE, p, q => decide (p ≤ q)
  | .Gt, p, q => decide (q < p)
  | .GtE, p, q => decide (q ≤ p)
  | _, _, _ => false
def six : CmpOp → Bool
  | .Eq | .NotEq | .Lt | .LtE | .Gt | .GtE => true
  | _ => false
def mirr : CmpOp → CmpOp
  | .Lt => .Gt
  | .LtE => .GtE
  | .Gt => .Lt
  | .GtE => .LtE
  | o => o
theorem cmpB_mirr {op : CmpOp} (p q : Rat) : cmpB (mirr op) q p = cmpB op p q := by
  cases op <;> first | rfl | (show decide (q = p) = decide (p = q); exact decide_eq_decide.mpr eq_comm) | (show (!decide (q = p)) = !decide (p = q); rw [show decide (q = p) = decide (p = q) from decide_eq_decide.mpr eq_comm])
/-- the six methods keep their promises -/
structure CmpOk (P : Program) (w : World) (K : PySem.W.Frag) (mg : Str → Option Value) (base : Heap) (C : Addr) (op : CmpOp) : Prop where
  ex : ∃ f fd ps, CmpM K C (cmpInfo op).2.1 f ∧ FnOk P w K mg base CX0 6 f fd ps (spD K 2 (R_cmp C (cmpB op))) ∧ Binds K fd ps []
def PairV (C : Addr) (x y : D) (p q : Rat) : Prop := (x = fr C p ∧ NumV C y q) ∨ (y = fr C q ∧ NumV C x p)
section
variable {X : Cx} {Γ : Gm} {d1 d2 : D} {a b : Expr} {pos : Pos} {C : Addr} {p q : Rat}
theorem ed_cmpN {op : CmpOp} (T : FrTxt X.K X.mg C) (HC : ∀ op, six op = true → CmpOk X.prog X.w X.K X.mg X.base C op) (h6 : six op = true) (hr : Room 6 X.A) (ha : ED X a Γ d1) (hb : ED X b Γ d2) (h : PairV C d1 d2 p q) (hp : Sz 4000 p) (hq : Sz 4000 q)
    (hm : behindInMarks op b = false := by exact nomark _) : ED X (.Compare a [op] [b] pos) Γ (bD (cmpB op p q)) := by
  obtain ⟨f, fd, ps, M, F, B⟩ := (HC op h6).ex
  have ro : ∀ a b, compareOp op a b = richCompare op a b := by cases op <;> first | (intro _ _; rfl) | cases h6
  rcases h with ⟨rfl, hy⟩ | ⟨rfl, hx⟩
  · rcases id hy with rfl | ⟨n, rfl, rfl⟩
    · exact ed_cmp (cmp_own ro M F hr B pass0) ha hb (rd_own ⟨p, _, q, rfl, hy, hp, hq, rfl⟩) hm
    · exact ed_cmp (cmp_ownI ro M T.sub1 F hr B pass0) ha hb (rd_ownI ⟨p, _, _, rfl, hy, hp, hq, rfl⟩) hm
  · rcases id hx with rfl | ⟨n, rfl, rfl⟩
    · exact ed_cmp (cmp_own ro M F hr B pass0) ha hb (rd_own ⟨p, _, q, rfl, .inl rfl, hp, hq, rfl⟩) hm
    · have h6' : six (mirr op) = true := by cases op <;> first | rfl | cases h6
      obtain ⟨g, gd, qs, M', F', B'⟩ := (HC (mirr op) h6').ex
      have e : (cmpInfo op).2.2 = (cmpInfo (mirr op)).2.1 := by cases op <;> first | rfl | cases h6
      have M2 : CmpM X.K C (cmpInfo op).2.2 g := by rw [e]; exact M'
      have S : ∃ id B, CmpSlot op id B := by
        cases op <;> first | exact ⟨_, _, cEq⟩ | exact ⟨_, _, cNe⟩ | exact ⟨_, _, cLt⟩ | exact ⟨_, _, cLe⟩ | exact ⟨_, _, cGt⟩ | exact ⟨_, _, cGe⟩ | cases h6
      obtain ⟨id, B0, S⟩ := S
      refine ed_is (ed_cmp (cmp_iown ro S M2 T.sub2 F' hr B' pass0) ha hb (rd_iown ⟨q, _, _, rfl, .inr ⟨n, rfl, rfl⟩, hq, hp, rfl⟩) hm) ?_
      rw [cmpB_mirr]
end
/-! ### the script -/
theorem denL_ints {K : PySem.W.Frag} {H : Hp} : ∀ ns : List Int, DenL K H (ns.map iD) (ns.map V.int)
  | [] => DenL.nil
  | n :: ns => DenL.cons (den_v.mpr rfl) (denL_ints ns)
theorem den_script {K : PySem.W.Frag} {H : Hp} {a : Addr} {ns : List Int} (h : SqL K H a (ns.map V.int)) : Den K H (.scr ns) (.ref a) := by
  simp only [Den]
  exact ⟨a, rfl, h⟩
/-- _law_cell -/
def R_cell : List D → D → Prop := fun ds d => ∃ (ns : List Int) (k : Nat), ds = [.scr ns, iD (k : Int)] ∧ d = iD (ns.getD k 0)
theorem at_nat {α : Type} {xs : List α} {j : Nat} {v : α} (h : xs[j]? = some v) : atI xs (j : Int) = some v := atI_nat h
/-- the law itself -/
def R_law : List D → D → Prop := fun ds d => ∃ ns : List Int, ds = [.scr ns] ∧ ns.length ≤ 63 ∧ d = bD true
theorem sp_law {K : PySem.W.Frag} {H : Hp} {a : Addr} {ns : List Int} {Q : VK} {E : XK} (hl : ns.length ≤ 63) (hS : SqL K H a (ns.map V.int)) (h : ∀ H', Q (.bl true) H') : spD K 1 R_law [.ref a] H Q E :=
  ⟨_, _, rfl, DenL.cons (den_script hS) DenL.nil, ⟨ns, rfl, hl, rfl⟩, fun v H' _ hv => by
    rw [den_v.mp hv]
    exact h H'⟩
end Trk

namespace Trk
open PySem L2 Evl
section
variable {X : Cx} {Γ : Gm} {d d1 d2 : D} {e a b c : Expr} {es : List Expr} {pos : Pos} {st : Stmt} {sts body rest : List Stmt} {Φ Ψ : Out → Prop} {cls : Value} {fs : List (Str × D)}
/-- an expression that raises -/
def XD (X : Cx) (e : Expr) (Γ : Gm) (cls : Value) (fs : List (Str × D)) : Prop :=
  ∃ t, PE X e t ∧ ∀ σ H, Ctx X.K H Γ σ → (∀ d H', Ex H H' → DenX X.K H' d fs → W0 X cls d σ H') → ∀ Q : VK, t σ H Q
theorem sd_exprX (h : XD X e Γ cls fs) (hp : Φ (.ex cls fs Γ)) (hs : swapsWith e none pos.line X.env = pure false := by rfl) : SD X (.Expr e pos) Γ Φ := by
  obtain ⟨t, p, q⟩ := h
  exact ⟨_, ps_expr p hs, fun σ H hl C E T => q σ H C (fun d H' e1 hx => T.ex cls fs Γ d σ H' hp e1 hl (C.mono e1) hx) _⟩
theorem sd_retX (h : XD X e Γ cls fs) (hp : Φ (.ex cls fs Γ)) : SD X (.Return (some e) pos) Γ Φ := by
  obtain ⟨t, p, q⟩ := h
  exact ⟨_, ps_ret p, fun σ H hl C E T => q σ H C (fun d H' e1 hx => T.ex cls fs Γ d σ H' hp e1 hl (C.mono e1) hx) _⟩
theorem sd_asgX (i : Nat) {x : Str} {pos' : Pos} (h : XD X e Γ cls fs) (hd : X.N.Nodup) (hp : Φ (.ex cls fs Γ)) (hN : X.N[i]? = some x := by rfl) (hx : Loc X.env.scope x := by first | exact Or.inl rfl | exact Or.inr rfl)
    (hs : swapsWith e (some (.Name x pos')) pos.line X.env = pure false := by rfl) (hf : X.fn x = true ∨ X.env.scope.names.lookup x = some .local := by first | exact .inl rfl | exact .inr rfl) : SD X (.Assign [.Name x pos'] e pos) Γ Φ := by
  obtain ⟨t, p, q⟩ := h
  exact ⟨_, ps_set (i := i) hd hN hx p hs hf, fun σ H hl C E T => q σ H C (fun d H' e1 hx => T.ex cls fs Γ d σ H' hp e1 hl (C.mono e1) hx) _⟩
/-- a statement that leaves: nothing of the rest is asked -/
theorem ss_out (h : SD X st Γ Φ) (hn : ∀ Γ', ¬ Φ (.nx Γ')) : SsD X (st :: sts) Γ Φ := ss_seq h (fun Γ' z => absurd z (hn Γ')) fun o _ z => z

/-! ### raise X(), an own class without __init__ -/
structure ErT (K : PySem.W.Frag) (mg : Str → Option Value) (x : Str) (C : Addr) : Prop where
  mg : mg x = some (.ref C)
  exc : PySem.W.excIn K C [.type "ValueError", .type "Exception", .type "BaseException", .type "object"] "ValueError.__new__" = true
  kp : PySem.W.keepIn K (.ref C) = true
  be : PySem.W.subIn K (.ref C) (.type "BaseException") = some true
  ty : PySem.W.typeIn K (.ref C) = some (.type "type")
  hd : PySem.W.hasDictIn K C = true
  self : PySem.W.subIn K (.ref C) (.ref C) = some true
theorem pmk_own0 {x : Str} {C : Addr} {p : Pos} (T : ErT X.K X.mg x C) (hg : Gl X x) (hdb : (x == ("__debug__" : Str)) = false := by decide) : PMk X (.Call (.Name x p) [] [] pos) (fun _ H Q => Q (.ref C) none H) := by
  intro pins s σ H Q I h
  refine wpAny_Call_Name_kw (ld_glob I hg T.mg ?_ hdb)
  refine PySem.W.callWith_K0 (first := []) I.kIn T.kp ?_
  obtain ⟨bm, N, nm, qn, bs, hdct, sn, sub, ab, col, dd, k0, k1, k2, k3, k5, mN, hC, hN, hni, OT⟩ := exc_obj I.kIn T.exc
  obtain ⟨hp, g, dr, tk, os⟩ := s
  refine wpAny_call_exc_subT PySem.F.excBase_ValueError OT hC hN hni (fun h' e hm => ?_) (Nat.zero_le _)
  exact mk_of I hm (raises_own T.be T.ty) h (I.hok.gone hm.new)
theorem sd_raise0 {x : Str} {C : Addr} {p p2 : Pos} (hc : X.calm = true) (T : ErT X.K X.mg x C) (h : Φ (.ex (.ref C) [] Γ)) (hg : Gl X x := by rfl) (hdb : (x == ("__debug__" : Str)) = false := by decide) : SD X (.Raise (some (.Call (.Name x p) [] [] pos)) none p2) Γ Φ :=
  ⟨_, ps_raise hc tk0 (pmk_own0 T hg hdb), fun σ H hl C E T => T.ex _ _ Γ none σ H h (Ex.refl H) hl C (.inl ⟨rfl, rfl⟩)⟩

/-! ### what a def that may raise promises -/
def spX (K : PySem.W.Frag) (n : Nat) (R : List D → D → Prop) (RX : List D → Value → List (Str × D) → Prop) : Sp := fun vs H Q E => ∃ ds, ds.length = n ∧ DenL K H ds vs ∧
  ((∃ d, R ds d ∧ ∀ v H', Ex H H' → Den K H' d v → Q v H') ∨ ∃ cls fs, RX ds cls fs ∧ ∀ d H', Ex H H' → DenX K H' d fs → E cls d H')
abbrev WS (X : Cx) : L2.St → XK := fun σ cls d H => W0 X cls d σ H
theorem passW {σ : L2.St} : PassesAt (L2.CX X.prog X.w) X σ (WS X σ) := passAt tk0 σ
/-- f(e, ..) that may raise -/
theorem ed_callX {k n : Nat} {f : Addr} {fd : FuncData} {ps : List Str} {R : List D → D → Prop} {RX : List D → Value → List (Str × D) → Prop} {x : Str} {p : Pos} {ds : List D} (F : FnOk X.prog X.w X.K X.mg X.base (L2.CX X.prog X.w) k f fd ps (spX X.K n R RX)) (hr : Room k X.A) (hm : X.mg x = some (.ref f))
    (hk : PySem.W.keepIn X.K (.ref f) = true) (hb : Binds X.K fd ps []) (ha : AD X (e :: es) Γ ds) (hR : R ds d) (hn : ds.length = n := by rfl) (hg : Gl X x := by rfl) (hdb : (x == ("__debug__" : Str)) = false := by decide)
    (he : starEach (e :: es) X.env = (false, eval e X.env) :: starEach es X.env := by rfl) (hpl : (backTo pos (starEach es X.env)).any (·.1) = false := by rfl) : ED X (.Call (.Name x p) (e :: es) [] pos) Γ d := by
  obtain ⟨t, p, q⟩ := ha
  exact ⟨_, pe_callS F hr hg hm hk hb (fun σ => passW) p hdb he hpl, fun σ H C Q r => q σ H C _ fun vs H1 e1 h1 => ⟨ds, hn, h1, .inl ⟨d, hR, fun v H' e2 h2 => r v H' (e1.trans e2) h2⟩⟩⟩
theorem xd_callX {k n : Nat} {f : Addr} {fd : FuncData} {ps : List Str} {R : List D → D → Prop} {RX : List D → Value → List (Str × D) → Prop} {x : Str} {p : Pos} {ds : List D} (F : FnOk X.prog X.w X.K X.mg X.base (L2.CX X.prog X.w) k f fd ps (spX X.K n R RX)) (hr : Room k X.A) (hm : X.mg x = some (.ref f))
    (hk : PySem.W.keepIn X.K (.ref f) = true) (hb : Binds X.K fd ps []) (ha : AD X (e :: es) Γ ds) (hR : RX ds cls fs) (hn : ds.length = n := by rfl) (hg : Gl X x := by rfl) (hdb : (x == ("__debug__" : Str)) = false := by decide)
    (he : starEach (e :: es) X.env = (false, eval e X.env) :: starEach es X.env := by rfl) (hpl : (backTo pos (starEach es X.env)).any (·.1) = false := by rfl) : XD X (.Call (.Name x p) (e :: es) [] pos) Γ cls fs := by
  obtain ⟨t, p, q⟩ := ha
  exact ⟨_, pe_callS F hr hg hm hk hb (fun σ => passW) p hdb he hpl, fun σ H C r Q => q σ H C _ fun vs H1 e1 h1 => ⟨ds, hn, h1, .inr ⟨cls, fs, hR, fun d H' e2 h2 => r d H' (e1.trans e2) h2⟩⟩⟩

/-- a new instance whose __init__ may raise, at the slots σ -/
theorem new_at {CX : CXT} {k : Nat} {f C : Addr} {fd : FuncData} {ps : List Str} {sp : Sp} {dvs : List V} {ds : List Value} {E : XK} {pins : List (Addr × Obj)} {σ : L2.St} {H : Hp} {s : Shared} {Q : VK} {us : List Value} {vs : List V} (M : Mk X.K C f) (F : FnOk X.prog X.w X.K X.mg X.base CX k f fd ps sp)
    (hr : Room (k + 1) X.A) (hb : Binds X.K fd ps ds) (hd : Vals dvs ds) (pa : PassesAt CX X σ E) (I : Inv X pins σ H s) (r : Vals vs us)
    (go : ∀ x dx, H x = none → H dx = none → dx ≠ x → sp (.ref x :: (vs ++ dvs)) (upd (upd H dx (.own x)) x (.ins C dx [])) (fun v H2 => v = .non ∧ Q (.ref x) H2) E) : wpAny (model X.prog X.w) X.A (call (.ref C) us) (EP X pins σ Q) X.xe s := by
  let n := s.heap.objs.size
  have J : Inv X pins σ _ _ := Inv.made (C := C) I
  have told := go (n + 1) n (I.hok.fresh (Nat.le_succ _)) (I.hok.fresh (Nat.le_refl _)) (Nat.ne_of_lt (Nat.lt_succ_self _))
  have rel : Vals (V.ref (n + 1) :: (vs ++ dvs)) (Value.ref (n + 1) :: (us ++ ds)) := .cons (show RelV (V.ref (n + 1)) (Value.ref (n + 1)) from rfl) (r.append hd)
  have len : (Value.ref (n + 1) :: us ++ ds).length = ps.length := (rel.length.symm.trans (F.len _ _ _ _ told))
  have bound := hb _ (Value.ref (n + 1) :: us) J.kIn len
  have ran := F.run _ X.stack _ _ ⟨Value.ref (n + 1) :: us, []⟩ (Value.ref (n + 1) :: (us ++ ds)) _ _ E (hr.make C us []) (J.env0.make C us []) bound rel told
  refine wpAny_call (make_map (f := f) I.kIn M.makes M.init (beq_iff_eq.mp M.fn) (codeAny_mono ran fun res s' out => ?_))
  rcases res with err | fl
  · exact pa pins _ _ err s' J out
  · cases fl with
    | ret u =>
      obtain ⟨y, H', I3, ry, ey, q3⟩ := J.after out
      subst ey
      exact ⟨ry, ⟨V.ref (n + 1), H', I3, rfl, q3⟩⟩
    | next => exact out.elim
    | brk => exact out.elim
    | cont => exact out.elim
def tMakeS (C : Addr) (sp : Sp) (dvs : List V) (E : L2.St → XK) (t : TA) : TE := fun σ H Q => t σ H fun vs H1 => ∀ x dx, H1 x = none → H1 dx = none → dx ≠ x → sp (.ref x :: (vs ++ dvs)) (upd (upd H1 dx (.own x)) x (.ins C dx [])) (fun v H2 => v = .non ∧ Q (.ref x) H2) (E σ)
theorem pe_makeS {CX : CXT} {k : Nat} {f C : Addr} {fd : FuncData} {ps : List Str} {sp : Sp} {dvs : List V} {ds : List Value} {E : L2.St → XK} {x : Str} {p : Pos} {t : TA} (M : Mk X.K C f) (F : FnOk X.prog X.w X.K X.mg X.base CX k f fd ps sp) (hr : Room (k + 1) X.A) (hg : Gl X x) (hm : X.mg x = some (.ref C))
    (hb : Binds X.K fd ps ds) (hd : Vals dvs ds) (pa : ∀ σ, PassesAt CX X σ (E σ)) (ha : PA X (e :: es) t) (hdb : (x == ("__debug__" : Str)) = false := by decide) (he : starEach (e :: es) X.env = (false, eval e X.env) :: starEach es X.env := by rfl)
    (hpl : (backTo pos (starEach es X.env)).any (·.1) = false := by rfl) : PE X (.Call (.Name x p) (e :: es) [] pos) (tMakeS C sp dvs E t) := by
  refine ⟨fun pins s σ H Q I h => wpAny_Call_Name_kw (ld_glob I hg hm ?_ hdb)⟩
  exact PySem.W.callWith_K (h₀ := X.base) I.ok.mod.kin M.kp (thn (ha.run pos pins s σ H _ I h) fun us s1 ⟨vs, H1, I1, r, q⟩ => ⟨I1.kIn, new_at M F hr hb hd (pa σ) I1 r q⟩) he hpl

/-! ### try: .. except X: .. -/
theorem names_own {x : Str} {C : Addr} (hm : X.mg x = some (.ref C)) (hg : Gl X x := by rfl) (hdb : (x == ("__debug__" : Str)) = false := by decide) : Names X x (.ref C) := ⟨hg, hdb, .inl hm⟩
/-- what the body does, whatever is around it -/
def bodyT (X : Cx) (body : List Stmt) : WX → TS := fun W E σ H => ∀ (pn : List (Addr × Obj)) (xe : Value → Shared → Prop), L2.Takes (X.tr pn xe) W → PassesOwn (model X.prog X.w) X.A X.env xe → allS (X.tr pn xe) body E σ H
def suiteT (X : Cx) (suite : List Stmt) : Addr → Value → Option Addr → TS := fun a cls d E σ H => ∀ (oe : Obj) (pn : List (Addr × Obj)), Zc cls d oe → (∃ vs, oe.data = .fields vs) → allS (X.suite a ((a, oe) :: pn)) suite E σ H
theorem sd_try {x : Str} {C : Addr} {b₀ : Stmt} {suite : List Stmt} {np pos' : Pos} (hs : X.stack = X.env :: X.outer) (hf : X.env.frame = some X.env.locals) (hc : Names X x (.ref C))
    (hb : ∀ pn xe, PassesOwn (model X.prog X.w) X.A X.env xe → SsD (X.tr pn xe) body Γ Ψ)
    (ho : ∀ o, (∀ c fs Γ', o ≠ .ex c fs Γ') → Ψ o → Φ o)
    (hx : ∀ c fs Γ', Ψ (.ex c fs Γ') → ∃ k, PySem.W.exmOne X.K c (.ref C) = some k ∧ (k = true → ∀ a oe d pn, Zc c d oe → (∃ vs, oe.data = .fields vs) → SsD (X.suite a ((a, oe) :: pn)) (b₀ :: suite) Γ' (fun o => (∀ c fs Γ2, o ≠ .ex c fs Γ2) ∧ Φ o)) ∧ (k = false → Φ (.ex c fs Γ'))) :
    SD X (.Try body [.ExceptHandler (some (.Name x np)) none (b₀ :: suite) pos'] [] [] pos) Γ Φ := by
  refine ⟨_, ps_try_only hs hf hc (tk0 (X := X)) (tb := bodyT X body) (ts := suiteT X (b₀ :: suite)) (fun W pn xe tk hp => ⟨fun pins s σ H E I h => h pn xe tk hp pins s I⟩)
    (fun a oe cls d pn hz hfl => ⟨fun pins s σ H E I h => h oe pn hz hfl pins s I⟩), fun σ H hl C0 E T => ?_⟩
  intro pn xe tk hp
  refine (hb pn xe hp).all hl C0 ?_
  refine ⟨fun Γ' σ' H' z e1 l1 c1 => T.nx Γ' σ' H' (ho _ (fun _ _ _ w => by cases w) z) e1 l1 c1, fun d v H' z e1 hv => T.rt d v H' (ho _ (fun _ _ _ w => by cases w) z) e1 hv,
    fun Γ' σ' H' z e1 l1 c1 => T.bk Γ' σ' H' (ho _ (fun _ _ _ w => by cases w) z) e1 l1 c1, fun Γ' σ' H' z e1 l1 c1 => T.ct Γ' σ' H' (ho _ (fun _ _ _ w => by cases w) z) e1 l1 c1, fun c fs Γ' d σ' H' z e1 l1 c1 x1 => ?_⟩
  refine w0_of tk ?_
  obtain ⟨k, h1, h2, h3⟩ := hx c fs Γ' z
  refine ⟨k, h1, fun hk a na => ?_, fun hk => T.ex c fs Γ' d σ' H' (h3 hk) e1 l1 c1 x1⟩
  intro oe pn2 hz hfl
  refine (h2 hk a oe d pn2 hz hfl).all l1 c1 ?_
  have T' := T.mono e1
  exact ⟨fun Γ2 σ2 H2 z2 => T'.nx Γ2 σ2 H2 z2.2, fun d2 v H2 z2 => T'.rt d2 v H2 z2.2, fun Γ2 σ2 H2 z2 => T'.bk Γ2 σ2 H2 z2.2, fun Γ2 σ2 H2 z2 => T'.ct Γ2 σ2 H2 z2.2, fun c2 fs2 Γ2 d2 σ2 H2 z2 => absurd rfl (z2.1 c2 fs2 Γ2)⟩
theorem Ctx.unset {K : PySem.W.Frag} {H : Hp} {Γ : Gm} {σ : L2.St} {i : Nat} (c : Ctx K H Γ σ) : Ctx K H (Γ.set i none) (σ.set i none) := fun j d' e => by
  by_cases hj : i = j
  · subst hj
    rw [List.getElem?_set] at e
    simp only [if_true] at e
    split at e <;> cases e
  · rw [List.getElem?_set_ne hj] at e
    obtain ⟨w, h1, h2⟩ := c j d' e
    exact ⟨w, by rw [List.getElem?_set_ne hj]; exact h1, h2⟩
/-- what is behind the suite: the name is gone -/
def gone (i : Nat) (Φ : Out → Prop) : Out → Prop
  | .nx Γ => Φ (.nx (Γ.set i none))
  | .bk Γ => Φ (.bk (Γ.set i none))
  | .ct Γ => Φ (.ct (Γ.set i none))
  | .rt d => Φ (.rt d)
  | .ex _ _ _ => False
theorem sd_tryAs (i : Nat) {x n : Str} {C : Addr} {b₀ : Stmt} {suite : List Stmt} {np pos' : Pos} (hs : X.stack = X.env :: X.outer) (hf : X.env.frame = some X.env.locals) (hd : X.N.Nodup) (hc : Names X x (.ref C))
    (hb : ∀ pn xe, PassesOwn (model X.prog X.w) X.A X.env xe → SsD (X.tr pn xe) body Γ Ψ)
    (ho : ∀ o, (∀ c fs Γ', o ≠ .ex c fs Γ') → Ψ o → Φ o)
    (hx : ∀ c fs Γ', Ψ (.ex c fs Γ') → ∃ k, PySem.W.exmOne X.K c (.ref C) = some k ∧ (k = true → ∀ a oe d pn, Zc c d oe → (fs = [] → d = none) → (∃ vs, oe.data = .fields vs) → SsD (X.suite a ((a, oe) :: pn)) (b₀ :: suite) (Γ'.set i (some (.v (.ref a)))) (gone i Φ)) ∧ (k = false → Φ (.ex c fs Γ')))
    (hN : X.N[i]? = some n := by rfl) (hln : X.env.kindOf n = some .local := by rfl) :
    SD X (.Try body [.ExceptHandler (some (.Name x np)) (some n) (b₀ :: suite) pos'] [] [] pos) Γ Φ := by
  refine ⟨_, ps_try_as (i := i) hs hf hd hN hln hc (tk0 (X := X)) (tb := bodyT X body) (ts := suiteT X (b₀ :: suite)) (fun W pn xe tk hp => ⟨fun pins s σ H E I h => h pn xe tk hp pins s I⟩)
    (fun a oe cls d pn hz hfl => ⟨fun pins s σ H E I h => h oe pn hz hfl pins s I⟩), fun σ H hl C0 E T => ?_⟩
  intro pn xe tk hp
  refine (hb pn xe hp).all hl C0 ?_
  refine ⟨fun Γ' σ' H' z e1 l1 c1 => T.nx Γ' σ' H' (ho _ (fun _ _ _ w => by cases w) z) e1 l1 c1, fun d v H' z e1 hv => T.rt d v H' (ho _ (fun _ _ _ w => by cases w) z) e1 hv,
    fun Γ' σ' H' z e1 l1 c1 => T.bk Γ' σ' H' (ho _ (fun _ _ _ w => by cases w) z) e1 l1 c1, fun Γ' σ' H' z e1 l1 c1 => T.ct Γ' σ' H' (ho _ (fun _ _ _ w => by cases w) z) e1 l1 c1, fun c fs Γ' d σ' H' z e1 l1 c1 x1 => ?_⟩
  refine w0_of tk ?_
  obtain ⟨k, h1, h2, h3⟩ := hx c fs Γ' z
  refine ⟨k, h1, fun hk a na => ?_, fun hk => T.ex c fs Γ' d σ' H' (h3 hk) e1 l1 c1 x1⟩
  intro oe pn2 hz hfl
  have hi : i < σ'.length := by
    rw [l1]
    exact (List.getElem?_eq_some_iff.mp hN).1
  have hd0 : fs = [] → d = none := fun e0 => by
    rcases x1 with ⟨_, q⟩ | ⟨dd, gs, q, _⟩
    · exact q
    · exact absurd e0 q
  refine (h2 hk a oe d pn2 hz hd0 hfl).all (by rw [List.length_set]; exact l1) (c1.set hi (den_v.mpr rfl)) ?_
  have T' := T.mono e1
  exact ⟨fun Γ2 σ2 H2 z2 e2 l2 c2 => T'.nx _ _ H2 z2 e2 (by rw [List.length_set]; exact l2) c2.unset, fun d2 v H2 z2 => T'.rt d2 v H2 z2, fun Γ2 σ2 H2 z2 e2 l2 c2 => T'.bk _ _ H2 z2 e2 (by rw [List.length_set]; exact l2) c2.unset,
    fun Γ2 σ2 H2 z2 e2 l2 c2 => T'.ct _ _ H2 z2 e2 (by rw [List.length_set]; exact l2) c2.unset, fun c2 fs2 Γ2 d2 σ2 H2 z2 => z2.elim⟩
end

/-! ### lists of ints compared -/
theorem py_ints {K : PySem.W.Frag} {H : Hp} : ∀ {ns : List Int} {ys : List V}, DenL K H (ns.map iD) ys → DpAll K H ys (ns.map PyData.int)
  | [], ys, h => by
    simp only [List.map_nil, DenL] at h
    subst h
    exact .nil
  | n :: ns, ys, h => by
    simp only [List.map_cons, DenL] at h
    obtain ⟨z, zs, rfl, h1, h2⟩ := h
    rw [den_v.mp h1]
    exact .cons (.int n) (py_ints h2)
theorem py_lay : ∀ ns : List Int, PyData.canLayAll0 (ns.map PyData.int) = true
  | [] => by simp [PyData.canLayAll0]
  | n :: ns => by
    rw [List.map_cons]
    simp only [PyData.canLayAll0, PyData.canLay0, py_lay ns, Bool.and_self]
theorem py_dep : ∀ ns : List Int, PyData.depthAll (ns.map PyData.int) = 0
  | [] => by simp [PyData.depthAll]
  | n :: ns => by
    rw [List.map_cons]
    simp [PyData.depthAll, PyData.depth, py_dep ns]
theorem py_shaped (ns : List Int) : SeqAt.shaped (.list (ns.map PyData.int)) = true := by
  unfold SeqAt.shaped
  simp [PyData.canLay0, PyData.depth, py_lay, py_dep]
theorem py_eqv : ∀ ns ms : List Int, PyData.eqvAll (ns.map PyData.int) (ms.map PyData.int) = decide (ns = ms)
  | [], [] => by simp [PyData.eqvAll]
  | [], m :: ms => by simp [PyData.eqvAll]
  | n :: ns, [] => by simp [PyData.eqvAll]
  | n :: ns, m :: ms => by
    simp only [List.map_cons, PyData.eqvAll, PyData.eqv, py_eqv ns ms]
    by_cases h : n = m
    · subst h
      simp
    · simp [h]
theorem dp_ints {K : PySem.W.Frag} {H : Hp} {ns : List Int} {y : V} (h : Den K H (.lst (ns.map iD)) y) : Dp K H y (.list (ns.map PyData.int)) := by
  simp only [Den] at h
  obtain ⟨a, ys, rfl, h1, h2⟩ := h
  exact .lst (SqL.of h1) (py_ints h2)
theorem rd_eqL {K : PySem.W.Frag} {ns ms : List Int} : RD K (rEqD K) (.lst (ns.map iD)) (.lst (ms.map iD)) (bD (decide (ns = ms))) := fun x y H h1 h2 Q q =>
  ⟨_, _, dp_ints h1, dp_ints h2, py_shaped ns, py_shaped ms, by
    have e : PyData.eqv (.list (ns.map PyData.int)) (.list (ms.map PyData.int)) = decide (ns = ms) := by
      simp only [PyData.eqv]
      exact py_eqv ns ms
    rw [e]
    exact q _ H (Ex.refl H) (den_v.mpr rfl)⟩
theorem rd_neL {K : PySem.W.Frag} {ns ms : List Int} : RD K (rNeD K) (.lst (ns.map iD)) (.lst (ms.map iD)) (bD (!decide (ns = ms))) := fun x y H h1 h2 Q q =>
  ⟨_, _, dp_ints h1, dp_ints h2, py_shaped ns, py_shaped ms, by
    have e : PyData.eqv (.list (ns.map PyData.int)) (.list (ms.map PyData.int)) = decide (ns = ms) := by
      simp only [PyData.eqv]
      exact py_eqv ns ms
    rw [e]
    exact q _ H (Ex.refl H) (den_v.mpr rfl)⟩

/-! ### Fraction(a, 0) -/
def spInitX (C CB : Addr) : Sp := fun vs H Q E => ∃ (p dx : Addr) (a b : Int), vs = [.ref p, .int a, .int b] ∧ H p = some (.ins C dx []) ∧
  ((b ≠ 0 ∧ b.natAbs < 2 ^ 8900 ∧ Q .non (upd H p (.ins C dx [("top", .int (Rat.divInt a b).num), ("bottom", .int ((Rat.divInt a b).den : Int))]))) ∨ (b = 0 ∧ E (.ref CB) none H))
section
variable {X : Cx} {Γ : Gm} {d : D} {e a c : Expr} {es : List Expr} {pos : Pos} {C CB : Addr}
theorem ex_new2 {H H1 : Hp} {x dx : Addr} {o u : HO} (e1 : Ex H H1) (nx : H1 x = none) (ndx : H1 dx = none) : Ex H (upd (upd H1 dx o) x u) := fun b w hw => by
  have h1 := e1 b w hw
  rw [upd_ne (ne_of_none h1 nx), upd_ne (ne_of_none h1 ndx)]
  exact h1
theorem xd_mk {k : Nat} {f : Addr} {fd : FuncData} {ps : List Str} {p : Pos} {i : Int} (M : Mk X.K C f) (F : FnOk X.prog X.w X.K X.mg X.base (L2.CX X.prog X.w) k f fd ps (spInitX C CB)) (hr : Room (k + 1) X.A) (hm : X.mg "Fraction" = some (.ref C))
    (hb : Binds X.K fd ps []) (ha : AD X (e :: es) Γ [iD i, iD 0]) (hg : Gl X "Fraction" := by rfl) (he : starEach (e :: es) X.env = (false, eval e X.env) :: starEach es X.env := by rfl)
    (hpl : (backTo pos (starEach es X.env)).any (·.1) = false := by rfl) : XD X (.Call (.Name "Fraction" p) (e :: es) [] pos) Γ (.ref CB) [] := by
  obtain ⟨t, pp, q⟩ := ha
  refine ⟨_, pe_makeS M F hr hg hm hb .nil (fun σ => passW) pp (by decide) he hpl, fun σ H Cc w Q => q σ H Cc _ fun vs H1 e1 h1 x dx nx ndx ne => ?_⟩
  obtain ⟨x1, x2, rfl, h2, h3⟩ := denL_two h1
  rw [den_v.mp h2, den_v.mp h3]
  exact ⟨x, dx, i, 0, rfl, upd_same, .inr ⟨rfl, w none _ (ex_new2 e1 nx ndx) (.inl ⟨rfl, rfl⟩)⟩⟩
theorem ed_mkX {k : Nat} {f : Addr} {fd : FuncData} {ps : List Str} {p : Pos} {i j : Int} (M : Mk X.K C f) (F : FnOk X.prog X.w X.K X.mg X.base (L2.CX X.prog X.w) k f fd ps (spInitX C CB)) (hr : Room (k + 1) X.A) (hm : X.mg "Fraction" = some (.ref C))
    (hb : Binds X.K fd ps []) (ha : AD X (e :: es) Γ [iD i, iD j]) (h0 : j ≠ 0) (hz : j.natAbs < 2 ^ 8900) (hg : Gl X "Fraction" := by rfl) (he : starEach (e :: es) X.env = (false, eval e X.env) :: starEach es X.env := by rfl)
    (hpl : (backTo pos (starEach es X.env)).any (·.1) = false := by rfl) : ED X (.Call (.Name "Fraction" p) (e :: es) [] pos) Γ (fr C (Rat.divInt i j)) := by
  obtain ⟨t, pp, q⟩ := ha
  refine ⟨_, pe_makeS M F hr hg hm hb .nil (fun σ => passW) pp (by decide) he hpl, fun σ H Cc r => fun w => q σ H Cc _ fun vs H1 e1 h1 x dx nx ndx ne => ?_⟩
  obtain ⟨x1, x2, rfl, h2, h3⟩ := denL_two h1
  rw [den_v.mp h2, den_v.mp h3]
  refine ⟨x, dx, i, j, rfl, upd_same, .inl ⟨h0, hz, rfl, w _ _ (fun b o ho => ?_) (den_fr.mpr ⟨x, dx, rfl, upd_same⟩)⟩⟩
  have h1 : H1 b = some o := e1 b o ho
  rw [upd_ne (ne_of_none h1 nx), upd_ne (ne_of_none h1 nx), upd_ne (ne_of_none h1 ndx)]
  exact h1
/-- Fraction(bottom=b, top=a) -/
theorem ed_mkK {CX : CXT} {k : Nat} {f : Addr} {fd : FuncData} {ps : List Str} {E : XK} {p q1 q2 : Pos} {i j : Int} {eb ea : Expr} (M : Mk X.K C f) (F : FnOk X.prog X.w X.K X.mg X.base CX k f fd ps (spInit C)) (hr : Room (k + 1) X.A) (hm : X.mg "Fraction" = some (.ref C))
    {g : List Value → List Value → List Value} {gV : List V → List V → List V} (hb : KBn X.K fd ps 1 ["bottom", "top"] g gV) (hgV : ∀ x y z, gV [x] [y, z] = [x, z, y]) (hx : Passes CX X E) (hB : ED X eb Γ (iD j)) (hA : ED X ea Γ (iD i)) (h0 : j ≠ 0) (hz : j.natAbs < 2 ^ 8900)
    (hg : Gl X "Fraction" := by rfl) (hall : (backToKw pos (keywordEach [⟨some "bottom", eb, q1⟩, ⟨some "top", ea, q2⟩] X.env)).all (·.1.isSome) = true := by rfl) (hks : (backToKw pos (keywordEach [⟨some "bottom", eb, q1⟩, ⟨some "top", ea, q2⟩] X.env)).filterMap (·.1) = (["bottom", "top"] : List Str) := by rfl)
    (hpl : ((backTo pos (starEach [] X.env)).any (·.1) || (backToKw pos (keywordEach [⟨some "bottom", eb, q1⟩, ⟨some "top", ea, q2⟩] X.env)).any (·.1.isNone)) = false := by rfl) :
    ED X (.Call (.Name "Fraction" p) [] [⟨some "bottom", eb, q1⟩, ⟨some "top", ea, q2⟩] pos) Γ (fr C (Rat.divInt i j)) := by
  obtain ⟨tb, pb, qb⟩ := hB
  obtain ⟨ta, pa, qa⟩ := hA
  refine ⟨_, pe_makeK0 M F hr hg hm hb hx (pk_cons pb (pk_cons pa pk_nil)) hall hks (by decide) hpl, fun σ H Cc Q r => ?_⟩
  refine qb σ H Cc _ fun v1 H1 e1 h1 => qa σ H1 (Cc.mono e1) _ fun v2 H2 e2 h2 => ⟨rfl, rfl, fun x dx nx ndx ne => ?_⟩
  rw [hgV, den_v.mp h1, den_v.mp h2]
  exact init_new h0 hz nx ndx ne (e1.trans e2) r

/-! ### isinstance of the error that a suite holds -/
theorem ed_isE {A0 DA : Addr} {oe : Obj} {pn : List (Addr × Obj)} {k : Bool} {u : Value} {cv : V} {p : Pos} (EC : ExcC X.K DA) (hz : Zc (.ref DA) none oe) (hf : ∃ vs, oe.data = .fields vs) (hm : X.mg "isinstance" = none)
    (ha : ED (X.suite A0 ((A0, oe) :: pn)) a Γ (.v (.ref A0))) (hc : ED (X.suite A0 ((A0, oe) :: pn)) c Γ (.v cv)) (hcv : ClsV cv u) (hk : PySem.W.kitOne X.K (.ref DA) u = some k) (hg : Gl X "isinstance" := by rfl)
    (he : starEach (a :: [c]) X.env = (false, eval a X.env) :: starEach [c] X.env := by rfl) (hs1 : starEach (c :: []) X.env = (false, eval c X.env) :: starEach [] X.env := by rfl) (hpl : (backTo pos (starEach [c] X.env)).any (·.1) = false := by rfl) :
    ED (X.suite A0 ((A0, oe) :: pn)) (.Call (.Name "isinstance" p) [a, c] [] pos) Γ (bD k) := by
  refine ed_callB (X := X.suite A0 ((A0, oe) :: pn)) (d := bD k) (r := rIsE X.K DA A0) (call_isE EC hz hf) hm (by decide +kernel) (ad_cons ha (ad_cons hc ad_nil hs1) he) (fun xs H h Q q => ?_) hg (by decide) (by decide) he hpl
  obtain ⟨x, y, rfl, h1, h2⟩ := denL_two h
  rw [den_v.mp h2, den_v.mp h1]
  exact ⟨cv, u, k, rfl, fun w hw => hcv.eq hw, hk, q _ H (Ex.refl H) (den_v.mpr rfl)⟩
end
end Trk

namespace Trk
open PySem L2 Evl
def R_bin (C : Addr) (b : Rat → Rat → Rat) : List D → D → Prop := fun ds d => ∃ p y q, ds = [fr C p, y] ∧ NumV C y q ∧ Sz 4000 p ∧ Sz 4000 q ∧ d = fr C (b p q)
/-- a sign's two methods keep their promises -/
structure BinOk (P : Program) (w : World) (K : PySem.W.Frag) (mg : Str → Option Value) (base : Heap) (C : Addr) (op : Operator) (b : Rat → Rat → Rat) : Prop where
  ex : ∃ f g fd gd ps qs, NumOp K C op f g ∧ FnOk P w K mg base CX0 8 f fd ps (spD K 2 (R_bin C b)) ∧ Binds K fd ps [] ∧ FnOk P w K mg base CX0 8 g gd qs (spD K 2 (R_bin C fun p q => b q p)) ∧ Binds K gd qs []
/-- what int says of the sign -/
structure IntOp (K : PySem.W.Frag) (op : Operator) : Prop where
  ex : ∃ id B fo ro, Trk.IntSlot op.info.2 id B ∧ PySem.W.findIn K (.type "int") (PySem.dunder op.info.2) = some fo ∧ PySem.W.findIn K (.type "int") (dunderR op.info.2) = some ro ∧ ((fo.isSome && !isSeqSlot fo) || (ro.isSome && !isSeqSlot ro)) = true
theorem iAdd {K : PySem.W.Frag} : IntOp K .Add := ⟨_, _, some (.builtin "int.__add__"), some (.builtin "int.__radd__"), sAdd, by kernel_rfl, by kernel_rfl, by decide +kernel⟩
theorem iSub {K : PySem.W.Frag} : IntOp K .Sub := ⟨_, _, some (.builtin "int.__sub__"), some (.builtin "int.__rsub__"), sSub, by kernel_rfl, by kernel_rfl, by decide +kernel⟩
theorem iMul {K : PySem.W.Frag} : IntOp K .Mult := ⟨_, _, some (.builtin "int.__mul__"), some (.builtin "int.__rmul__"), sMul, by kernel_rfl, by kernel_rfl, by decide +kernel⟩
section
variable {X : Cx} {Γ : Gm} {d d1 d2 : D} {a b e : Expr} {es : List Expr} {pos : Pos} {C : Addr} {p q : Rat} {op : Operator} {bf : Rat → Rat → Rat} {Φ : Out → Prop} {sts : List Stmt}
theorem ed_binN (T : FrTxt X.K X.mg C) (O : BinOk X.prog X.w X.K X.mg X.base C op bf) (S : IntOp X.K op) (hr : Room 8 X.A) (ha : ED X a Γ d1) (hb : ED X b Γ d2) (h : PairV C d1 d2 p q) (hp : Sz 4000 p) (hq : Sz 4000 q) : ED X (.BinOp a op b pos) Γ (fr C (bf p q)) := by
  obtain ⟨f, g, fd, gd, ps, qs, M, F, B, G, B'⟩ := O.ex
  obtain ⟨sid, BB, fo, ro, sl, h1, h2, hl⟩ := S.ex
  rcases h with ⟨rfl, hy⟩ | ⟨rfl, hx⟩
  · rcases id hy with rfl | ⟨n, rfl, rfl⟩
    · exact ed_op (op_own M F hr B pass0) ha hb (rd_own ⟨p, _, q, rfl, hy, hp, hq, rfl⟩)
    · exact ed_op (op_ownI M h1 h2 F hr B pass0) ha hb (rd_ownI ⟨p, _, _, rfl, hy, hp, hq, rfl⟩)
  · rcases id hx with rfl | ⟨n, rfl, rfl⟩
    · exact ed_op (op_own M F hr B pass0) ha hb (rd_own ⟨p, _, q, rfl, .inl rfl, hp, hq, rfl⟩)
    · exact ed_op (op_iown sl M h1 h2 hl G hr B' pass0) ha hb (rd_iown ⟨q, _, _, rfl, .inr ⟨n, rfl, rfl⟩, hq, hp, rfl⟩)
/-! ### x op= e -/
structure InpOk (K : PySem.W.Frag) (C : Addr) (op : Operator) : Prop where
  under : Trk.underObject K C = true
  no : PySem.W.findIn K (.ref C) (dunderI op.info.2) = some none
  noO : PySem.W.findIn K (.type "object") (dunderI op.info.2) = some none
theorem pip_own {CX : CXT} {k : Nat} {f g : Addr} {fd : FuncData} {ps : List Str} {sp : Sp} {E : XK} (N : InpOk X.K C op) (M : NumOp X.K C op f g) (F : FnOk X.prog X.w X.K X.mg X.base CX k f fd ps sp) (hr : Room k X.A) (hb : Binds X.K fd ps []) (hx : Passes CX X E) : PIp X op (rOwn C sp E) := by
  intro pins s σ H x y v u Q I rx ry h
  obtain ⟨a, b, dx, dy, fs, gs, rfl, rfl, ha, hb', hsp⟩ := h
  cases rx
  cases ry
  obtain ⟨mA, J, _⟩ := ins_get I.hok ha
  obtain ⟨mB, J', _⟩ := ins_get I.hok hb'
  obtain ⟨od, J, _⟩ := J.look
  obtain ⟨od', J', _⟩ := J'.look
  obtain ⟨m, hF⟩ := I.fr
  refine Trk.inplace_by I.kIn J N.under N.no N.noO (Trk.bin1_own hF I.ok.mod.kin J J'.type M.first M.find M.fn ?_)
  refine thn (back_of F hr hb hx I (vals_rr a b) hsp) fun z s' hz => ?_
  cases z <;> first | exact hz | exact ⟨_, rfl, hz⟩
theorem pip_ownI {CX : CXT} {k : Nat} {f g : Addr} {fd : FuncData} {ps : List Str} {sp : Sp} {E : XK} {fo ro : Option Value} (N : InpOk X.K C op) (M : NumOp X.K C op f g) (h1 : PySem.W.findIn X.K (.type "int") (PySem.dunder op.info.2) = some fo) (h2 : PySem.W.findIn X.K (.type "int") (dunderR op.info.2) = some ro)
    (F : FnOk X.prog X.w X.K X.mg X.base CX k f fd ps sp) (hr : Room k X.A) (hb : Binds X.K fd ps []) (hx : Passes CX X E) : PIp X op (rOwnI C sp E) := by
  intro pins s σ H x y v u Q I rx ry h
  obtain ⟨a, dx, fs, n, rfl, rfl, ha, hsp⟩ := h
  cases rx
  obtain ⟨t, rfl⟩ := ry
  obtain ⟨mA, J, _⟩ := ins_get I.hok ha
  obtain ⟨od, J, _⟩ := J.look
  obtain ⟨m, hF⟩ := I.fr
  refine Trk.inplace_by I.kIn J N.under N.no N.noO (Trk.bin1_int hF I.ok.mod.kin J M.first M.find M.fn M.rfind (.inr ⟨_, rfl⟩) h1 h2 M.sub1 ?_)
  refine thn (back_of F hr hb hx I (vals_ri a n t) hsp) fun z s' hz => ?_
  cases z <;> first | exact hz | exact ⟨_, rfl, hz⟩
theorem sd_aug {ti : TIp} (i : Nat) {x : Str} {pos' : Pos} (hi : PIp X op ti) (hg : Γ[i]? = some (some d1)) (he : ED X e Γ d2) (hr : RD X.K ti d1 d2 d) (hd : X.N.Nodup) (h : Φ (.nx (Γ.set i (some d)))) (hN : X.N[i]? = some x := by rfl) (hx : Loc X.env.scope x := by first | exact Or.inl rfl | exact Or.inr rfl)
    (hf : X.fn x = true ∨ X.env.scope.names.lookup x = some .local := by first | exact .inl rfl | exact .inr rfl) : SD X (.AugAssign (.Name x pos') op e pos) Γ Φ := by
  obtain ⟨t, p, q⟩ := he
  refine ⟨_, ps_aug (i := i) hd hN hx p hi hf, fun σ H hl C E T => ?_⟩
  obtain ⟨v, h1, h2⟩ := C i d1 hg
  refine ⟨v, h1, q σ H C _ fun y H1 e1 hy => hr v y H1 (h2.mono e1) hy _ fun z H2 e2 hz => ?_⟩
  exact T.nx _ _ H2 h (e1.trans e2) (by rw [List.length_set]; exact hl) ((C.mono (e1.trans e2)).set (by rw [hl]; exact (List.getElem?_eq_some_iff.mp hN).1) hz)
theorem z_augN (i : Nat) {x : Str} {pos' : Pos} (O : BinOk X.prog X.w X.K X.mg X.base C op bf) (S : IntOp X.K op) (N : InpOk X.K C op) (hr : Room 8 X.A) (hg : Γ[i]? = some (some (fr C p))) (he : ED X e Γ d2) (hy : NumV C d2 q) (hp : Sz 4000 p) (hq : Sz 4000 q) (hd : X.N.Nodup)
    (k : SsD X sts (Γ.set i (some (fr C (bf p q)))) Φ) (hN : X.N[i]? = some x := by rfl) (hx : Loc X.env.scope x := by first | exact Or.inl rfl | exact Or.inr rfl)
    (hf : X.fn x = true ∨ X.env.scope.names.lookup x = some .local := by first | exact .inl rfl | exact .inr rfl) : SsD X (.AugAssign (.Name x pos') op e pos :: sts) Γ Φ := by
  refine ss_seq (Ψ := fun o => o = .nx (Γ.set i (some (fr C (bf p q))))) ?_ (fun Γ' h => by
    cases h
    exact k) fun o h1 h2 => absurd h2 (h1 _)
  obtain ⟨f, g, fd, gd, ps, qs, M, F, B, G, B'⟩ := O.ex
  obtain ⟨sid, BB, fo, ro, sl, h1, h2, hl⟩ := S.ex
  rcases id hy with rfl | ⟨n, rfl, rfl⟩
  · exact sd_aug i (pip_own N M F hr B pass0) hg he (rd_own ⟨p, _, q, rfl, hy, hp, hq, rfl⟩) hd rfl hN hx hf
  · exact sd_aug i (pip_ownI N M h1 h2 F hr B pass0) hg he (rd_ownI ⟨p, _, _, rfl, hy, hp, hq, rfl⟩) hd rfl hN hx hf
/-! ### -x, abs(x), bool(x) -/
def R_un (C : Addr) (u : Rat → D) : List D → D → Prop := fun ds d => ∃ p, ds = [fr C p] ∧ Sz 4000 p ∧ d = u p
theorem run_in {A : Around} {CX : CXT} {k : Nat} {f : Addr} {fd : FuncData} {ps : List Str} {sp : Sp} {E : XK} {pins : List (Addr × Obj)} {σ : L2.St} {H : Hp} {s : Shared} {Q : VK} {us : List Value} {vs : List V} (F : FnOk X.prog X.w X.K X.mg X.base CX k f fd ps sp) (hr : Room k A)
    (e0 : Env0 X.prog X.w X.K X.mg X.base A X.stack s H) (hb : Binds X.K fd ps []) (hx : Passes CX X E) (I : Inv X pins σ H s) (r : Vals vs us) (h : sp vs H Q E) : wpAny (model X.prog X.w) A (call (.ref f) us) (EP X pins σ Q) X.xe s := by
  have len : (us ++ []).length = ps.length := by
    rw [List.append_nil, ← r.length]
    exact F.len _ _ _ _ h
  have bound := hb s us I.kIn len
  rw [List.append_nil] at bound
  refine wpAny_call (codeAny_mono (F.run A X.stack s H ⟨us, []⟩ us vs Q E hr e0 bound r h) fun res s' out => ?_)
  rcases res with err | fl
  · exact hx pins σ H s err s' I out
  · cases fl with
    | ret u => exact I.after out
    | next => exact out.elim
    | brk => exact out.elim
    | cont => exact out.elim
theorem vals_r (a : Addr) : Vals [V.ref a] [Value.ref a] := .cons (show RelV (V.ref a) (Value.ref a) from rfl) .nil
theorem ed_negN {CX : CXT} {k : Nat} {f : Addr} {fd : FuncData} {ps : List Str} {E : XK} {u : Rat → D} (M : CmpM X.K C "__neg__" f) (F : FnOk X.prog X.w X.K X.mg X.base CX k f fd ps (spD X.K 1 (R_un C u))) (hr : Room k X.A) (hb : Binds X.K fd ps []) (hx : Passes CX X E) (ha : ED X a Γ (fr C p)) (hp : Sz 4000 p) :
    ED X (.UnaryOp .USub a pos) Γ (u p) := by
  refine ed_un (r := fun x H Q => ∃ a dx fs, x = .ref a ∧ H a = some (.ins C dx fs) ∧ spD X.K 1 (R_un C u) [x] H Q E) ?_ ha ?_
  · intro pins s σ H x v Q I rx h
    obtain ⟨a, dx, fs, rfl, ha, hsp⟩ := h
    cases rx
    obtain ⟨mA, J, _⟩ := ins_get I.hok ha
    obtain ⟨od, J, _⟩ := J.look
    obtain ⟨m, hF⟩ := I.fr
    exact PySem.W.ksp_neg hF I.ok.mod.kin J M.find M.fn (run_in F hr I.env0 hb hx I (vals_r a) hsp)
  · intro x H hx Q q
    have hx' := hx
    obtain ⟨a, dx, rfl, h⟩ := den_fr.mp hx
    exact ⟨a, dx, _, rfl, h, _, _, rfl, DenL.cons hx' DenL.nil, ⟨p, rfl, hp, rfl⟩, q⟩
theorem ed_absN {CX : CXT} {k : Nat} {f : Addr} {fd : FuncData} {ps : List Str} {E : XK} {u : Rat → D} {p1 : Pos} (M : CmpM X.K C "__abs__" f) (F : FnOk X.prog X.w X.K X.mg X.base CX k f fd ps (spD X.K 1 (R_un C u))) (hr : Room (k + 1) X.A) (hb : Binds X.K fd ps []) (hx : Passes CX X E) (hm : X.mg "abs" = none)
    (ha : ED X a Γ (fr C p)) (hp : Sz 4000 p) (hg : Gl X "abs" := by rfl) (he : starEach (a :: []) X.env = (false, eval a X.env) :: starEach [] X.env := by rfl) (hpl : (backTo pos (starEach [] X.env)).any (·.1) = false := by rfl) :
    ED X (.Call (.Name "abs" p1) [a] [] pos) Γ (u p) := by
  refine ed_callB (id := "abs") (r := fun xs H Q => ∃ a dx fs, xs = [.ref a] ∧ H a = some (.ins C dx fs) ∧ spD X.K 1 (R_un C u) xs H Q E) ?_ hm (by decide +kernel) (ad_cons ha ad_nil he) ?_ hg (by decide) (by decide) he hpl
  · intro pins s σ H xs us Q I r h
    obtain ⟨a, dx, fs, rfl, ha, hsp⟩ := h
    obtain ⟨w1, rfl, rx⟩ := vals1 r
    cases rx
    obtain ⟨mA, J, _⟩ := ins_get I.hok ha
    obtain ⟨od, J, _⟩ := J.look
    exact Trk.abs_own I.kIn J M.find M.fn (run_in F hr.in1 I.env0.in1 hb hx I (vals_r a) hsp)
  · intro xs H hxs Q q
    have hx' := hxs
    obtain ⟨x, rfl, hx1⟩ := denL_one hxs
    obtain ⟨a, dx, rfl, h⟩ := den_fr.mp hx1
    exact ⟨a, dx, _, rfl, h, _, _, rfl, hx', ⟨p, rfl, hp, rfl⟩, q⟩
theorem ed_boolN {CX : CXT} {k : Nat} {f : Addr} {fd : FuncData} {ps : List Str} {E : XK} {u : Rat → Bool} {p1 : Pos} (M : CmpM X.K C "__bool__" f) (F : FnOk X.prog X.w X.K X.mg X.base CX k f fd ps (spD X.K 1 (R_un C fun q => bD (u q)))) (hr : Room (k + 2) X.A) (hb : Binds X.K fd ps []) (hx : Passes CX X E) (hm : X.mg "bool" = none)
    (ha : ED X a Γ (fr C p)) (hp : Sz 4000 p) (hg : Gl X "bool" := by rfl) (he : starEach (a :: []) X.env = (false, eval a X.env) :: starEach [] X.env := by rfl) (hpl : (backTo pos (starEach [] X.env)).any (·.1) = false := by rfl) :
    ED X (.Call (.Name "bool" p1) [a] [] pos) Γ (bD (u p)) := by
  refine ed_callTy (T := "bool") (r := fun xs H Q => ∃ a dx fs, xs = [.ref a] ∧ H a = some (.ins C dx fs) ∧ spD X.K 1 (R_un C fun q => bD (u q)) xs H (fun v H' => v = .bl (u p) ∧ Q v H') E) ?_ hm (by decide +kernel) (ad_cons ha ad_nil he) ?_ hg (by decide) (by decide) he hpl
  · intro pins s σ H xs us Q I r h
    obtain ⟨a, dx, fs, rfl, ha, hsp⟩ := h
    obtain ⟨w1, rfl, rx⟩ := vals1 r
    cases rx
    obtain ⟨mA, J, _⟩ := ins_get I.hok ha
    obtain ⟨od, J, _⟩ := J.look
    obtain ⟨m, hF⟩ := I.fr
    refine Trk.bool_own hF I.ok.mod.kin J M.find M.fn (thn (run_in F hr.in1.in1 I.env0.in1.in1 hb hx I (vals_r a) hsp) fun z s' hz => ?_)
    obtain ⟨v, H', I', rv, ev, q⟩ := hz
    subst ev
    cases rv
    exact ⟨V.bl (u p), H', I', rfl, q⟩
  · intro xs H hxs Q q
    have hx' := hxs
    obtain ⟨x, rfl, hx1⟩ := denL_one hxs
    obtain ⟨a, dx, rfl, h⟩ := den_fr.mp hx1
    exact ⟨a, dx, _, rfl, h, _, _, rfl, hx', ⟨p, rfl, hp, rfl⟩, fun v H' e hv => ⟨den_v.mp hv, q v H' e hv⟩⟩
/-- a sign within the class's own text: the left one is of the class -/
theorem ed_leftN {CX : CXT} {k : Nat} {f g : Addr} {fd : FuncData} {ps : List Str} {E : XK} (M : NumOp X.K C op f g) (S : IntOp X.K op) (F : FnOk X.prog X.w X.K X.mg X.base CX k f fd ps (spD X.K 2 (R_bin C bf))) (hr : Room k X.A) (hb : Binds X.K fd ps []) (hx : Passes CX X E)
    (ha : ED X a Γ (fr C p)) (hB : ED X b Γ d2) (hy : NumV C d2 q) (hp : Sz 4000 p) (hq : Sz 4000 q) : ED X (.BinOp a op b pos) Γ (fr C (bf p q)) := by
  obtain ⟨sid, BB, fo, ro, sl, h1, h2, hl⟩ := S.ex
  rcases id hy with rfl | ⟨n, rfl, rfl⟩
  · exact ed_op (op_own M F hr hb hx) ha hB (rd_own ⟨p, _, q, rfl, hy, hp, hq, rfl⟩)
  · exact ed_op (op_ownI M h1 h2 F hr hb hx) ha hB (rd_ownI ⟨p, _, _, rfl, hy, hp, hq, rfl⟩)
theorem ed_toBool {i : Int} {p : Pos} (hm : X.mg "bool" = none) (ha : ED X a Γ (iD i)) (hg : Gl X "bool" := by rfl) (he : starEach (a :: []) X.env = (false, eval a X.env) :: starEach [] X.env := by rfl) (hpl : (backTo pos (starEach [] X.env)).any (·.1) = false := by rfl) :
    ED X (.Call (.Name "bool" p) [a] [] pos) Γ (bD (i != 0)) := by
  refine ed_callTy (d := bD (i != 0)) call_bool1 hm (by decide +kernel) (ad_cons ha ad_nil he) (fun xs H h Q q => ?_) hg (by decide) (by decide) he hpl
  obtain ⟨x, rfl, h1⟩ := denL_one h
  rw [den_v.mp h1]
  exact .inl ⟨i, rfl, q _ H (Ex.refl H) (den_v.mpr rfl)⟩
/-! ### o.m(k = v) that may raise -/
def tMethKS (C : Addr) (m : Str) (n : Nat) (sp : Sp) (gV : List V → List V → List V) (E : L2.St → XK) (ta : TE) (tk : TA) : TE := fun σ H Q => ta σ H fun x H1 => ∃ a dx fs, x = .ref a ∧ H1 a = some (.ins C dx fs) ∧ fs.lookup m = none ∧
  tk σ H1 fun zs H2 => zs.length = n ∧ sp (gV [x] zs) H2 Q (E σ)
theorem pe_methKS {CX : CXT} {k : Nat} {f : Addr} {fd : FuncData} {ps ks : List Str} {sp : Sp} {E : L2.St → XK} {pl : Sem Bool} {o : Expr} {m : Str} {apos : Pos} {kws : List Keyword} {ta : TE} {tk : TA} {g : List Value → List Value → List Value} {gV : List V → List V → List V}
    (he : PE X o ta) (c : Cls X.K C) (hm : Meth X.K C m f) (F : FnOk X.prog X.w X.K X.mg X.base CX k f fd ps sp) (hr : Room k X.A) (hb : KBn X.K fd ps 1 ks g gV) (pa : ∀ σ, PassesAt CX X σ (E σ)) (hkw : PK X kws tk)
    (hall : (backToKw pos (keywordEach kws X.env)).all (·.1.isSome) = true := by rfl) (hks : (backToKw pos (keywordEach kws X.env)).filterMap (·.1) = ks := by rfl)
    (hpl : ((backTo pos (starEach [] X.env)).any (·.1) || (backToKw pos (keywordEach kws X.env)).any (·.1.isNone)) = false := by rfl)
    (ht : eval (.Call (.Attribute o m apos) [] kws pos) X.env = (do
      let ov ← eval o X.env
      standAt apos.atName
      let (f, first) ← holding [ov] (getMethod ov m pl)
      callWith pos f first (backTo pos (starEach [] X.env)) (backToKw pos (keywordEach kws X.env))) := by rfl) :
    PE X (.Call (.Attribute o m apos) [] kws pos) (tMethKS C m ks.length sp gV E ta tk) := by
  refine ⟨fun pins s σ H Q I h => ?_⟩
  refine PySem.W.methodCall_KW (pl := pl) (thn (he.run pins s σ H _ I h) fun u s1 got => ?_) ht
  obtain ⟨x, H1, I1, rx, a, dx, fs, ex, ea, l, q⟩ := got
  subst ex
  obtain rfl : u = Value.ref a := rx
  refine getmeth_ok I1 ea c hm l ?_
  refine PySem.W.callWith_KW0 (first := [.ref a]) (h₀ := X.base) I.ok.mod.kin hm.kp hall ?_ hpl
  refine thn (hkw.run pos pins s1 σ H1 _ I1 q) fun ws s2 got2 => ?_
  obtain ⟨zs, H2, I2, rz, lz, q2⟩ := got2
  refine ⟨I2.kIn, ?_⟩
  rw [hks, List.append_nil]
  have rel := hb.rel (vals_r a) rz
  have bound := hb.to s2 [Value.ref a] ws I2.kIn rfl (rz.length.symm.trans lz)
  refine wpAny_call (codeAny_mono (F.run X.A X.stack s2 H2 ⟨[Value.ref a], ks.zip ws⟩ _ _ Q (E σ) hr I2.env0 bound rel q2) fun res s' out => ?_)
  rcases res with err | fl
  · exact pa σ pins H2 s2 err s' I2 out
  · cases fl with
    | ret u => exact I2.after out
    | next => exact out.elim
    | brk => exact out.elim
    | cont => exact out.elim
/-- one keyword -/
theorem kw_one {k : Nat} {f : Addr} {fd : FuncData} {ps : List Str} {R : List D → D → Prop} {RX : List D → Value → List (Str × D) → Prop} {pl : Sem Bool} {o ev : Expr} {m kn : Str} {apos q1 : Pos} {g : List Value → List Value → List Value} {gV : List V → List V → List V} {fs : List (Str × D)}
    (ho : ED X o Γ (.obj C fs)) (hl : ∀ {H gs}, DenF X.K H fs gs → gs.lookup m = none) (c : Cls X.K C) (hm : Meth X.K C m f) (F : FnOk X.prog X.w X.K X.mg X.base (L2.CX X.prog X.w) k f fd ps (spX X.K 2 R RX)) (hr : Room k X.A) (hb : KBn X.K fd ps 1 [kn] g gV) (hgV : ∀ x y, gV [x] [y] = [x, y]) (hv : ED X ev Γ d2)
    (hall : (backToKw pos (keywordEach [⟨some kn, ev, q1⟩] X.env)).all (·.1.isSome) = true := by rfl) (hks : (backToKw pos (keywordEach [⟨some kn, ev, q1⟩] X.env)).filterMap (·.1) = [kn] := by rfl)
    (hpl : ((backTo pos (starEach [] X.env)).any (·.1) || (backToKw pos (keywordEach [⟨some kn, ev, q1⟩] X.env)).any (·.1.isNone)) = false := by rfl)
    (ht : eval (.Call (.Attribute o m apos) [] [⟨some kn, ev, q1⟩] pos) X.env = (do
      let ov ← eval o X.env
      standAt apos.atName
      let (f, first) ← holding [ov] (getMethod ov m pl)
      callWith pos f first (backTo pos (starEach [] X.env)) (backToKw pos (keywordEach [⟨some kn, ev, q1⟩] X.env))) := by rfl) :
    (∀ d, R [.obj C fs, d2] d → ED X (.Call (.Attribute o m apos) [] [⟨some kn, ev, q1⟩] pos) Γ d) ∧ ∀ cls xs, RX [.obj C fs, d2] cls xs → XD X (.Call (.Attribute o m apos) [] [⟨some kn, ev, q1⟩] pos) Γ cls xs := by
  obtain ⟨ta, pa, qa⟩ := ho
  obtain ⟨tv, pv, qv⟩ := hv
  have P := pe_methKS pa c hm F hr hb (fun σ => passW) (pk_cons pv pk_nil) hall hks hpl ht
  constructor
  · intro d hR
    refine ⟨_, P, fun σ H Cc Q r => qa σ H Cc _ fun x H1 e1 h1 => ?_⟩
    have h1' := h1
    simp only [Den] at h1'
    obtain ⟨a, dx, gs, rfl, ha, hF⟩ := h1'
    refine ⟨a, dx, gs, rfl, ha, hl hF, qv σ H1 (Cc.mono e1) _ fun y H2 e2 h2 => ⟨rfl, ?_⟩⟩
    rw [hgV]
    exact ⟨_, rfl, DenL.cons (h1.mono e2) (DenL.cons h2 DenL.nil), .inl ⟨d, hR, fun v H' e3 h3 => r v H' ((e1.trans e2).trans e3) h3⟩⟩
  · intro cls xs hR
    refine ⟨_, P, fun σ H Cc r Q => qa σ H Cc _ fun x H1 e1 h1 => ?_⟩
    have h1' := h1
    simp only [Den] at h1'
    obtain ⟨a, dx, gs, rfl, ha, hF⟩ := h1'
    refine ⟨a, dx, gs, rfl, ha, hl hF, qv σ H1 (Cc.mono e1) _ fun y H2 e2 h2 => ⟨rfl, ?_⟩⟩
    rw [hgV]
    exact ⟨_, rfl, DenL.cons (h1.mono e2) (DenL.cons h2 DenL.nil), .inr ⟨cls, xs, hR, fun d H' e3 h3 => r d H' ((e1.trans e2).trans e3) h3⟩⟩
end
/-- a def that may raise -/
theorem fn_X {P : Program} {w : World} {K : PySem.W.Frag} {mg : Str → Option Value} {base : Heap} {x qual : Str} {st : Stmt} {f : Addr} {fd : FuncData} {N ps : List Str} {k : Nat} {R : List D → D → Prop} {RX : List D → Value → List (Str × D) → Prop} (F : Fun K x qual st f fd) (S : FnScope N ps (defScope st))
    (hN : ps.length ≤ N.length)
    (h : ∀ (cdv : Value) (A : Around) (outer : List Env) (s : Shared) (H : Hp) (E : XK) (ds : List D) (Φ : Out → Prop), Room k (A.deeper (PyProof.Rows.envOfC qual (defScope st) s.heap.objs.size f cdv)) → ds.length = ps.length →
      ((∃ d, R ds d ∧ Φ = fun o => o = .rt d ∨ (d = .v .non ∧ ∃ Γ, o = .nx Γ)) ∨ ∃ cls fs, RX ds cls fs ∧ Φ = fun o => ∃ Γ, o = .ex cls fs Γ) →
      SsD (cxOf (L2.CX P w) P w K mg base N qual (defScope st) f cdv A outer s H E) (defBody st) (ds.map some ++ List.replicate (N.length - ds.length) none) Φ) :
    FnOk P w K mg base (L2.CX P w) (k + 1) f fd ps (spX K ps.length R RX) := by
  refine F.okX S (fun vs H Q E ⟨ds, h1, h2, _⟩ => by rw [← h2.len, h1]) fun cdv A outer s H vs Q E hr hsp => ?_
  obtain ⟨ds, h1, h2, h3⟩ := hsp
  have hl : (L2.start N vs).length = N.length := by
    unfold L2.start
    rw [List.length_append, List.length_map, List.length_replicate, ← h2.len, h1]
    omega
  rcases h3 with ⟨d, hR, q⟩ | ⟨cls, fs, hR, q⟩
  · obtain ⟨t, p, r⟩ := h cdv A outer s H E ds _ hr h1 (.inl ⟨d, hR, rfl⟩)
    refine ⟨t, p, r (L2.start N vs) H hl (start_ctx h2) _ ⟨fun Γ σ H' z e1 _ _ => ?_, fun d' v H' z e1 hv => ?_, fun Γ σ H' z => ?_, fun Γ σ H' z => ?_, fun c fs Γ d σ H' z => ?_⟩⟩
    · rcases z with z | ⟨z, _⟩
      · cases z
      · subst z
        exact q _ H' e1 (den_v.mpr rfl)
    · rcases z with z | ⟨_, _, z⟩
      · cases z
        exact q v H' e1 hv
      · cases z
    · rcases z with z | ⟨_, _, z⟩ <;> cases z
    · rcases z with z | ⟨_, _, z⟩ <;> cases z
    · rcases z with z | ⟨_, _, z⟩ <;> cases z
  · obtain ⟨t, p, r⟩ := h cdv A outer s H E ds _ hr h1 (.inr ⟨cls, fs, hR, rfl⟩)
    refine ⟨t, p, r (L2.start N vs) H hl (start_ctx h2) _ ⟨fun Γ σ H' ⟨_, z⟩ => (by cases z), fun d' v H' ⟨_, z⟩ => (by cases z), fun Γ σ H' ⟨_, z⟩ => (by cases z), fun Γ σ H' ⟨_, z⟩ => (by cases z), fun c fs' Γ d σ H' ⟨_, z⟩ e1 l1 c1 x1 => ?_⟩⟩
    cases z
    exact w0_of (W := fun cls d _ H => E cls d H) (takes_of rfl rfl rfl rfl) (q d H' e1 x1)
/-- a def without defaults, called with keywords -/
theorem fun_kb {K : PySem.W.Frag} {x qual : Str} {st : Stmt} {f : Addr} {fd : FuncData} {ps : List Str} (F : Fun K x qual st f fd) (n : Nat) (ks : List Str) (g : {α : Type} → List α → List α → List α) (hrel : ∀ {vs zs : List V} {us ws : List Value}, Vals vs us → Vals zs ws → Vals (g vs zs) (g us ws))
    (h : ∀ (kV doc pm : Value) (an : Option Addr) (cdv ct : Value) (us ws : List Value), us.length = n → ws.length = ks.length → bindArgs (PySem.W.fnOf x qual (defArgs st) (defBody st) (defScope st) .none kV doc pm an cdv ct) ⟨us, ks.zip ws⟩ = pure (ps.zip (g us ws))) :
    KBn K fd ps n ks (fun us ws => g us ws) (fun vs zs => g vs zs) := by
  obtain ⟨oc, od, kV, doc, pm, an, cdv, ct, osl, rfl, lk, hcd⟩ := F.ex
  exact ⟨fun s us ws X l1 l2 => .of_eq (h kV doc pm an cdv ct us ws l1 l2), fun r1 r2 => hrel r1 r2⟩
end Trk

namespace Trk
open PySem L2 Evl
/-! ### a class of errors right below another one, that below ValueError -/
def ecB (K : PySem.W.Frag) (C BE : Addr) : Bool :=
  match K.lookup C with
  | some ⟨.type "type", _, .cls cd, sl⟩ => (match sl.toList with
    | [_, _, _, _, some (.builtin n), _] => n == "ValueError.__new__" && !cd.hasDel && cd.hasDict && cd.mro == [.ref C, .ref BE, .type "ValueError", .type "Exception", .type "BaseException", .type "object"]
    | _ => false)
  | _ => false
theorem ec_of {K : PySem.W.Frag} {C BE : Addr} (h : ecB K C BE = true) : ∃ nm q N bs sn sub ab col dd k0 k1 k2 k3 k5, K.lookup C = some (excClassObj nm q C N bs [.ref BE, .type "ValueError", .type "Exception", .type "BaseException", .type "object"] true sn sub ab col dd k0 k1 k2 k3 k5 "ValueError.__new__") := by
  unfold ecB at h
  split at h
  · rename_i dd cd sl ho
    split at h
    · rename_i k0 k1 k2 k3 n k5 hs
      simp only [Bool.and_eq_true, beq_iff_eq, Bool.not_eq_true'] at h
      obtain ⟨⟨⟨rfl, hdel⟩, hd⟩, hm⟩ := h
      obtain ⟨nm, bs, mro, ns, qn, hd', sn, sub, ab, col, del⟩ := cd
      dsimp only at hm hdel hd
      subst hm hdel hd
      have hsl : sl = #[k0, k1, k2, k3, some (.builtin "ValueError.__new__"), k5] := by
        obtain ⟨l⟩ := sl
        simp only at hs
        rw [hs]
      subst hsl
      exact ⟨nm, qn, ns, bs, sn, sub, ab, col, dd, k0, k1, k2, k3, k5, ho⟩
    · cases h
  · cases h
theorem ec_cls {K : PySem.W.Frag} {C BE : Addr} (h : ecB K C BE = true) : ∃ cd, PySem.W.clsIn K C = some cd ∧ cd.mro = [.ref C, .ref BE, .type "ValueError", .type "Exception", .type "BaseException", .type "object"] ∧ cd.hasDict = true := by
  obtain ⟨nm, q, N, bs, sn, sub, ab, col, dd, k0, k1, k2, k3, k5, e⟩ := ec_of h
  unfold PySem.W.clsIn
  rw [e]
  exact ⟨_, rfl, rfl, rfl⟩
theorem ec_ty {K : PySem.W.Frag} {C BE : Addr} (h : ecB K C BE = true) : PySem.W.typeIn K (.ref C) = some (.type "type") := by
  obtain ⟨nm, q, N, bs, sn, sub, ab, col, dd, k0, k1, k2, k3, k5, e⟩ := ec_of h
  show (K.lookup C).map (·.cls) = _
  rw [e]
  rfl
theorem ec_mro {K : PySem.W.Frag} {C BE : Addr} (h : ecB K C BE = true) (v : Value) : PySem.W.mroIn K C v = some ([Value.ref C, .ref BE, .type "ValueError", .type "Exception", .type "BaseException", .type "object"].contains v) := by
  obtain ⟨cd, e, m, _⟩ := ec_cls h
  unfold PySem.W.mroIn
  rw [e, Option.bind_some, m]
  rfl
theorem ec_hd {K : PySem.W.Frag} {C BE : Addr} (h : ecB K C BE = true) : PySem.W.hasDictIn K C = true := by
  obtain ⟨cd, e, _, m⟩ := ec_cls h
  unfold PySem.W.hasDictIn
  rw [e]
  exact m
structure EcT (K : PySem.W.Frag) (mg : Str → Option Value) (x : Str) (C BE : Addr) : Prop where
  mg : mg x = some (.ref C)
  ec : ecB K C BE = true
  sa : PySem.W.findIn K (.ref C) "__setattr__" = some (some (.builtin "object.__setattr__"))
  ga : PySem.W.findIn K (.ref C) "__getattribute__" = some (some (.builtin "BaseException.__getattribute__"))
  gg : PySem.W.findIn K (.ref C) "__getattr__" = some none
  ca : PySem.W.findIn K (.ref C) "__class__" = some (some (.builtin "object.__class__"))
  cn : PySem.W.specialIn K (.builtin "object.__class__") "__get__" = some (some (.builtin "getset_descriptor.__get__"))
  ct : PySem.W.takesIn K (.builtin "object.__class__") = some true
  kp : PySem.W.keepIn K (.ref C) = true
section
variable {K : PySem.W.Frag} {mg : Str → Option Value} {x : Str} {C BE U : Addr}
theorem EcT.be (T : EcT K mg x C BE) : PySem.W.subIn K (.ref C) (.type "BaseException") = some true := by
  show PySem.W.mroIn K C _ = _
  rw [ec_mro T.ec]
  simp
theorem EcT.ve (T : EcT K mg x C BE) : PySem.W.subIn K (.ref C) (.type "ValueError") = some true := by
  show PySem.W.mroIn K C _ = _
  rw [ec_mro T.ec]
  simp
theorem EcT.ob (T : EcT K mg x C BE) : PySem.W.mroIn K C (.type "object") = some true := by
  rw [ec_mro T.ec]
  simp
theorem EcT.sub (T : EcT K mg x C BE) : PySem.W.subIn K (.ref C) (.ref U) = some (decide (U = C) || decide (U = BE)) := by
  show PySem.W.mroIn K C _ = _
  rw [ec_mro T.ec]
  congr 1
  rw [Bool.eq_iff_iff]
  simp
theorem EcT.oex (T : EcT K mg x C BE) : OexC K C := by
  obtain ⟨nm, q, N, bs, sn, sub, ab, col, dd, k0, k1, k2, k3, k5, e⟩ := ec_of T.ec
  exact ⟨⟨nm, q, N, bs, _, sn, sub, ab, col, dd, k0, k1, k2, k3, k5, e, (by show HandSPX.refsVE [.type "ValueError", .type "Exception", .type "BaseException", .type "object"] = true; decide +kernel)⟩, T.sa, T.be, ec_ty T.ec, T.kp⟩
theorem EcT.xf (T : EcT K mg x C BE) : XfC K C := ⟨T.ga, T.gg, T.be, ec_hd T.ec⟩
theorem EcT.erT (T : EcT K mg x C BE) (e : PySem.W.excIn K C [.type "ValueError", .type "Exception", .type "BaseException", .type "object"] "ValueError.__new__" = true) : ErT K mg x C := ⟨T.mg, e, T.kp, T.be, ec_ty T.ec, ec_hd T.ec, by
  rw [T.sub]
  simp⟩
theorem EcT.isC (T : EcT K mg x C BE) : (PySem.W.clsIn K C).isSome = true := by
  obtain ⟨cd, e, _⟩ := ec_cls T.ec
  rw [e]
  rfl
theorem EcT.kit {mg2 : Str → Option Value} {y : Str} {V : Addr} (T : EcT K mg x C BE) (T2 : EcT K mg2 y U V) (hn : U ≠ BE) : PySem.W.kitOne K (.ref C) (.ref U) = some (decide (C = U)) := by
  by_cases h : C = U
  · subst h
    rw [kit_self, decide_eq_true rfl]
  · rw [kit_sub T2.isC (ec_ty T2.ec) T.sub (rf_ne h), decide_eq_false h, decide_eq_false (fun z => h z.symm), decide_eq_false hn]
    rfl
theorem EcT.kitT (T : EcT K mg x C BE) (ic : PySem.W.isClsIn K BE = true) (ty : PySem.W.typeIn K (.ref BE) = some (.type "type")) (hn : C ≠ BE) : PySem.W.kitOne K (.ref C) (.ref BE) = some true := by
  rw [kit_sub ic ty T.sub (rf_ne hn), decide_eq_true (rfl : BE = BE), Bool.or_true]
theorem EcT.kitV (T : EcT K mg x C BE) : PySem.W.kitOne K (.ref C) (.type "ValueError") = some true := by
  unfold PySem.W.kitOne PySem.W.kitCls
  rw [if_neg (by rw [show (Value.ref C == Value.type "ValueError") = false from Bool.eq_false_iff.mpr fun q => by cases beq_iff_eq.mp q]; exact Bool.false_ne_true)]
  show (if PySem.W.kitMeta "ValueError" = true then PySem.W.subIn K (.ref C) (.type "ValueError") else none) = some true
  rw [if_pos (by decide +kernel), T.ve]
end
/-! ### what isinstance and a dot see of such an object -/
/-- the object at a is an exception of the class C: by what is tracked, or by a pin -/
theorem instX {X : Cx} {pins : List (Addr × Obj)} {σ : L2.St} {H : Hp} {s : Shared} {a C : Addr} {d : Option Addr} {oe : Obj} {vs : Array Value} (I : Inv X pins σ H s) (hget : s.heap.get? a = some oe) (hz : Zc (.ref C) d oe) (hv : oe.data = .fields vs)
    (hd : d = none ∨ ∃ dd gs, d = some dd ∧ (H dd = some (exd dd gs) ∨ H dd = some (.xd gs))) : ∃ od, PySem.W.InstAt s.heap a oe C od ∧ ∀ dd gs, d = some dd → (H dd = some (exd dd gs) ∨ H dd = some (.xd gs)) → ∀ f v, gs.lookup f = some v → ∃ o u, od = some o ∧ PySem.W.lookIn f o = some (some u) ∧ RelV v u := by
  have nc : PySem.W.notCls oe = true := by
    unfold PySem.W.notCls
    rw [hv] <;> rfl
  have ns : ∀ dd gs, (H dd = some (exd dd gs) ∨ H dd = some (.xd gs)) → ∃ mA, s.heap.Ns1 dd mA ∧ ∀ f, RelO (gs.lookup f) (mA f) := fun dd gs z => by
    rcases z with z | z
    · exact exd_at I.hok z
    · have x : ObjOk X.prog X.w H s.heap dd (.xd gs) := I.hok dd _ z
      exact x
  rcases hd with rfl | ⟨dd, gs, rfl, hd⟩
  · exact ⟨none, ⟨hget, hz.1, nc, by rw [hz.2]; trivial⟩, fun dd gs z => by cases z⟩
  · obtain ⟨mA, hns, _⟩ := ns dd gs hd
    obtain ⟨od, ho, hl⟩ := lookIn_ns hns
    refine ⟨some od, ⟨hget, hz.1, nc, by rw [hz.2]; exact ho⟩, fun dd2 gs2 z hd2 f v l => ?_⟩
    cases z
    obtain ⟨mA2, hns2, hr2⟩ := ns dd gs2 hd2
    obtain ⟨od2, ho2, hl2⟩ := lookIn_ns hns2
    rw [ho] at ho2
    cases ho2
    obtain ⟨u, hu, ru⟩ := RelO.some_of (v := v) (o := mA2 f) (by rw [← l]; exact hr2 f)
    exact ⟨od, u, rfl, by rw [hl2, hu], ru⟩
/-- the object of the D-value at a -/
def SeenX (X : Cx) (C : Addr) (d : D) (fs : List (Str × D)) : Prop := d = .exc C fs ∨ ∃ a oe dx vs, d = .ced a dx fs ∧ (a, oe) ∈ X.pn ∧ Zc (.ref C) dx oe ∧ oe.data = .fields vs
theorem seenX {X : Cx} {C : Addr} {d : D} {fs : List (Str × D)} {pins : List (Addr × Obj)} {σ : L2.St} {H : Hp} {s : Shared} {v : V} (h : SeenX X C d fs) (I : Inv X pins σ H s) (hd : Den X.K H d v) :
    ∃ a oe od, v = .ref a ∧ PySem.W.InstAt s.heap a oe C od ∧ ∀ f d2, fs.lookup f = some d2 → ∃ y o u, od = some o ∧ PySem.W.lookIn f o = some (some u) ∧ RelV y u ∧ Den X.K H d2 y := by
  have key : ∀ {fs : List (Str × D)} {gs : List (Str × V)} {f : Str} {d2 : D}, DenF X.K H fs gs → fs.lookup f = some d2 → ∃ y, gs.lookup f = some y ∧ Den X.K H d2 y := by
    intro fs
    induction fs with
    | nil =>
      intro gs f d2 _ h
      cases h
    | cons p r ih =>
      intro gs f d2 hF hl
      obtain ⟨g, x⟩ := p
      simp only [DenF] at hF
      obtain ⟨z, zs, rfl, hz, hzs⟩ := hF
      rw [lookup_put] at hl ⊢
      by_cases hfg : f = g
      · rw [if_pos hfg] at hl ⊢
        cases hl
        exact ⟨z, rfl, hz⟩
      · rw [if_neg hfg] at hl ⊢
        exact ih hzs hl
  rcases h with rfl | ⟨a, oe, dx, vs, rfl, hp, hz, hv⟩
  · simp only [Den] at hd
    obtain ⟨a, o, rfl, ha, hd⟩ := hd
    rcases hd with ⟨rfl, hx⟩ | ⟨dd, gs, hne, hx, hdd, hF⟩
    · obtain ⟨oe, vs, hg, hz, hv⟩ := hx _ _ _ _ (I.hok a o ha)
      obtain ⟨od, J, _⟩ := instX I hg hz hv (.inl rfl)
      exact ⟨a, oe, od, rfl, J, fun f d2 l => by cases l⟩
    · obtain ⟨oe, vs, hg, hz, hv⟩ := hx _ _ _ _ (I.hok a o ha)
      obtain ⟨od, J, L⟩ := instX I hg hz hv (.inr ⟨dd, gs, rfl, .inl hdd⟩)
      refine ⟨a, oe, od, rfl, J, fun f d2 l => ?_⟩
      obtain ⟨y, ly, hy⟩ := key hF l
      obtain ⟨o2, u, eo, lu, ru⟩ := L dd gs rfl (.inl hdd) f y ly
      exact ⟨y, o2, u, eo, lu, ru, hy⟩
  · simp only [Den] at hd
    obtain ⟨rfl, hd⟩ := hd
    obtain ⟨hg, _⟩ := I.pin (a, oe) (List.mem_append_left _ hp)
    rcases hd with ⟨rfl, rfl⟩ | ⟨dd, gs, hne, rfl, hdd, hF⟩
    · obtain ⟨od, J, _⟩ := instX I hg hz hv (.inl rfl)
      exact ⟨a, oe, od, rfl, J, fun f d2 l => by cases l⟩
    · obtain ⟨od, J, L⟩ := instX I hg hz hv (.inr ⟨dd, gs, rfl, .inr hdd⟩)
      refine ⟨a, oe, od, rfl, J, fun f d2 l => ?_⟩
      obtain ⟨y, ly, hy⟩ := key hF l
      obtain ⟨o2, u, eo, lu, ru⟩ := L dd gs rfl (.inr hdd) f y ly
      exact ⟨y, o2, u, eo, lu, ru, hy⟩
section
variable {X : Cx} {Γ : Gm} {d d1 d2 : D} {e a b c : Expr} {es : List Expr} {pos : Pos} {st : Stmt} {sts body rest : List Stmt} {Φ Ψ : Out → Prop} {C BE : Addr} {fs : List (Str × D)} {x : Str}
/-- isinstance(e, c) -/
theorem ed_isX {mg : Str → Option Value} {k : Bool} {u : Value} {cv : V} {p : Pos} (T : EcT X.K mg x C BE) (hm : X.mg "isinstance" = none) (ha : ED X a Γ d1) (hs : SeenX X C d1 fs) (hc : ED X c Γ (.v cv)) (hcv : ClsV cv u) (hk : PySem.W.kitOne X.K (.ref C) u = some k) (hg : Gl X "isinstance" := by rfl)
    (he : starEach (a :: [c]) X.env = (false, eval a X.env) :: starEach [c] X.env := by rfl) (hs1 : starEach (c :: []) X.env = (false, eval c X.env) :: starEach [] X.env := by rfl) (hpl : (backTo pos (starEach [c] X.env)).any (·.1) = false := by rfl) :
    ED X (.Call (.Name "isinstance" p) [a, c] [] pos) Γ (bD k) := by
  have hcall : CallR X (.builtin "isinstance") (fun xs H Q => ∃ z, xs = [z, cv] ∧ Den X.K H d1 z ∧ Q (.bl k) H) := by
    intro pins s σ H xs us Q I r h
    obtain ⟨z, rfl, hz, q⟩ := h
    obtain ⟨a, oe, od, rfl, J, _⟩ := seenX hs I hz
    cases r with
    | cons rx rr =>
      cases rr with
      | cons rt rr =>
        cases rr
        cases rx
        have ec := hcv.eq rt
        subst ec
        exact PySem.W.kia_one (PySem.W.kitx_exc T.isC T.ga T.gg T.be T.ca T.cn T.ct T.ob) I.kIn J hk (fun z => nomatch z) fun tk => ⟨.bl k, H, I.kept (t' := tk) fun _ _ z => z, rfl, q⟩
  refine ed_callB (d := bD k) hcall hm (by decide +kernel) (ad_cons ha (ad_cons hc ad_nil hs1) he) (fun xs H h Q q => ?_) hg (by decide) (by decide) he hpl
  obtain ⟨z, y, rfl, h1, h2⟩ := denL_two h
  rw [den_v.mp h2]
  exact ⟨z, rfl, h1, q _ H (Ex.refl H) (den_v.mpr rfl)⟩
/-- e.f -/
theorem ed_xf {mg : Str → Option Value} {f : Str} {p : Pos} (T : EcT X.K mg x C BE) (ha : ED X a Γ d1) (hs : SeenX X C d1 fs) (hno : PySem.W.findIn X.K (.ref C) f = some none) (l : fs.lookup f = some d) (hb : attributeBase a f X.env (eval a X.env) = eval a X.env := by rfl) : ED X (.Attribute a f p) Γ d := by
  obtain ⟨t, pp, qq⟩ := ha
  refine ⟨fun σ H Q => t σ H fun z H1 => Den X.K H1 d1 z ∧ ∀ v, Den X.K H1 d v → Q v H1, ⟨fun pins s σ H Q I h => ?_⟩, fun σ H Cc Q q => qq σ H Cc _ fun v H1 e1 h1 => ⟨h1, fun w hw => q w H1 e1 hw⟩⟩
  refine attr_of hb (thn (pp.run pins s σ H _ I h) fun u s1 hh => ?_)
  obtain ⟨z, H1, I1, rz, hz, k⟩ := hh
  obtain ⟨a, oe, od, rfl, J, L⟩ := seenX hs I1 hz
  obtain rfl : u = Value.ref a := rz
  obtain ⟨y, o2, w, eo, lw, ry, hy⟩ := L f d l
  subst eo
  exact HandSPX.exc_get I1.kIn J T.ga T.gg T.be (PySem.W.findObj_own (ec_hd T.ec) hno rfl lw) (handed_of ry) ⟨y, H1, I1.tok _, ry, k y hy⟩
/-! ### C(e, ..), kept -/
theorem isx_exo {a C : Addr} {d : Option Addr} : IsX a C d (exo a C d) := fun P w H h x => by
  have x' : ObjOk P w H h a (.ext fun h => ∃ t1 : Addr, h.get? a = some ({ cls := .ref C, dict := d, data := .fields #[.ref t1, .none, .none, .none, .bool false, .none] } : Obj)) := x
  obtain ⟨⟨t1, he⟩, _⟩ := x'
  exact ⟨_, _, he, ⟨rfl, rfl⟩, rfl⟩
def tNewX (C : Addr) (sp : Sp) (ta : TA) : TE := fun σ H Q => ta σ H fun vs H1 => vs.length ≤ 1000 ∧ ∀ a, H1 a = none → sp (.ref a :: vs) (upd H1 a (exo a C none)) (fun v H2 => v = .non ∧ Q (.ref a) H2) (fun _ _ _ => False)
theorem pe_newX {CX : CXT} {fI : Addr} {k : Nat} {fd : FuncData} {ps : List Str} {sp : Sp} {ta : TA} {p : Pos} (T : OexC X.K C) (iC : PySem.W.findIn X.K (.ref C) "__init__" = some (some (.ref fI))) (tI : PySem.W.typeIn X.K (.ref fI) = some (.type "function"))
    (F1 : FnOk X.prog X.w X.K X.mg X.base CX k fI fd ps sp) (hr : Room (k + 1) X.A) (hb : Binds X.K fd ps []) (hx : Passes CX X (fun _ _ _ => False)) (hg : Gl X x) (hm : X.mg x = some (.ref C)) (ha : PA X (e :: es) ta)
    (hdb : (x == ("__debug__" : Str)) = false := by decide) (he : starEach (e :: es) X.env = (false, eval e X.env) :: starEach es X.env := by rfl) (hpl : (backTo pos (starEach es X.env)).any (·.1) = false := by rfl) :
    PE X (.Call (.Name x p) (e :: es) [] pos) (tNewX C sp ta) := by
  refine ⟨fun pins s σ H Q I h => wpAny_Call_Name_kw (ld_glob I hg hm ?_ hdb)⟩
  obtain ⟨nm, q, N, bs, bm, sn, sub, ab, col, dd, k0, k1, k2, k3, k5, hC, hbm⟩ := T.cls
  refine PySem.W.callWith_K (h₀ := X.base) I.ok.mod.kin T.kC (thn (ha.run pos pins s σ H _ I h) fun us s1 got => ?_) he hpl
  obtain ⟨vs, H1, I1, r1, hz, q1⟩ := got
  refine ⟨I1.kIn, ?_⟩
  show wpAny _ _ (call (.ref C) us) _ _ _
  obtain ⟨hp, g, dr, tk, os⟩ := s1
  let n := hp.objs.size
  let hh := (hp.push (PySem.W.kdv_tup us)).push (PySem.HandSPX.excO C n)
  have told := q1 (n + 1) (I1.hok.fresh (Nat.le_succ _))
  have there : hh.get? (n + 1) = some (PySem.HandSPX.excO C n) := by
    show ((hp.push (PySem.W.kdv_tup us)).push (PySem.HandSPX.excO C hp.objs.size)).get? (hp.objs.size + 1) = some (PySem.HandSPX.excO C hp.objs.size)
    heap_get
  have J : Inv X pins σ (upd H1 (n + 1) (exo (n + 1) C none)) ⟨hh, g, dr, tk, os⟩ :=
    I1.laid (t' := tk) (a := n + 1) (o := exo (n + 1) C none) (h' := hh) (fun b o z => Heap.get?_push_of_some _ (Heap.get?_push_of_some _ z)) (Nat.le_succ _) (exo_ok there)
  have rel : Vals (V.ref (n + 1) :: vs) (Value.ref (n + 1) :: us) := .cons rfl r1
  have len : (Value.ref (n + 1) :: us ++ []).length = ps.length := by
    rw [List.append_nil]
    exact rel.length.symm.trans (F1.len _ _ _ _ told)
  have bound := hb ⟨hh, g, dr, tk, os⟩ (Value.ref (n + 1) :: us) J.kIn len
  rw [List.append_nil] at bound
  have short : us.length ≤ sizeLine := by
    rw [← Paired.length r1, sizeLine_eq]
    omega
  refine wpAny_call (PySem.HandSPX.call_own F.excBase_ValueError (fun Y => PySem.HandSPX.refsVE_contains Y bm hbm) (I1.kIn _ _ hC) (PySem.W.looks_findIn I1.kIn iC) (fun self => PySem.W.bind_fn I1.kIn self tI) short
    (codeAny_mono (F1.run _ X.stack _ _ ⟨Value.ref (n + 1) :: us, []⟩ _ _ _ (fun _ _ _ => False) (hr.make C us []) (J.env0.make C us []) bound rel told) fun res s' out => ?_))
  rcases res with err | fl
  · exact hx pins σ _ _ err s' J out
  · cases fl with
    | ret u =>
      obtain ⟨v, H', I3, rv, ev, q3⟩ := J.after out
      subst ev
      exact ⟨rv, ⟨V.ref (n + 1), H', I3, rfl, q3⟩⟩
    | next => exact out.elim
    | brk => exact out.elim
    | cont => exact out.elim
end
/-- __init__ that keeps what it gets: one thing, two things -/
def spE1 (C : Addr) (f : Str) : Sp := fun vs H Q _ => ∃ a v, vs = [.ref a, v] ∧ H a = some (exo a C none) ∧ ∀ dx, H dx = none → dx ≠ a → Q .non (upd (upd H dx (exd dx [(f, v)])) a (exo a C (some dx)))
def spE2 (C : Addr) (f g : Str) : Sp := fun vs H Q _ => ∃ a v u, vs = [.ref a, v, u] ∧ H a = some (exo a C none) ∧ ∀ dx, H dx = none → dx ≠ a → Q .non (upd (upd (upd H dx (exd dx [(f, v)])) a (exo a C (some dx))) dx (exd dx [(g, u), (f, v)]))
section
variable {X : Cx} {Γ : Gm} {d d1 d2 : D} {e a b c : Expr} {es : List Expr} {pos : Pos} {st : Stmt} {sts body rest : List Stmt} {Φ Ψ : Out → Prop} {C BE fI : Addr} {fs : List (Str × D)} {x : Str} {fd : FuncData} {ps : List Str}
theorem ex_up {H H1 : Hp} {a : Addr} {o : HO} (e1 : Ex H H1) (n : H1 a = none) : Ex H (upd H1 a o) := fun b u hb => by
  have h := e1 b u hb
  rw [upd_ne (ne_of_none h n)]
  exact h
theorem denF_nil {K : PySem.W.Frag} {H : Hp} : DenF K H [] [] := by simp only [DenF]
theorem denF_cons {K : PySem.W.Frag} {H : Hp} {f : Str} {y : V} {gs : List (Str × V)} (h : Den K H d y) (t : DenF K H fs gs) : DenF K H ((f, d) :: fs) ((f, y) :: gs) := by
  simp only [DenF]
  exact ⟨y, gs, rfl, h, t⟩
theorem den1 {K : PySem.W.Frag} {H1 : Hp} {a dx : Addr} {f : Str} {y : V} (hy : Den K H1 d1 y) (n1 : H1 a = none) (n2 : H1 dx = none) (ne : dx ≠ a) : Den K (upd (upd (upd H1 a (exo a C none)) dx (exd dx [(f, y)])) a (exo a C (some dx))) (.exc C [(f, d1)]) (.ref a) := by
  simp only [Den]
  refine ⟨a, _, rfl, upd_same, .inr ⟨dx, [(f, y)], by simp, isx_exo, by rw [upd_ne ne, upd_same], ?_⟩⟩
  refine denF_cons (hy.mono fun b u hb => ?_) denF_nil
  rw [upd_ne (ne_of_none hb n1), upd_ne (ne_of_none hb n2), upd_ne (ne_of_none hb n1)]
  exact hb
theorem ed_newE1 {f : Str} {p : Pos} (T : EcT X.K X.mg x C BE) (iC : PySem.W.findIn X.K (.ref C) "__init__" = some (some (.ref fI))) (tI : PySem.W.typeIn X.K (.ref fI) = some (.type "function"))
    (F1 : FnOk X.prog X.w X.K X.mg X.base CX0 1 fI fd ps (spE1 C f)) (hr : Room 2 X.A) (hb : Binds X.K fd ps []) (ha : ED X e Γ d1) (hg : Gl X x := by rfl)
    (hdb : (x == ("__debug__" : Str)) = false := by decide) (he : starEach (e :: []) X.env = (false, eval e X.env) :: starEach [] X.env := by rfl) (hpl : (backTo pos (starEach [] X.env)).any (·.1) = false := by rfl) :
    ED X (.Call (.Name x p) [e] [] pos) Γ (.exc C [(f, d1)]) := by
  obtain ⟨t, pp, q⟩ := ha
  refine ⟨_, pe_newX T.oex iC tI F1 hr hb pass0 hg T.mg (pa_cons pp pa_nil he) hdb he hpl, fun σ H Cc Q k => q σ H Cc _ fun y H1 e1 h1 => ⟨by show 1 ≤ 1000; decide, fun a n => ?_⟩⟩
  refine ⟨a, y, rfl, upd_same, fun dx n2 ne => ⟨rfl, ?_⟩⟩
  rw [upd_ne ne] at n2
  refine k _ _ (fun b u hb => ?_) (den1 h1 n n2 ne)
  have h := e1 b u hb
  rw [upd_ne (ne_of_none h n), upd_ne (ne_of_none h n2), upd_ne (ne_of_none h n)]
  exact h
theorem ed_newE2 {f g : Str} {p : Pos} (T : EcT X.K X.mg x C BE) (iC : PySem.W.findIn X.K (.ref C) "__init__" = some (some (.ref fI))) (tI : PySem.W.typeIn X.K (.ref fI) = some (.type "function"))
    (F1 : FnOk X.prog X.w X.K X.mg X.base CX0 1 fI fd ps (spE2 C f g)) (hr : Room 2 X.A) (hb : Binds X.K fd ps []) (ha : ED X e Γ d1) (hb2 : ED X b Γ d2) (hg : Gl X x := by rfl)
    (hdb : (x == ("__debug__" : Str)) = false := by decide) (he : starEach (e :: [b]) X.env = (false, eval e X.env) :: starEach [b] X.env := by rfl) (he2 : starEach (b :: []) X.env = (false, eval b X.env) :: starEach [] X.env := by rfl) (hpl : (backTo pos (starEach [b] X.env)).any (·.1) = false := by rfl) :
    ED X (.Call (.Name x p) [e, b] [] pos) Γ (.exc C [(g, d2), (f, d1)]) := by
  obtain ⟨t, pp, q⟩ := ha
  obtain ⟨t2, pp2, q2⟩ := hb2
  refine ⟨_, pe_newX T.oex iC tI F1 hr hb pass0 hg T.mg (pa_cons pp (pa_cons pp2 pa_nil he2) he) hdb he hpl, fun σ H Cc Q k => q σ H Cc _ fun y H1 e1 h1 => q2 σ H1 (Cc.mono e1) _ fun z H2 e2 h2 => ⟨by show 2 ≤ 1000; decide, fun a n => ?_⟩⟩
  refine ⟨a, y, z, rfl, upd_same, fun dx n2 ne => ⟨rfl, ?_⟩⟩
  rw [upd_ne ne] at n2
  have up : Ex H2 (upd (upd (upd (upd H2 a (exo a C none)) dx (exd dx [(f, y)])) a (exo a C (some dx))) dx (exd dx [(g, z), (f, y)])) := fun b u hb => by
    rw [upd_ne (ne_of_none hb n2), upd_ne (ne_of_none hb n), upd_ne (ne_of_none hb n2), upd_ne (ne_of_none hb n)]
    exact hb
  refine k _ _ ((e1.trans e2).trans up) ?_
  simp only [Den]
  refine ⟨a, _, rfl, by rw [upd_ne (Ne.symm ne), upd_same], .inr ⟨dx, [(g, z), (f, y)], by simp, isx_exo, upd_same, ?_⟩⟩
  exact denF_cons (h2.mono up) (denF_cons ((h1.mono e2).mono up) denF_nil)
/-- X() -/
theorem isx_ExO {a C : Addr} : IsX a C none (ExO (.ref C) a) := fun P w H h x => by
  have x' : ObjOk P w H h a (.ext fun h => ∃ (oe : Obj) (vs : Array Value), h.get? a = some oe ∧ Zc (.ref C) none oe ∧ oe.data = .fields vs ∧ vs[1]? = some .none ∧ vs[2]? = some .none ∧ 4 < vs.size) := x
  obtain ⟨⟨oe, vs, h1, h2, h3, _⟩, _⟩ := x'
  exact ⟨oe, vs, h1, h2, h3⟩
theorem ed_newE0 {p : Pos} (T : ErT X.K X.mg x C) (hg : Gl X x := by rfl) (hdb : (x == ("__debug__" : Str)) = false := by decide) : ED X (.Call (.Name x p) [] [] pos) Γ (.exc C []) := by
  refine ⟨fun σ H Q => ∀ a, H a = none → Q (.ref a) (upd H a (ExO (.ref C) a)), ⟨fun pins s σ H Q I h => ?_⟩, fun σ H Cc Q k a n => k _ _ (ex_up (Ex.refl H) n) ?_⟩
  · refine wpAny_Call_Name_kw (ld_glob I hg T.mg ?_ hdb)
    refine PySem.W.callWith_K0 (first := []) I.kIn T.kp ?_
    obtain ⟨bm, N, nm, qn, bs, hdct, sn, sub, ab, col, dd, k0, k1, k2, k3, k5, mN, hC, hN, hni, OT⟩ := exc_obj I.kIn T.exc
    obtain ⟨hp, g, dr, tk, os⟩ := s
    refine wpAny_call_exc_subT PySem.F.excBase_ValueError OT hC hN hni (fun h' a hm => ?_) (Nat.zero_le _)
    have hn : H a = none := I.hok.gone hm.new
    obtain ⟨t, ht, _, _⟩ := hm.there
    exact ⟨.ref a, upd H a (ExO (.ref C) a), I.laidN hm.keeps hm.new hn (exO_ok ht ⟨rfl, rfl⟩ rfl rfl rfl (show 4 < 6 by decide)), rfl, h a hn⟩
  · simp only [Den]
    exact ⟨a, _, rfl, upd_same, .inl ⟨True.intro, isx_ExO⟩⟩
/-! ### raise C(e, ..) -/
theorem denX1 {K : PySem.W.Frag} {H1 H2 : Hp} {a dd : Addr} {gs : List (Str × V)} (hF : DenF K H1 fs gs) (hne : fs ≠ []) (up : Ex H1 H2) (hd : H2 dd = some (.xd gs)) : DenX K H2 (some dd) fs := .inr ⟨dd, gs, hne, rfl, hd, hF.mono up⟩
theorem ex_let {H H1 : Hp} {a dx : Addr} {o1 o2 : HO} {gs : List (Str × V)} (e1 : Ex H H1) (n : H1 a = none) (n2 : H1 dx = none) {H2 : Hp} (h2 : ∀ b, b ≠ a → b ≠ dx → H2 b = H1 b) : Ex H (upd (L2.del H2 a) dx (.xd gs)) := fun b u hb => by
  have h := e1 b u hb
  have b1 : b ≠ a := ne_of_none h n
  have b2 : b ≠ dx := ne_of_none h n2
  rw [upd_ne b2, L2.del_ne b1, h2 b b1 b2]
  exact h
theorem sd_raiseE1 {f : Str} {p p2 : Pos} (hc : X.calm = true) (T : EcT X.K X.mg x C BE) (iC : PySem.W.findIn X.K (.ref C) "__init__" = some (some (.ref fI))) (tI : PySem.W.typeIn X.K (.ref fI) = some (.type "function"))
    (F1 : FnOk X.prog X.w X.K X.mg X.base CX0 1 fI fd ps (spE1 C f)) (hr : Room 2 X.A) (hb : Binds X.K fd ps []) (ha : ED X e Γ d1) (hp : Φ (.ex (.ref C) [(f, d1)] Γ)) (hg : Gl X x := by rfl)
    (hdb : (x == ("__debug__" : Str)) = false := by decide) (he : starEach (e :: []) X.env = (false, eval e X.env) :: starEach [] X.env := by rfl) (hpl : (backTo pos (starEach [] X.env)).any (·.1) = false := by rfl) :
    SD X (.Raise (some (.Call (.Name x p) [e] [] pos)) none p2) Γ Φ := by
  obtain ⟨t, pp, q⟩ := ha
  refine ⟨_, ps_raise hc tk0 (pmk_oex T.oex iC tI F1 hr hb .nil pass0 hg T.mg (pa_cons pp pa_nil he) hdb he hpl), fun σ H hl Cc E k => q σ H Cc _ fun y H1 e1 h1 => ⟨by show 1 ≤ 1000; decide, fun a n => ?_⟩⟩
  refine ⟨a, y, rfl, upd_same, fun dx n2 ne => ⟨rfl, dx, [(f, y)], upd_same, by rw [upd_ne ne, upd_same], ?_, ?_⟩⟩
  · rw [upd_ne ne] at n2
    exact n2
  · rw [upd_ne ne] at n2
    have up : Ex H1 (upd (L2.del (upd (upd (upd H1 a (exo a C none)) dx (exd dx [(f, y)])) a (exo a C (some dx))) a) dx (.xd [(f, y)])) := ex_let (o1 := exo a C none) (o2 := exo a C none) (Ex.refl H1) n n2 fun b b1 b2 => by rw [upd_ne b1, upd_ne b2, upd_ne b1]
    refine k.ex _ _ Γ _ σ _ hp (e1.trans up) hl (Cc.mono (e1.trans up)) (.inr ⟨dx, [(f, y)], by simp, rfl, upd_same, ?_⟩)
    exact denF_cons (h1.mono up) denF_nil
theorem sd_raiseE2 {f g : Str} {p p2 : Pos} (hc : X.calm = true) (T : EcT X.K X.mg x C BE) (iC : PySem.W.findIn X.K (.ref C) "__init__" = some (some (.ref fI))) (tI : PySem.W.typeIn X.K (.ref fI) = some (.type "function"))
    (F1 : FnOk X.prog X.w X.K X.mg X.base CX0 1 fI fd ps (spE2 C f g)) (hr : Room 2 X.A) (hb : Binds X.K fd ps []) (ha : ED X e Γ d1) (hb2 : ED X b Γ d2) (hp : Φ (.ex (.ref C) [(g, d2), (f, d1)] Γ)) (hg : Gl X x := by rfl)
    (hdb : (x == ("__debug__" : Str)) = false := by decide) (he : starEach (e :: [b]) X.env = (false, eval e X.env) :: starEach [b] X.env := by rfl) (he2 : starEach (b :: []) X.env = (false, eval b X.env) :: starEach [] X.env := by rfl) (hpl : (backTo pos (starEach [b] X.env)).any (·.1) = false := by rfl) :
    SD X (.Raise (some (.Call (.Name x p) [e, b] [] pos)) none p2) Γ Φ := by
  obtain ⟨t, pp, q⟩ := ha
  obtain ⟨t2, pp2, q2⟩ := hb2
  refine ⟨_, ps_raise hc tk0 (pmk_oex T.oex iC tI F1 hr hb .nil pass0 hg T.mg (pa_cons pp (pa_cons pp2 pa_nil he2) he) hdb he hpl), fun σ H hl Cc E k => q σ H Cc _ fun y H1 e1 h1 => q2 σ H1 (Cc.mono e1) _ fun z H2 e2 h2 => ⟨by show 2 ≤ 1000; decide, fun a n => ?_⟩⟩
  refine ⟨a, y, z, rfl, upd_same, fun dx n2 ne => ⟨rfl, dx, [(g, z), (f, y)], by rw [upd_ne (Ne.symm ne), upd_same], upd_same, ?_, ?_⟩⟩
  · rw [upd_ne ne] at n2
    exact n2
  · rw [upd_ne ne] at n2
    have up : Ex H2 (upd (L2.del (upd (upd (upd (upd H2 a (exo a C none)) dx (exd dx [(f, y)])) a (exo a C (some dx))) dx (exd dx [(g, z), (f, y)])) a) dx (.xd [(g, z), (f, y)])) := ex_let (o1 := exo a C none) (o2 := exo a C none) (Ex.refl H2) n n2 fun b b1 b2 => by rw [upd_ne b2, upd_ne b1, upd_ne b2, upd_ne b1]
    refine k.ex _ _ Γ _ σ _ hp ((e1.trans e2).trans up) hl (Cc.mono ((e1.trans e2).trans up)) (.inr ⟨dx, [(g, z), (f, y)], by simp, rfl, upd_same, ?_⟩)
    exact denF_cons (h2.mono up) (denF_cons ((h1.mono e2).mono up) denF_nil)
/-! ### except x as n, the thing kept -/
theorem sd_tryAsC (i : Nat) {x n : Str} {C : Addr} {b₀ : Stmt} {suite : List Stmt} {np pos' : Pos} (hs : X.stack = X.env :: X.outer) (hf : X.env.frame = some X.env.locals) (hd : X.N.Nodup) (hc : Names X x (.ref C))
    (hb : ∀ pn xe, PassesOwn (model X.prog X.w) X.A X.env xe → SsD (X.tr pn xe) body Γ Ψ)
    (ho : ∀ o, (∀ c fs Γ', o ≠ .ex c fs Γ') → Ψ o → Φ o)
    (hx : ∀ c fs Γ', Ψ (.ex c fs Γ') → ∃ k, PySem.W.exmOne X.K c (.ref C) = some k ∧ (k = true → ∀ a oe d pn, Zc c d oe → (∃ vs, oe.data = .fields vs) → SsD (X.suite a ((a, oe) :: pn)) (b₀ :: suite) (Γ'.set i (some (.ced a d fs))) (gone i Φ)) ∧ (k = false → Φ (.ex c fs Γ')))
    (hN : X.N[i]? = some n := by rfl) (hln : X.env.kindOf n = some .local := by rfl) :
    SD X (.Try body [.ExceptHandler (some (.Name x np)) (some n) (b₀ :: suite) pos'] [] [] pos) Γ Φ := by
  refine ⟨_, ps_try_as (i := i) hs hf hd hN hln hc (tk0 (X := X)) (tb := bodyT X body) (ts := suiteT X (b₀ :: suite)) (fun W pn xe tk hp => ⟨fun pins s σ H E I h => h pn xe tk hp pins s I⟩)
    (fun a oe cls d pn hz hfl => ⟨fun pins s σ H E I h => h oe pn hz hfl pins s I⟩), fun σ H hl C0 E T => ?_⟩
  intro pn xe tk hp
  refine (hb pn xe hp).all hl C0 ?_
  refine ⟨fun Γ' σ' H' z e1 l1 c1 => T.nx Γ' σ' H' (ho _ (fun _ _ _ w => by cases w) z) e1 l1 c1, fun d v H' z e1 hv => T.rt d v H' (ho _ (fun _ _ _ w => by cases w) z) e1 hv,
    fun Γ' σ' H' z e1 l1 c1 => T.bk Γ' σ' H' (ho _ (fun _ _ _ w => by cases w) z) e1 l1 c1, fun Γ' σ' H' z e1 l1 c1 => T.ct Γ' σ' H' (ho _ (fun _ _ _ w => by cases w) z) e1 l1 c1, fun c fs Γ' d σ' H' z e1 l1 c1 x1 => ?_⟩
  refine w0_of tk ?_
  obtain ⟨k, h1, h2, h3⟩ := hx c fs Γ' z
  refine ⟨k, h1, fun hk a na => ?_, fun hk => T.ex c fs Γ' d σ' H' (h3 hk) e1 l1 c1 x1⟩
  intro oe pn2 hz hfl
  have hi : i < σ'.length := by
    rw [l1]
    exact (List.getElem?_eq_some_iff.mp hN).1
  refine (h2 hk a oe d pn2 hz hfl).all (by rw [List.length_set]; exact l1) (c1.set hi (by
    simp only [Den]
    exact ⟨True.intro, x1⟩)) ?_
  have T' := T.mono e1
  exact ⟨fun Γ2 σ2 H2 z2 e2 l2 c2 => T'.nx _ _ H2 z2 e2 (by rw [List.length_set]; exact l2) c2.unset, fun d2 v H2 z2 => T'.rt d2 v H2 z2, fun Γ2 σ2 H2 z2 e2 l2 c2 => T'.bk _ _ H2 z2 e2 (by rw [List.length_set]; exact l2) c2.unset,
    fun Γ2 σ2 H2 z2 e2 l2 c2 => T'.ct _ _ H2 z2 e2 (by rw [List.length_set]; exact l2) c2.unset, fun c2 fs2 Γ2 d2 σ2 H2 z2 => z2.elim⟩
end
/-! ### a def that is called within a suite, with the exception -/
structure FnP (P : Program) (w : World) (K : PySem.W.Frag) (mg : Str → Option Value) (base : Heap) (k : Nat) (f : Addr) (fd : FuncData) (ps : List Str) (p : Addr × Obj) (sp : Sp) : Prop where
  len : ∀ vs H Q E, sp vs H Q E → vs.length = ps.length
  run : ∀ (A : Around) (outer : List Env) (s : Shared) (H : Hp) (args : Args) (us : List Value) (vs : List V) (Q : VK) (E : XK), L2H.RoomH k A → L2H.PinOk outer H s p → Env0 P w K mg base A outer s H → BindsTo s fd args (ps.zip us) → Vals vs us → sp vs H Q E →
    codeAny (model P w) A (.call (.ref f) args) (CR CX0 outer P w H s Q E) s
abbrev cxP (P : Program) (w : World) (K : PySem.W.Frag) (mg : Str → Option Value) (base : Heap) (N : List Str) (qual : Str) (scope : Scope) (f : Addr) (cd : Value) (A : Around) (outer : List Env) (s : Shared) (H : Hp) (E : XK) (p : Addr × Obj) : Cx := L2H.cxH CX0 P w K mg base N qual scope f cd A outer s H E p
theorem fn_P {P : Program} {w : World} {K : PySem.W.Frag} {mg : Str → Option Value} {base : Heap} {x qual : Str} {st : Stmt} {f : Addr} {fd : FuncData} {N ps : List Str} {k : Nat} {R : List D → D → Prop} {p : Addr × Obj} (F : Fun K x qual st f fd) (S : FnScope N ps (defScope st)) (hN : ps.length ≤ N.length)
    (h : ∀ (cdv : Value) (A : Around) (outer : List Env) (s : Shared) (H : Hp) (E : XK) (ds : List D) (d : D), L2H.RoomH k (A.deeper (PyProof.Rows.envOfC qual (defScope st) s.heap.objs.size f cdv)) → ds.length = ps.length → R ds d →
      SsD (cxP P w K mg base N qual (defScope st) f cdv A outer s H E p) (defBody st) (ds.map some ++ List.replicate (N.length - ds.length) none) (fun o => o = .rt d)) :
    FnP P w K mg base (k + 1) f fd ps p (spD K ps.length R) := by
  refine ⟨fun vs H Q E h => spD_len h, fun A outer s H args us vs Q E hr hpin e0 hb r hsp => ?_⟩
  obtain ⟨oc, od, kV, doc, pm, an, cdv, ct, osl, rfl, lk, hcd⟩ := F.ex
  have hl : vs.length = ps.length := spD_len hsp
  have KX : K.In s.heap := e0.mod.kin.keeps fun b o e => (e0.bs b o e).1
  have lim : s.heap.NoLimit := e0.mod.nolimit.keeps fun b o e => (e0.bs b o e).1
  have par : ∀ y ∈ ps.zip us, (defScope st).names.lookup y.1 = some .local ∨ ((defScope st).names.lookup y.1 = some .cell ∧ ((cellsFrom (s.heap.objs.size + 1) (defScope st).names []).lookup y.1).isSome = true) := fun ⟨n, v⟩ hy =>
    (S.par n (List.of_mem_zip hy).1).elim .inl fun q => .inr ⟨q, PySem.W.cellsFrom_some _ _ _ (.inl q)⟩
  refine codeAny_call_function hr.depth (KX _ _ lk) rfl S.co S.gen rfl (PySem.W.codeRec_of KX hcd) (hb _ _ _ _ ?_)
  refine wpAny_newFunctionEnv_cells S.kind par fun env he s1 x => ?_
  subst he
  refine ⟨lim.keeps x.toInCall.keep, codeAny_func ?_⟩
  obtain ⟨ds, d, h1, h2, h3, h4⟩ := hsp
  have I := L2H.inv_startH (CX := CX0) (E := E) S hpin e0 hl r x
  have hlen : (L2.start N vs).length = N.length := by
    unfold L2.start
    rw [List.length_append, List.length_map, List.length_replicate, ← h2.len, h1]
    omega
  have B := (h cdv A outer s H E ds d (hr.deeper _) h1 h3).all (σ := L2.start N vs) (H := H) (E := { nx := fun _ _ => False, rt := Q }) hlen (start_ctx h2)
    ⟨fun Γ σ H' z => (by cases z), fun d' v H' z e1 hv => h4 v H' e1 (by cases z; exact hv), fun Γ σ H' z => (by cases z), fun Γ σ H' z => (by cases z), fun c fs Γ d σ H' z => (by cases z)⟩
  refine wpAny_mono (B [] s1 I) (fun fl s' hs => ?_) fun e s' hs => hs
  cases fl with
  | ret u =>
    obtain ⟨v, σ', H', J, rv, q⟩ := hs
    exact ⟨v, H', J.os, J.bare, J.base, J.hok, rv, q⟩
  | next =>
    obtain ⟨_, _, _, q⟩ := hs
    exact q.elim
  | brk =>
    obtain ⟨_, _, _, q⟩ := hs
    exact q.elim
  | cont =>
    obtain ⟨_, _, _, q⟩ := hs
    exact q.elim
section
variable {X : Cx} {Γ : Gm} {d d1 d2 : D} {e a b c : Expr} {es : List Expr} {pos : Pos} {ds : List D}
theorem ed_callP {R : List D → D → Prop} {k n : Nat} {f : Addr} {fd : FuncData} {ps : List Str} {x : Str} {p : Addr × Obj} {p1 : Pos} (F : FnP X.prog X.w X.K X.mg X.base k f fd ps p (spD X.K n R)) (hp : p ∈ X.pn) (hr : L2H.RoomH k X.A) (hm : X.mg x = some (.ref f)) (hk : PySem.W.keepIn X.K (.ref f) = true)
    (hb : Binds X.K fd ps []) (ha : AD X (e :: es) Γ ds) (hR : R ds d) (hn : ds.length = n := by rfl) (hg : Gl X x := by rfl) (hdb : (x == ("__debug__" : Str)) = false := by decide)
    (he : starEach (e :: es) X.env = (false, eval e X.env) :: starEach es X.env := by rfl) (hpl : (backTo pos (starEach es X.env)).any (·.1) = false := by rfl) : ED X (.Call (.Name x p1) (e :: es) [] pos) Γ d := by
  obtain ⟨t, pp, q⟩ := ha
  refine ⟨fun σ H Q => t σ H fun vs H1 => spD X.K n R vs H1 Q (fun _ _ _ => False), ⟨fun pins s σ H Q I h => wpAny_Call_Name_kw (ld_glob I hg hm ?_ hdb)⟩, fun σ H Cc Q r => q σ H Cc _ fun vs H1 e1 h1 => ⟨ds, d, hn, h1, hR, fun v H2 e2 h2 => r v H2 (e1.trans e2) h2⟩⟩
  refine PySem.W.callWith_K (h₀ := X.base) I.ok.mod.kin hk (thn (pp.run pos pins s σ H _ I h) fun us s1 got => ?_) he hpl
  obtain ⟨vs, H1, I1, r, q1⟩ := got
  refine ⟨I1.kIn, ?_⟩
  have at_ := I1.pin p (List.mem_append_left _ hp)
  have free : p.1 ∉ frs X.stack := fun hm => by
    rcases List.mem_cons.mp (I1.stkSub p.1 hm) with z | z
    · exact at_.2.2.1 z
    · exact at_.2.2.2.1 z
  have bound := hb s1 us I1.kIn (by rw [List.append_nil, ← r.length]; exact F.len _ _ _ _ q1)
  rw [List.append_nil] at bound
  refine wpAny_call (codeAny_mono (F.run X.A X.stack s1 H1 ⟨us, []⟩ us vs Q _ hr ⟨at_.1, at_.2.1, free, at_.2.2.2.2⟩ I1.env0 bound r q1) fun res s' out => ?_)
  rcases res with err | fl
  · exact out.elim
  · cases fl with
    | ret u => exact I1.after out
    | next => exact out.elim
    | brk => exact out.elim
    | cont => exact out.elim
/-! ### texts -/
def rStrMul : R2 := fun x y H Q => ∃ z n, x = .str z ∧ y = .int n ∧ 1 ≤ n ∧ n ≤ 1000 ∧ z.length = 1 ∧ PyData.strOk z = true ∧ ∀ r : Str, r.length ≤ 1000 → PyData.strOk r = true → Q (.str r) H
theorem op_strMul : OpR X (binaryOp .Mult) rStrMul := by
  intro pins s σ H x y v u Q I rx ry h
  obtain ⟨z, n, rfl, rfl, h1, h2, hz, hok, q⟩ := h
  obtain ⟨t, rfl⟩ := rx
  obtain ⟨t', rfl⟩ := ry
  have big : (sizeLine : Nat) ≥ 1000 := by rw [sizeLine_eq]; omega
  refine PySem.P.mul_str (by rw [decide_eq_false (by omega), decide_eq_false (by omega)]; rfl) (fun _ _ => ?_) (fun _ _ => ?_) ?_
  · rw [hz]
    have : (2 ^ 63 - 1 : Int) / n ≥ 1 := (Int.le_ediv_iff_mul_le (by omega)).mpr (by omega)
    omega
  · rw [hz, Nat.one_mul]
    exact notLongL (by omega)
  · rw [if_neg (by omega)]
    by_cases h : (n == 1 || z.length == 0) = true
    · rw [if_pos h]
      exact ⟨.str z, H, I, ⟨_, rfl⟩, q z (by omega) hok⟩
    · rw [if_neg h]
      have hlen : ∀ (m : Nat) (acc : Array Nat), (List.foldl (· ++ ·) acc (List.replicate m z.cps)).size = acc.size + m * z.cps.size := by
        intro m
        induction m with
        | zero => intro acc; simp
        | succ m ih =>
          intro acc
          rw [List.replicate_succ, List.foldl_cons, ih, Array.size_append]
          rw [Nat.succ_mul]
          omega
      have hl : (⟨(List.replicate n.toNat z.cps).foldl (· ++ ·) #[]⟩ : Str).length ≤ 1000 := by
        show Array.size _ ≤ 1000
        rw [hlen]
        have : z.cps.size = 1 := hz
        rw [this]
        simp
        omega
      have hall : ∀ (m : Nat) (acc : Array Nat), acc.all (· < 0x110000) = true → (List.foldl (· ++ ·) acc (List.replicate m z.cps)).all (· < 0x110000) = true := by
        intro m
        induction m with
        | zero => intro acc h; simpa using h
        | succ m ih =>
          intro acc h
          rw [List.replicate_succ, List.foldl_cons]
          refine ih _ ?_
          rw [Array.all_append, h]
          exact hok
      exact ⟨Nat.le_trans hl big, ⟨.str _, H, I.tok _, ⟨_, rfl⟩, q _ hl (hall _ _ (by simp))⟩⟩
theorem ed_ixS {z : Str} {i : Int} {c : Nat} (ha : ED X a Γ (.v (.str z))) (hb : ED X b Γ (iD i)) (h : atI z.cps.toList i = some c) (hz : z.length ≤ 1000) (hs : PlainIx b := by exact fun _ _ => rfl) : ED X (.Subscript a b pos) Γ (.v (.str ⟨#[c]⟩)) := by
  obtain ⟨ta, pa, qa⟩ := ha
  obtain ⟨tb, pb, qb⟩ := hb
  refine ⟨_, pe_ix ix_str pa pb hs, fun σ H C Q q => qa σ H C _ fun x H1 e1 h1 => qb σ H1 (C.mono e1) _ fun y H2 e2 h2 => ?_⟩
  rw [den_v.mp h1, den_v.mp h2]
  exact ⟨z, i, c, rfl, rfl, Nat.le_trans hz (by rw [sizeLine_eq]; omega), h, q _ H2 (e1.trans e2) (den_v.mpr rfl)⟩
/-- a text of at most n signs, whatever it is -/
theorem ed_strMul {z : Str} {n : Int} {Φ : Out → Prop} (i : Nat) {x : Str} {pos' p2 : Pos} {sts : List Stmt} (ha : ED X a Γ (.v (.str z))) (hb : ED X b Γ (iD n)) (h1 : 1 ≤ n) (h2 : n ≤ 1000) (hz : z.length = 1) (hok : PyData.strOk z = true) (hd : X.N.Nodup)
    (k : ∀ r : Str, r.length ≤ 1000 → PyData.strOk r = true → SsD X sts (Γ.set i (some (.v (.str r)))) Φ) (hN : X.N[i]? = some x := by rfl) (hx : Loc X.env.scope x := by first | exact Or.inl rfl | exact Or.inr rfl)
    (hs : swapsWith (.BinOp a .Mult b pos) (some (.Name x pos')) p2.line X.env = pure false := by rfl) (hf : X.fn x = true ∨ X.env.scope.names.lookup x = some .local := by first | exact .inl rfl | exact .inr rfl) : SsD X (.Assign [.Name x pos'] (.BinOp a .Mult b pos) p2 :: sts) Γ Φ := by
  obtain ⟨ta, pa, qa⟩ := ha
  obtain ⟨tb, pb, qb⟩ := hb
  refine ⟨_, pss_cons (ps_set (i := i) hd hN hx (pe_op op_strMul pa pb) hs hf) (pss_all (st' := sts)), fun σ H hl C E T => ?_⟩
  refine qa σ H C _ fun v H1 e1 g1 => qb σ H1 (C.mono e1) _ fun y H2 e2 g2 => ?_
  rw [den_v.mp g1, den_v.mp g2]
  refine ⟨z, n, rfl, rfl, h1, h2, hz, hok, fun r hr ho => ?_⟩
  have hi : i < σ.length := by
    rw [hl]
    exact (List.getElem?_eq_some_iff.mp hN).1
  exact (k r hr ho).all (by rw [List.length_set]; exact hl) ((C.mono (e1.trans e2)).set hi (den_v.mpr rfl)) (T.mono (e1.trans e2))
theorem ed_addS {z w : Str} (ha : ED X a Γ (.v (.str z))) (hb : ED X b Γ (.v (.str w))) (h : z.length + w.length ≤ 5000) : ED X (.BinOp a .Add b pos) Γ (.v (.str (z ++ w))) :=
  ed_op op_add_str ha hb fun x y H h1 h2 Q q => ⟨z, w, den_v.mp h1, den_v.mp h2, Nat.le_trans h (by rw [sizeLine_eq]; omega), q _ H (Ex.refl H) (den_v.mpr rfl)⟩
/-- int(b) -/
theorem ed_toIntB {k : Bool} {p : Pos} (hm : X.mg "int" = none) (ha : ED X a Γ (bD k)) (hg : Gl X "int" := by rfl) (he : starEach (a :: []) X.env = (false, eval a X.env) :: starEach [] X.env := by rfl) (hpl : (backTo pos (starEach [] X.env)).any (·.1) = false := by rfl) :
    ED X (.Call (.Name "int" p) [a] [] pos) Γ (iD (if k then 1 else 0)) := by
  refine ed_callTy (d := iD (if k then 1 else 0)) call_int1 hm (by decide +kernel) (ad_cons ha ad_nil he) (fun xs H h Q q => ?_) hg (by decide) (by decide) he hpl
  obtain ⟨x, rfl, h1⟩ := denL_one h
  rw [den_v.mp h1]
  exact .inr ⟨k, rfl, q _ H (Ex.refl H) (den_v.mpr rfl)⟩
end
/-! ### lists of texts compared -/
abbrev sD (x : Str) : D := .v (.str x)
theorem py_strs {K : PySem.W.Frag} {H : Hp} : ∀ {ns : List Str} {ys : List V}, DenL K H (ns.map sD) ys → DpAll K H ys (ns.map PyData.str)
  | [], ys, h => by
    simp only [List.map_nil, DenL] at h
    subst h
    exact .nil
  | n :: ns, ys, h => by
    simp only [List.map_cons, DenL] at h
    obtain ⟨z, zs, rfl, h1, h2⟩ := h
    rw [den_v.mp h1]
    exact .cons (.str n) (py_strs h2)
theorem pys_lay : ∀ ns : List Str, (∀ n ∈ ns, PyData.strOk n = true) → PyData.canLayAll0 (ns.map PyData.str) = true
  | [], _ => by simp [PyData.canLayAll0]
  | n :: ns, h => by
    rw [List.map_cons]
    simp only [PyData.canLayAll0, PyData.canLay0, pys_lay ns fun m hm => h m (List.mem_cons_of_mem _ hm), h n (List.mem_cons_self ..), Bool.and_self]
theorem pys_dep : ∀ ns : List Str, PyData.depthAll (ns.map PyData.str) = 0
  | [] => by simp [PyData.depthAll]
  | n :: ns => by
    rw [List.map_cons]
    simp [PyData.depthAll, PyData.depth, pys_dep ns]
theorem pys_shaped (ns : List Str) (h : ∀ n ∈ ns, PyData.strOk n = true) : SeqAt.shaped (.list (ns.map PyData.str)) = true := by
  unfold SeqAt.shaped
  simp [PyData.canLay0, PyData.depth, pys_lay ns h, pys_dep]
theorem pys_eqv : ∀ ns : List Str, PyData.eqvAll (ns.map PyData.str) (ns.map PyData.str) = true
  | [] => by simp [PyData.eqvAll]
  | n :: ns => by
    simp only [List.map_cons, PyData.eqvAll, PyData.eqv, pys_eqv ns]
    simp
theorem dp_strs {K : PySem.W.Frag} {H : Hp} {ns : List Str} {y : V} (h : Den K H (.lst (ns.map sD)) y) : Dp K H y (.list (ns.map PyData.str)) := by
  simp only [Den] at h
  obtain ⟨a, ys, rfl, h1, h2⟩ := h
  exact .lst (SqL.of h1) (py_strs h2)
theorem rd_eqS {K : PySem.W.Frag} {ns : List Str} (hs : ∀ n ∈ ns, PyData.strOk n = true) : RD K (rEqD K) (.lst (ns.map sD)) (.lst (ns.map sD)) (bD true) := fun x y H h1 h2 Q q =>
  ⟨_, _, dp_strs h1, dp_strs h2, pys_shaped ns hs, pys_shaped ns hs, by
    have e : PyData.eqv (.list (ns.map PyData.str)) (.list (ns.map PyData.str)) = true := by
      simp only [PyData.eqv]
      exact pys_eqv ns
    rw [e]
    exact q _ H (Ex.refl H) (den_v.mpr rfl)⟩
theorem rd_neS {K : PySem.W.Frag} {ns : List Str} (hs : ∀ n ∈ ns, PyData.strOk n = true) : RD K (rNeD K) (.lst (ns.map sD)) (.lst (ns.map sD)) (bD false) := fun x y H h1 h2 Q q =>
  ⟨_, _, dp_strs h1, dp_strs h2, pys_shaped ns hs, pys_shaped ns hs, by
    have e : PyData.eqv (.list (ns.map PyData.str)) (.list (ns.map PyData.str)) = true := by
      simp only [PyData.eqv]
      exact pys_eqv ns
    rw [e]
    exact q _ H (Ex.refl H) (den_v.mpr rfl)⟩
end Trk

namespace Trk
open PySem L2 Evl
/-! ### lists that are changed in place: own lists -/
mutual
/-- no list lies in it -/
def flat : D → Bool
  | .v _ => true
  | .obj _ fs => flatF fs
  | .lst _ => false
  | .scr _ => false
  | .tup xs => flatL xs
  | .exc _ _ => false
  | .ced _ _ _ => false
def flatL : List D → Bool
  | [] => true
  | x :: xs => flat x && flatL xs
def flatF : List (Str × D) → Bool
  | [] => true
  | (_, x) :: xs => flat x && flatF xs
end
/-- the heap without as -/
def wo (H : Hp) (as : List Addr) : Hp := fun b => if b ∈ as then none else H b
theorem wo_in {H : Hp} {as : List Addr} {a : Addr} (h : a ∈ as) : wo H as a = none := if_pos h
theorem wo_out {H : Hp} {as : List Addr} {a : Addr} (h : a ∉ as) : wo H as a = H a := if_neg h
theorem wo_ex {H : Hp} {as : List Addr} : Ex (wo H as) H := fun b o h => by
  by_cases hb : b ∈ as
  · rw [wo_in hb] at h
    cases h
  · rwa [wo_out hb] at h
section
variable {K : PySem.W.Frag} {H : Hp} {as : List Addr}
theorem wo_keep (hA : ∀ b ∈ as, ∃ ys, H b = some (.lst ys)) {b : Addr} {o : HO} (h : H b = some o) (ho : ∀ ys, o ≠ .lst ys) : wo H as b = some o := by
  have : b ∉ as := fun z => by
    obtain ⟨ys, e⟩ := hA b z
    rw [h] at e
    exact ho ys (Option.some.inj e)
  rw [wo_out this, h]
theorem sqT_wo (hA : ∀ b ∈ as, ∃ ys, H b = some (.lst ys)) {a : Addr} {ys : List V} (h : SqT K H a ys) : SqT K (wo H as) a ys := by
  rcases h with h | h
  · refine .inl ?_
    rcases h with h | ⟨o, h⟩
    · exact .inl (wo_keep hA h fun ys z => by cases z)
    · exact .inr ⟨o, wo_keep hA h fun ys z => by cases z⟩
  · exact .inr h
mutual
theorem Den.wo (hA : ∀ b ∈ as, ∃ ys, H b = some (.lst ys)) : ∀ {d : D} {y : V}, flat d = true → Den K H d y → Den K (wo H as) d y
  | .v x, y, _, h => by
    simp only [Den] at h ⊢
    exact h
  | .obj C fs, y, hf, h => by
    simp only [Den] at h ⊢
    obtain ⟨a, dx, gs, h1, h2, h3⟩ := h
    simp only [flat] at hf
    exact ⟨a, dx, gs, h1, wo_keep hA h2 (fun ys z => by cases z), DenF.wo hA hf h3⟩
  | .lst xs, y, hf, h => by simp only [flat] at hf; cases hf
  | .scr xs, y, hf, h => by simp only [flat] at hf; cases hf
  | .tup xs, y, hf, h => by
    simp only [Den] at h ⊢
    obtain ⟨a, ys, h1, h2, h3⟩ := h
    simp only [flat] at hf
    exact ⟨a, ys, h1, sqT_wo hA h2, DenL.wo hA hf h3⟩
  | .exc C fs, y, hf, h => by simp only [flat] at hf; cases hf
  | .ced a d fs, y, hf, h => by simp only [flat] at hf; cases hf
theorem DenL.wo (hA : ∀ b ∈ as, ∃ ys, H b = some (.lst ys)) : ∀ {ds : List D} {ys : List V}, flatL ds = true → DenL K H ds ys → DenL K (wo H as) ds ys
  | [], ys, _, h => by
    simp only [DenL] at h ⊢
    exact h
  | x :: xs, ys, hf, h => by
    simp only [DenL] at h ⊢
    simp only [flatL, Bool.and_eq_true] at hf
    obtain ⟨z, zs, h1, h2, h3⟩ := h
    exact ⟨z, zs, h1, Den.wo hA hf.1 h2, DenL.wo hA hf.2 h3⟩
theorem DenF.wo (hA : ∀ b ∈ as, ∃ ys, H b = some (.lst ys)) : ∀ {ds : List (Str × D)} {ys : List (Str × V)}, flatF ds = true → DenF K H ds ys → DenF K (wo H as) ds ys
  | [], ys, _, h => by
    simp only [DenF] at h ⊢
    exact h
  | (f, x) :: xs, ys, hf, h => by
    simp only [DenF] at h ⊢
    simp only [flatF, Bool.and_eq_true] at hf
    obtain ⟨z, zs, h1, h2, h3⟩ := h
    exact ⟨z, zs, h1, Den.wo hA hf.1 h2, DenF.wo hA hf.2 h3⟩
end
end
/-- the own lists: their slots and what they hold, their addresses; F the part of the heap that stays -/
abbrev Om := List (Nat × List D)
def OwnL (K : PySem.W.Frag) (F H : Hp) (σ : L2.St) : Om → List Addr → Prop
  | [], [] => True
  | (i, ds) :: Ω, a :: as => (σ[i]? = some (some (.ref a)) ∧ F a = none ∧ a ∉ as ∧ ∃ ys, H a = some (.lst ys) ∧ DenL K F ds ys) ∧ OwnL K F H σ Ω as
  | _, _ => False
section
variable {K : PySem.W.Frag} {F F' H H' : Hp} {σ σ' : L2.St}
theorem OwnL.at : ∀ {Ω : Om} {as : List Addr} {k i : Nat} {ds : List D}, OwnL K F H σ Ω as → Ω[k]? = some (i, ds) → ∃ a ys, as[k]? = some a ∧ σ[i]? = some (some (.ref a)) ∧ F a = none ∧ H a = some (.lst ys) ∧ DenL K F ds ys
  | [], _, k, i, ds, _, h => by simp at h
  | p :: Ω, [], k, i, ds, h, _ => by cases p; exact h.elim
  | (j, es) :: Ω, a :: as, 0, i, ds, h, e => by
    simp at e
    obtain ⟨rfl, rfl⟩ := e
    obtain ⟨⟨h1, h2, h3, ys, h4, h5⟩, _⟩ := h
    exact ⟨a, ys, by simp, h1, h2, h4, h5⟩
  | (j, es) :: Ω, a :: as, k + 1, i, ds, h, e => by
    obtain ⟨_, h⟩ := h
    obtain ⟨b, ys, q1, q2⟩ := OwnL.at (k := k) h (by simpa using e)
    exact ⟨b, ys, by simpa using q1, q2⟩
theorem OwnL.lists : ∀ {Ω : Om} {as : List Addr}, OwnL K F H σ Ω as → ∀ b ∈ as, F b = none ∧ ∃ ys, H b = some (.lst ys)
  | [], [], _, b, hb => by cases hb
  | [], _ :: _, h, _, _ => h.elim
  | p :: Ω, [], h, b, hb => by cases hb
  | (j, es) :: Ω, a :: as, h, b, hb => by
    obtain ⟨⟨h1, h2, h3, ys, h4, h5⟩, h⟩ := h
    rcases List.mem_cons.mp hb with rfl | hb
    · exact ⟨h2, ys, h4⟩
    · exact OwnL.lists h b hb
/-- the rest of the heap may change, the part that stays may grow, slots that are not theirs may be set -/
theorem OwnL.move : ∀ {Ω : Om} {as : List Addr}, OwnL K F H σ Ω as → Ex F F' → (∀ b ∈ as, F' b = none) → (∀ b ∈ as, H' b = H b) → (∀ i ds, (i, ds) ∈ Ω → σ'[i]? = σ[i]?) → OwnL K F' H' σ' Ω as
  | [], [], _, _, _, _, _ => True.intro
  | [], _ :: _, h, _, _, _, _ => h.elim
  | p :: Ω, [], h, _, _, _, _ => by cases p; exact h.elim
  | (j, es) :: Ω, a :: as, h, e, f, g, s => by
    obtain ⟨⟨h1, h2, h3, ys, h4, h5⟩, h⟩ := h
    exact ⟨⟨by rw [s j es (List.mem_cons_self ..)]; exact h1, f a (List.mem_cons_self ..), h3, ys, by rw [g a (List.mem_cons_self ..)]; exact h4, h5.mono e⟩, h.move e (fun b hb => f b (List.mem_cons_of_mem _ hb)) (fun b hb => g b (List.mem_cons_of_mem _ hb)) fun i ds hi => s i ds (List.mem_cons_of_mem _ hi)⟩
/-- the k-th is written -/
theorem OwnL.put : ∀ {Ω : Om} {as : List Addr} {k i : Nat} {ds es : List D} {a : Addr} {ys : List V}, OwnL K F H σ Ω as → Ω[k]? = some (i, ds) → as[k]? = some a → DenL K F es ys → OwnL K F (upd H a (.lst ys)) σ (Ω.set k (i, es)) as
  | [], _, k, i, ds, es, a, ys, _, h, _, _ => by simp at h
  | p :: Ω, [], k, i, ds, es, a, ys, h, _, _, _ => by cases p; exact h.elim
  | (j, fs) :: Ω, b :: as, 0, i, ds, es, a, ys, h, e, ea, hd => by
    simp at e ea
    obtain ⟨rfl, rfl⟩ := e
    subst ea
    obtain ⟨⟨h1, h2, h3, _, h4, h5⟩, h⟩ := h
    exact ⟨⟨h1, h2, h3, ys, upd_same, hd⟩, h.move (Ex.refl F) (fun c hc => (h.lists c hc).1) (fun c hc => upd_ne fun z => h3 (z ▸ hc)) fun _ _ _ => rfl⟩
  | (j, fs) :: Ω, b :: as, k + 1, i, ds, es, a, ys, h, e, ea, hd => by
    obtain ⟨⟨h1, h2, h3, zs, h4, h5⟩, h⟩ := h
    have ha : a ∈ as := List.mem_of_getElem? (i := k) (by simpa using ea)
    exact ⟨⟨h1, h2, h3, zs, (upd_ne (fun z => h3 (by rw [z]; exact ha))).trans h4, h5⟩, OwnL.put (k := k) h (by simpa using e) (by simpa using ea) hd⟩
end
structure COwn (K : PySem.W.Frag) (F H : Hp) (Γ : Gm) (Ω : Om) (as : List Addr) (σ : L2.St) : Prop where
  ex : Ex F H
  cx : Ctx K F Γ σ
  own : OwnL K F H σ Ω as
/-- the slots as they read -/
def pl : Om → Gm → Gm
  | [], Γ => Γ
  | (i, ds) :: Ω, Γ => (pl Ω Γ).set i (some (.lst ds))
theorem Ctx.put {K : PySem.W.Frag} {H : Hp} {Γ : Gm} {σ : L2.St} {i : Nat} {d : D} {v : V} (c : Ctx K H Γ σ) (hi : σ[i]? = some (some v)) (h : Den K H d v) : Ctx K H (Γ.set i (some d)) σ := fun j e g => by
  by_cases hj : i = j
  · subst hj
    rw [List.getElem?_set] at g
    simp only [if_true] at g
    split at g
    · cases Option.some.inj (Option.some.inj g)
      exact ⟨v, hi, h⟩
    · cases g
  · rw [List.getElem?_set_ne hj] at g
    exact c j e g
theorem COwn.read {K : PySem.W.Frag} {F H : Hp} {Γ : Gm} {σ : L2.St} : ∀ {Ω : Om} {as : List Addr}, COwn K F H Γ Ω as σ → Ctx K H (pl Ω Γ) σ := fun {Ω as} c => by
  have key : ∀ {Ω : Om} {as : List Addr}, OwnL K F H σ Ω as → Ctx K H (pl Ω Γ) σ := by
    intro Ω
    induction Ω with
    | nil => intro as _; exact c.cx.mono c.ex
    | cons p Ω ih =>
      obtain ⟨i, ds⟩ := p
      intro as h
      cases as with
      | nil => exact h.elim
      | cons a as =>
        obtain ⟨⟨h1, h2, h3, ys, h4, h5⟩, h⟩ := h
        refine (ih h).put h1 ?_
        simp only [Den]
        exact ⟨a, ys, rfl, h4, h5.mono c.ex⟩
  exact key c.own
/-- behind an expression -/
theorem COwn.grow {K : PySem.W.Frag} {F H H' : Hp} {Γ : Gm} {Ω : Om} {as : List Addr} {σ : L2.St} (c : COwn K F H Γ Ω as σ) (e : Ex H H') : Ex F (wo H' as) ∧ COwn K (wo H' as) H' Γ Ω as σ ∧ ∀ b ∈ as, ∃ ys, H' b = some (.lst ys) := by
  have e2 : Ex F (wo H' as) := fun b o h => by
    have : b ∉ as := fun z => by
      rw [(c.own.lists b z).1] at h
      cases h
    rw [wo_out this]
    exact e b o (c.ex b o h)
  refine ⟨e2, ⟨wo_ex, c.cx.mono e2, c.own.move e2 (fun b hb => wo_in hb) (fun b hb => ?_) fun _ _ _ => rfl⟩, fun b hb => ?_⟩
  · obtain ⟨ys, h⟩ := (c.own.lists b hb).2
    rw [h, e b _ h]
  · obtain ⟨ys, h⟩ := (c.own.lists b hb).2
    exact ⟨ys, e b _ h⟩
/-! ### statements over own lists -/
inductive OutO where
  | nx (Γ : Gm) (Ω : Om)
  | rt (d : D)
  | bk (Γ : Gm) (Ω : Om)
  | ct (Γ : Gm) (Ω : Om)
  | ex (cls : Value) (fs : List (Str × D)) (Γ : Gm) (Ω : Om)
structure TkO (X : Cx) (F : Hp) (Φ : OutO → Prop) (E : Ends) : Prop where
  nx : ∀ Γ Ω σ F' H' as, Φ (.nx Γ Ω) → Ex F F' → σ.length = X.N.length → COwn X.K F' H' Γ Ω as σ → E.nx σ H'
  rt : ∀ d v H', Φ (.rt d) → Ex F H' → Den X.K H' d v → E.rt v H'
  bk : ∀ Γ Ω σ F' H' as, Φ (.bk Γ Ω) → Ex F F' → σ.length = X.N.length → COwn X.K F' H' Γ Ω as σ → E.bk σ H'
  ct : ∀ Γ Ω σ F' H' as, Φ (.ct Γ Ω) → Ex F F' → σ.length = X.N.length → COwn X.K F' H' Γ Ω as σ → E.ct σ H'
  ex : ∀ cls fs Γ Ω d σ F' H' as, Φ (.ex cls fs Γ Ω) → Ex F F' → σ.length = X.N.length → COwn X.K F' H' Γ Ω as σ → DenX X.K H' d fs → W0 X cls d σ H'
theorem TkO.mono {X : Cx} {F F' : Hp} {Φ : OutO → Prop} {E : Ends} (e : Ex F F') (t : TkO X F Φ E) : TkO X F' Φ E :=
  ⟨fun Γ Ω σ G H2 as h e2 => t.nx Γ Ω σ G H2 as h (e.trans e2), fun d v H2 h e2 => t.rt d v H2 h (e.trans e2), fun Γ Ω σ G H2 as h e2 => t.bk Γ Ω σ G H2 as h (e.trans e2), fun Γ Ω σ G H2 as h e2 => t.ct Γ Ω σ G H2 as h (e.trans e2), fun c fs Γ Ω d σ G H2 as h e2 => t.ex c fs Γ Ω d σ G H2 as h (e.trans e2)⟩
def SO (X : Cx) (sts : List Stmt) (Γ : Gm) (Ω : Om) (Φ : OutO → Prop) : Prop := ∀ σ F H as, σ.length = X.N.length → COwn X.K F H Γ Ω as σ → ∀ E : Ends, TkO X F Φ E → allS X sts E σ H
section
variable {X : Cx} {Γ : Gm} {Ω : Om} {d d1 d2 : D} {ds : List D} {e a b c : Expr} {es : List Expr} {pos : Pos} {st : Stmt} {sts body rest : List Stmt} {Φ Ψ : OutO → Prop} {Φ0 : Out → Prop}
/-- no own list yet -/
theorem so_top (h : SO X sts Γ [] Φ) (h1 : ∀ d, Φ (.rt d) → Φ0 (.rt d)) (h2 : ∀ Γ Ω, Φ (.nx Γ Ω) → Φ0 (.nx Γ)) (h3 : ∀ Γ Ω, ¬ Φ (.bk Γ Ω)) (h4 : ∀ Γ Ω, ¬ Φ (.ct Γ Ω)) (h5 : ∀ c fs Γ Ω, Φ (.ex c fs Γ Ω) → Φ0 (.ex c fs Γ)) : SsD X sts Γ Φ0 :=
  ⟨_, pss_all (st' := sts), fun σ H hl C E T => h σ H H [] hl ⟨Ex.refl H, C, True.intro⟩ E ⟨fun Γ' Ω' σ' F' H' as z e l c => T.nx Γ' σ' H' (h2 _ _ z) (e.trans c.ex) l (c.cx.mono c.ex), fun d v H' z e hv => T.rt d v H' (h1 _ z) e hv, fun Γ' Ω' σ' F' H' as z => absurd z (h3 _ _), fun Γ' Ω' σ' F' H' as z => absurd z (h4 _ _),
    fun cls fs Γ' Ω' d σ' F' H' as z e l c x => T.ex cls fs Γ' d σ' H' (h5 _ _ _ _ z) (e.trans c.ex) l (c.cx.mono c.ex) x⟩⟩
theorem so_nil (h : Φ (.nx Γ Ω)) : SO X [] Γ Ω Φ := fun σ F H as hl C E T pins s I => (pss_nil (X := X)).run pins s σ H E I (T.nx Γ Ω σ F H as h (Ex.refl F) hl C)
theorem all_cons {t : TS} {E : Ends} {σ : L2.St} {H : Hp} (p : PS X st t) (h : t { E with nx := fun σ' H' => allS X sts E σ' H' } σ H) : allS X (st :: sts) E σ H := fun pins s I => (pss_cons p (pss_all (st' := sts))).run pins s σ H E I h
theorem slot_lt {x : Str} {i : Nat} {σ : L2.St} (hN : X.N[i]? = some x) (hl : σ.length = X.N.length) : i < σ.length := by
  rw [hl]
  exact (List.getElem?_eq_some_iff.mp hN).1
/-- x = e, nothing of a list in it, x no own list -/
theorem so_asg (i : Nat) {x : Str} {pos' : Pos} (he : ED X e (pl Ω Γ) d) (hf : flat d = true) (ho : ∀ j es, (j, es) ∈ Ω → j ≠ i) (hd : X.N.Nodup) (k : SO X sts (Γ.set i (some d)) Ω Φ) (hN : X.N[i]? = some x := by rfl) (hx : Loc X.env.scope x := by first | exact Or.inl rfl | exact Or.inr rfl)
    (hs : swapsWith e (some (.Name x pos')) pos.line X.env = pure false := by rfl) (hf2 : X.fn x = true ∨ X.env.scope.names.lookup x = some .local := by first | exact .inl rfl | exact .inr rfl) : SO X (.Assign [.Name x pos'] e pos :: sts) Γ Ω Φ := by
  obtain ⟨t, p, q⟩ := he
  intro σ F H as hl C E T
  refine all_cons (ps_set (i := i) hd hN hx p hs hf2) (q σ H C.read _ fun v H1 e1 h1 => ?_)
  obtain ⟨e2, C2, hA⟩ := C.grow e1
  refine k _ (wo H1 as) H1 as (by rw [List.length_set]; exact hl) ⟨C2.ex, C2.cx.set (slot_lt hN hl) (h1.wo hA hf), C2.own.move (Ex.refl _) (fun b hb => wo_in hb) (fun b hb => rfl) fun j es hj => ?_⟩ E (T.mono e2)
  rw [List.getElem?_set_ne (Ne.symm (ho j es hj))]
/-- e gives a list of its own -/
def FD (X : Cx) (e : Expr) (Γ : Gm) (ds : List D) : Prop := ∃ t, PE X e t ∧ ∀ σ H, Ctx X.K H Γ σ → ∀ Q : VK, (∀ p H1 ys, Ex H H1 → H1 p = none → DenL X.K H1 ds ys → Q (.ref p) (upd H1 p (.lst ys))) → t σ H Q
theorem FD.ed (h : FD X e Γ ds) : ED X e Γ (.lst ds) := by
  obtain ⟨t, p, q⟩ := h
  refine ⟨t, p, fun σ H C Q k => q σ H C Q fun p H1 ys e1 n hL => k _ _ (fun b o hb => ?_) ?_⟩
  · have h := e1 b o hb
    rw [upd_ne (ne_of_none h n)]
    exact h
  · simp only [Den]
    refine ⟨p, ys, rfl, upd_same, hL.mono fun b o hb => ?_⟩
    rw [upd_ne (ne_of_none hb n)]
    exact hb
/-- x = a list of its own -/
theorem so_new (i : Nat) {x : Str} {pos' : Pos} (he : FD X e (pl Ω Γ) ds) (hf : flatL ds = true) (ho : ∀ j es, (j, es) ∈ Ω → j ≠ i) (hd : X.N.Nodup) (k : SO X sts (Γ.set i none) ((i, ds) :: Ω) Φ) (hN : X.N[i]? = some x := by rfl) (hx : Loc X.env.scope x := by first | exact Or.inl rfl | exact Or.inr rfl)
    (hs : swapsWith e (some (.Name x pos')) pos.line X.env = pure false := by rfl) (hf2 : X.fn x = true ∨ X.env.scope.names.lookup x = some .local := by first | exact .inl rfl | exact .inr rfl) : SO X (.Assign [.Name x pos'] e pos :: sts) Γ Ω Φ := by
  obtain ⟨t, p, q⟩ := he
  intro σ F H as hl C E T
  refine all_cons (ps_set (i := i) hd hN hx p hs hf2) (q σ H C.read _ fun p H1 ys e1 n hL => ?_)
  obtain ⟨e2, C2, hA⟩ := C.grow e1
  have hi := slot_lt hN hl
  have pn : p ∉ as := fun z => by
    obtain ⟨ys, h⟩ := hA p z
    rw [h] at n
    cases n
  have fp : wo H1 as p = none := by rw [wo_out pn, n]
  refine k _ (wo H1 as) _ (p :: as) (by rw [List.length_set]; exact hl) ⟨fun b o hb => ?_, fun j d2 g => ?_, ⟨List.getElem?_set_self hi, fp, pn, ys, upd_same, hL.wo hA hf⟩, C2.own.move (Ex.refl _) (fun b hb => wo_in hb) (fun b hb => upd_ne fun z => pn (z ▸ hb)) fun j es hj => by rw [List.getElem?_set_ne (Ne.symm (ho j es hj))]⟩ E (T.mono e2)
  · rw [upd_ne (ne_of_none hb fp)]
    exact C2.ex b o hb
  · by_cases hj : i = j
    · subst hj
      rw [List.getElem?_set] at g
      simp only [if_true] at g
      split at g <;> cases g
    · rw [List.getElem?_set_ne hj] at g
      obtain ⟨w, h1, h2⟩ := C2.cx j d2 g
      exact ⟨w, by rw [List.getElem?_set_ne hj]; exact h1, h2⟩
/-- own.append(e) -/
theorem so_app (k i : Nat) {x : Str} {p1 p2 p3 : Pos} (hk : Ω[k]? = some (i, ds)) (he : ED X e (pl Ω Γ) d) (hf : flat d = true) (hz : ds.length < 1000000) (kk : SO X sts Γ (Ω.set k (i, ds ++ [d])) Φ) (hN : X.N[i]? = some x := by rfl)
    (hv : Vis X.env.scope x := by first | exact Or.inl rfl | exact Or.inr (Or.inl rfl) | exact Or.inr (Or.inr rfl)) (hdb : (x == ("__debug__" : Str)) = false := by decide) (hcd : (x == ("__classdict__" : Str)) = false := by decide)
    (hbase : attributeBase (.Name x p1) "append" X.env (eval (.Name x p1) X.env) = eval (.Name x p1) X.env := by rfl)
    (hfew : ((backTo p3 (starEach (e :: []) X.env)).all (fun x => !x.1) && (backToKw p3 (keywordEach [] X.env)).all (fun x => x.1.isSome) && decide ((e :: []).length + ([] : List Keyword).length + (if ([] : List Keyword).isEmpty then 0 else 1) < 30)) = true := by rfl)
    (hline : (p2.endLine == p3.line) = true := by rfl) (hs1 : starEach (e :: []) X.env = (false, eval e X.env) :: starEach [] X.env := by rfl) (hpl : (backTo p3 (starEach [] X.env)).any (·.1) = false := by rfl)
    (hs : swapsWith (.Call (.Attribute (.Name x p1) "append" p2) [e] [] p3) none pos.line X.env = pure false := by rfl) : SO X (.Expr (.Call (.Attribute (.Name x p1) "append" p2) [e] [] p3) pos :: sts) Γ Ω Φ := by
  obtain ⟨t, p, q⟩ := he
  intro σ F H as hl C E T
  refine all_cons (ps_expr (pe_bm PySem.F.plainAttrs_list PySem.F.slot_list_append PySem.F.type_list_append mt_append (pv i hN hv hdb hcd) (pa_cons p pa_nil hs1) hbase hfew hline hs1 hpl) hs) ?_
  obtain ⟨l, ys, h0, h1, h2, h3, h4⟩ := C.own.at hk
  refine ⟨.ref l, h1, .inl ⟨rfl, ys, .inl (.inl h3)⟩, q σ H C.read _ fun v H1 e1 hv1 => ?_⟩
  obtain ⟨e2, C2, hA⟩ := C.grow e1
  have h3' := e1 _ _ h3
  refine ⟨l, ys, v, rfl, rfl, h3', (by rw [← h4.len, sizeLine_eq]; omega), ?_⟩
  have la : l ∈ as := List.mem_of_getElem? h0
  have snoc : ∀ {ds : List D} {ys : List V}, DenL X.K (wo H1 as) ds ys → DenL X.K (wo H1 as) (ds ++ [d]) (ys ++ [v]) := by
    intro ds
    induction ds with
    | nil =>
      intro ys h
      simp only [DenL] at h
      subst h
      exact DenL.cons (hv1.wo hA hf) DenL.nil
    | cons d0 ds ih =>
      intro ys h
      simp only [DenL] at h
      obtain ⟨z, zs, rfl, hz, hzs⟩ := h
      exact DenL.cons hz (ih hzs)
  exact kk σ (wo H1 as) _ as hl ⟨fun b o hb => by rw [upd_ne (ne_of_none hb (wo_in la))]; exact C2.ex b o hb, C2.cx, C2.own.put hk h0 (snoc (h4.mono e2))⟩ E (T.mono e2)
/-- own[e1] = e2 -/
theorem so_set (k i : Nat) {x : Str} {p1 p2 : Pos} {n : Int} {j : Nat} (hk : Ω[k]? = some (i, ds)) (hi : ED X a (pl Ω Γ) (iD n)) (he : ED X e (pl Ω Γ) d) (hf : flat d = true) (hj : ixN ds.length n = some j) (kk : SO X sts Γ (Ω.set k (i, ds.set j d)) Φ) (hN : X.N[i]? = some x := by rfl)
    (hv : Vis X.env.scope x := by first | exact Or.inl rfl | exact Or.inr (Or.inl rfl) | exact Or.inr (Or.inr rfl)) (hdb : (x == ("__debug__" : Str)) = false := by decide) (hcd : (x == ("__classdict__" : Str)) = false := by decide)
    (hpg : ∀ {to ti : TE}, PE X (.Name x p1) to → PE X a ti → PG X (.Subscript (.Name x p1) a p2) (gSub to ti rSetL) := by intro _ _ h1 h2; exact pg_sub h1 h2 set_list)
    (hs : swapsWithSole [.Subscript (.Name x p1) a p2] e pos.line X.env = pure false := by rfl) (hw : swappedStores [.Subscript (.Name x p1) a p2] e X.env = pure none := by rfl)
    (h1 : (assignEach [.Subscript (.Name x p1) a p2] X.env).map (·.2) = [assign (.Subscript (.Name x p1) a p2) X.env] := by rfl) : SO X (.Assign [.Subscript (.Name x p1) a p2] e pos :: sts) Γ Ω Φ := by
  obtain ⟨t, p, q⟩ := he
  obtain ⟨ti, pi, qi⟩ := hi
  intro σ F H as hl C E T
  refine all_cons (ps_asg p (hpg (pv i hN hv hdb hcd) pi) hs hw h1) (q σ H C.read _ fun v H1 e1 hv1 => ?_)
  obtain ⟨e2, C2, hA⟩ := C.grow e1
  obtain ⟨l, ys, g0, g1, g2, g3, g4⟩ := C2.own.at hk
  refine ⟨.ref l, g1, qi σ H1 C2.read _ fun w H2 e3 hw2 => ?_⟩
  rw [den_v.mp hw2]
  obtain ⟨e4, C3, hB⟩ := C2.grow e3
  have la : l ∈ as := List.mem_of_getElem? g0
  refine ⟨l, ys, n, j, rfl, rfl, e3 _ _ g3, by rw [← g4.len]; exact hj, ?_⟩
  have put : ∀ {ds : List D} {ys : List V} {j : Nat}, DenL X.K (wo H2 as) ds ys → DenL X.K (wo H2 as) (ds.set j d) (ys.set j v) := by
    intro ds
    induction ds with
    | nil =>
      intro ys j h
      simp only [DenL] at h
      subst h
      exact DenL.nil
    | cons d0 ds ih =>
      intro ys j h
      simp only [DenL] at h
      obtain ⟨z, zs, rfl, hz, hzs⟩ := h
      cases j with
      | zero => exact DenL.cons ((hv1.mono e3).wo hB hf) hzs
      | succ j => exact DenL.cons hz (ih hzs)
  exact kk σ (wo H2 as) _ as hl ⟨fun b o hb => by rw [upd_ne (ne_of_none hb (wo_in la))]; exact C3.ex b o hb, C3.cx, C3.own.put hk g0 (put (g4.mono e4))⟩ E (T.mono (e2.trans e4))
/-- own.pop() -/
theorem so_pop (k i : Nat) {x : Str} {p1 p2 p3 : Pos} (hk : Ω[k]? = some (i, ds)) (hne : ds ≠ []) (kk : SO X sts Γ (Ω.set k (i, ds.dropLast)) Φ) (hN : X.N[i]? = some x := by rfl)
    (hv : Vis X.env.scope x := by first | exact Or.inl rfl | exact Or.inr (Or.inl rfl) | exact Or.inr (Or.inr rfl)) (hdb : (x == ("__debug__" : Str)) = false := by decide) (hcd : (x == ("__classdict__" : Str)) = false := by decide)
    (hbase : attributeBase (.Name x p1) "pop" X.env (eval (.Name x p1) X.env) = eval (.Name x p1) X.env := by rfl) (hline : (p2.endLine == p3.line) = true := by rfl)
    (hs : swapsWith (.Call (.Attribute (.Name x p1) "pop" p2) [] [] p3) none pos.line X.env = pure false := by rfl) : SO X (.Expr (.Call (.Attribute (.Name x p1) "pop" p2) [] [] p3) pos :: sts) Γ Ω Φ := by
  intro σ F H as hl C E T
  refine all_cons (ps_expr (pe_bm0 PySem.F.plainAttrs_list PySem.F.slot_list_pop PySem.F.type_list_pop mt_pop (pv i hN hv hdb hcd) hbase hline) hs) ?_
  obtain ⟨l, ys, h0, h1, h2, h3, h4⟩ := C.own.at hk
  have la : l ∈ as := List.mem_of_getElem? h0
  have ny : 0 < ys.length := by rw [← h4.len]; exact List.length_pos_iff.mpr hne
  have drop : ∀ {ds : List D} {ys : List V}, DenL X.K F ds ys → DenL X.K F ds.dropLast ys.dropLast := by
    intro ds
    induction ds with
    | nil =>
      intro ys h
      simp only [DenL] at h
      subst h
      exact DenL.nil
    | cons d0 ds ih =>
      intro ys h
      simp only [DenL] at h
      obtain ⟨z, zs, rfl, hz, hzs⟩ := h
      cases ds with
      | nil =>
        simp only [DenL] at hzs
        subst hzs
        exact DenL.nil
      | cons d1 ds =>
        have hzs' := hzs
        simp only [DenL] at hzs
        obtain ⟨y, ys, rfl, _⟩ := hzs
        exact DenL.cons hz (ih hzs')
  refine ⟨.ref l, h1, .inl ⟨rfl, ys, .inl (.inl h3)⟩, l, ys, ys[ys.length - 1], rfl, rfl, h3, List.getElem?_eq_getElem (by omega), ?_⟩
  exact kk σ F _ as hl ⟨fun b o hb => by rw [upd_ne (ne_of_none hb h2)]; exact C.ex b o hb, C.cx, C.own.put hk h0 (drop h4)⟩ E T
/-- return e -/
theorem so_ret (he : ED X e (pl Ω Γ) d) (h : Φ (.rt d)) : SO X (.Return (some e) pos :: sts) Γ Ω Φ := by
  obtain ⟨t, p, q⟩ := he
  intro σ F H as hl C E T
  exact all_cons (ps_ret p) (q σ H C.read _ fun v H1 e1 h1 => T.rt d v H1 h (C.ex.trans e1) h1)
theorem so_ifT {sa sb : List Stmt} (hc : TD X c (pl Ω Γ) true) (ka : SO X sa Γ Ω Ψ) (k : ∀ Γ' Ω', Ψ (.nx Γ' Ω') → SO X sts Γ' Ω' Φ) (ho : ∀ o, (∀ Γ' Ω', o ≠ .nx Γ' Ω') → Ψ o → Φ o) : SO X (.If c sa sb pos :: sts) Γ Ω Φ := by
  obtain ⟨t, p, q⟩ := hc
  intro σ F H as hl C E T
  refine all_cons (ps_if p (pss_all (st' := sa)) pss_nv) (q σ H C.read _ fun H1 e1 => ?_)
  obtain ⟨e2, C2, _⟩ := C.grow e1
  refine ka σ (wo H1 as) H1 as hl C2 _ ⟨fun Γ' Ω' σ' F' H' as' z e l c => k Γ' Ω' z σ' F' H' as' l c E (T.mono (e2.trans e)), fun d v H' z e => T.rt d v H' (ho _ (fun _ _ w => by cases w) z) (e2.trans e), fun Γ' Ω' σ' F' H' as' z e => T.bk Γ' Ω' σ' F' H' as' (ho _ (fun _ _ w => by cases w) z) (e2.trans e), fun Γ' Ω' σ' F' H' as' z e => T.ct Γ' Ω' σ' F' H' as' (ho _ (fun _ _ w => by cases w) z) (e2.trans e),
    fun c fs Γ' Ω' d σ' F' H' as' z e => T.ex c fs Γ' Ω' d σ' F' H' as' (ho _ (fun _ _ w => by cases w) z) (e2.trans e)⟩
theorem so_ifE {sa sb : List Stmt} (hc : TD X c (pl Ω Γ) false) (ka : SO X sb Γ Ω Ψ) (k : ∀ Γ' Ω', Ψ (.nx Γ' Ω') → SO X sts Γ' Ω' Φ) (ho : ∀ o, (∀ Γ' Ω', o ≠ .nx Γ' Ω') → Ψ o → Φ o) : SO X (.If c sa sb pos :: sts) Γ Ω Φ := by
  obtain ⟨t, p, q⟩ := hc
  intro σ F H as hl C E T
  refine all_cons (ps_if p pss_nv (pss_all (st' := sb))) (q σ H C.read _ fun H1 e1 => ?_)
  obtain ⟨e2, C2, _⟩ := C.grow e1
  refine ka σ (wo H1 as) H1 as hl C2 _ ⟨fun Γ' Ω' σ' F' H' as' z e l c => k Γ' Ω' z σ' F' H' as' l c E (T.mono (e2.trans e)), fun d v H' z e => T.rt d v H' (ho _ (fun _ _ w => by cases w) z) (e2.trans e), fun Γ' Ω' σ' F' H' as' z e => T.bk Γ' Ω' σ' F' H' as' (ho _ (fun _ _ w => by cases w) z) (e2.trans e), fun Γ' Ω' σ' F' H' as' z e => T.ct Γ' Ω' σ' F' H' as' (ho _ (fun _ _ w => by cases w) z) (e2.trans e),
    fun c fs Γ' Ω' d σ' F' H' as' z e => T.ex c fs Γ' Ω' d σ' F' H' as' (ho _ (fun _ _ w => by cases w) z) (e2.trans e)⟩
theorem so_ifF {sa : List Stmt} (hc : TD X c (pl Ω Γ) false) (k : SO X sts Γ Ω Φ) : SO X (.If c sa [] pos :: sts) Γ Ω Φ :=
  so_ifE (Ψ := fun o => o = .nx Γ Ω) hc (so_nil rfl) (fun Γ' Ω' z => by cases z; exact k) fun o h z => absurd z (h _ _)
end
end Trk

namespace Trk
open PySem L2 Evl
/-! ### loops over own lists -/
section
variable {X : Cx} {Γ : Gm} {Ω : Om} {d d1 d2 : D} {ds : List D} {e a b c : Expr} {es : List Expr} {pos : Pos} {st : Stmt} {sts body rest : List Stmt} {Φ Ψ : OutO → Prop} {Φ0 : Out → Prop}
theorem COwn.put {K : PySem.W.Frag} {F H : Hp} {as : List Addr} {σ : L2.St} {i : Nat} {v : V} (c : COwn K F H Γ Ω as σ) (ho : ∀ j es, (j, es) ∈ Ω → j ≠ i) (hi : i < σ.length) (h : Den K F d v) : COwn K F H (Γ.set i (some d)) Ω as (σ.set i (some v)) :=
  ⟨c.ex, c.cx.set hi h, c.own.move (Ex.refl _) (fun b hb => (c.own.lists b hb).1) (fun _ _ => rfl) fun j es hj => by rw [List.getElem?_set_ne (Ne.symm (ho j es hj))]⟩
/-- for x in range(n) -/
theorem so_forR (i : Nat) {x : Str} {n : Nat} {p1 p2 p3 : Pos} (J : Nat → Gm → Om → Prop) (hc : X.calm = true) (hm : X.mg "range" = none) (ha : ED X e (pl Ω Γ) (iD (n : Int))) (hd : X.N.Nodup) (hn : (n : Int) < 2 ^ 62) (h0 : J 0 Γ Ω) (ho : ∀ k Γ' Ω', J k Γ' Ω' → ∀ j es, (j, es) ∈ Ω' → j ≠ i)
    (hs : ∀ j Γ' Ω', j < n → J j Γ' Ω' → SO X body (Γ'.set i (some (iD (j : Int)))) Ω' (fun o => (∃ Γ2 Ω2, (o = .nx Γ2 Ω2 ∨ o = .ct Γ2 Ω2) ∧ J (j + 1) Γ2 Ω2) ∨ (∃ d, o = .rt d ∧ Φ (.rt d)) ∨ (∃ Γ2 Ω2, o = .bk Γ2 Ω2 ∧ SO X sts Γ2 Ω2 Φ) ∨ ∃ c fs Γ2 Ω2, o = .ex c fs Γ2 Ω2 ∧ Φ (.ex c fs Γ2 Ω2)))
    (k : ∀ Γ' Ω', J n Γ' Ω' → SO X sts Γ' Ω' Φ) (hp : PassesOwn (model X.prog X.w) X.A X.env X.xe := by exact PassesOwn.never) (hN : X.N[i]? = some x := by rfl) (hx : Loc X.env.scope x := by first | exact Or.inl rfl | exact Or.inr rfl) (hg : Gl X "range" := by rfl)
    (he : starEach [e] X.env = [(false, eval e X.env)] := by rfl) (hse : starEach (e :: []) X.env = (false, eval e X.env) :: starEach [] X.env := by rfl)
    (hf : X.fn x = true ∨ X.env.scope.names.lookup x = some .local := by first | exact .inl rfl | exact .inr rfl)
    (hfs : ∀ x, foldedSetIterable (.Call (.Name "range" p1) [e] [] p2) X.env x = pure x := by intro _; rfl) : SO X (.For (.Name x p3) (.Call (.Name "range" p1) [e] [] p2) body [] pos :: sts) Γ Ω Φ := by
  obtain ⟨ta, pa, qa⟩ := ha
  intro σ F H as hl C E T
  refine all_cons (ps_for hp hc (pi_range1 hg hm (pa_cons pa pa_nil hse) he) (pg_name (i := i) hd hN hx hf) (pss_all (st' := body)) hfs) (qa σ H C.read _ fun v H1 e1 h1 => ?_)
  refine ⟨(n : Int), by rw [den_v.mp h1], by omega, hn, ?_⟩
  rw [Int.toNat_natCast]
  obtain ⟨e2, C2, _⟩ := C.grow e1
  refine for_range (lo := 0) (n := n) (fun j σ' H' => ∃ Γ' Ω' F' as', J j Γ' Ω' ∧ σ'.length = X.N.length ∧ COwn X.K F' H' Γ' Ω' as' σ' ∧ Ex (wo H1 as) F') ⟨Γ, Ω, wo H1 as, as, h0, hl, C2, Ex.refl _⟩ ?_ ?_
  · rintro j σ' H' hj ⟨Γ', Ω', F', as', g1, g2, g3, g4⟩
    show allS X body _ (σ'.set i (some (.int ((0 : Int) + (j : Int))))) H'
    rw [Int.zero_add]
    refine hs j Γ' Ω' hj g1 _ F' H' as' (by rw [List.length_set]; exact g2) (g3.put (ho j Γ' Ω' g1) (slot_lt hN g2) (den_v.mpr rfl)) _ ?_
    refine ⟨fun Γ2 Ω2 σ2 F2 H2 as2 z e3 l2 c2 => ?_, fun d v H2 z e3 hv => ?_, fun Γ2 Ω2 σ2 F2 H2 as2 z e3 l2 c2 => ?_, fun Γ2 Ω2 σ2 F2 H2 as2 z e3 l2 c2 => ?_, fun cl fs Γ2 Ω2 d σ2 F2 H2 as2 z e3 l2 c2 x2 => ?_⟩
    · rcases z with ⟨Γ3, Ω3, z | z, w⟩ | ⟨_, z, _⟩ | ⟨_, _, z, _⟩ | ⟨_, _, _, _, z, _⟩ <;> cases z
      exact ⟨Γ2, Ω2, F2, as2, w, l2, c2, g4.trans e3⟩
    · rcases z with ⟨Γ3, Ω3, z | z, w⟩ | ⟨_, z, w⟩ | ⟨_, _, z, _⟩ | ⟨_, _, _, _, z, _⟩ <;> cases z
      exact T.rt d v H2 w ((e2.trans g4).trans e3) hv
    · rcases z with ⟨Γ3, Ω3, z | z, w⟩ | ⟨_, z, w⟩ | ⟨_, _, z, w⟩ | ⟨_, _, _, _, z, _⟩ <;> cases z
      exact w σ2 F2 H2 as2 l2 c2 E (T.mono ((e2.trans g4).trans e3))
    · rcases z with ⟨Γ3, Ω3, z | z, w⟩ | ⟨_, z, w⟩ | ⟨_, _, z, w⟩ | ⟨_, _, _, _, z, _⟩ <;> cases z
      exact ⟨Γ2, Ω2, F2, as2, w, l2, c2, g4.trans e3⟩
    · rcases z with ⟨Γ3, Ω3, z | z, w⟩ | ⟨_, z, w⟩ | ⟨_, _, z, w⟩ | ⟨_, _, _, _, z, w⟩ <;> cases z
      exact T.ex cl fs Γ2 Ω2 d σ2 F2 H2 as2 w ((e2.trans g4).trans e3) l2 c2 x2
  · rintro σ' H' ⟨Γ', Ω', F', as', g1, g2, g3, g4⟩
    exact k Γ' Ω' g1 σ' F' H' as' g2 g3 E (T.mono (e2.trans g4))
/-- while -/
theorem so_while (J : Nat → Gm → Om → Prop) (m0 : Nat) (h0 : J m0 Γ Ω)
    (hs : ∀ m Γ' Ω', J m Γ' Ω' → ∃ k, TD X c (pl Ω' Γ') k ∧ (k = true → SO X body Γ' Ω' (fun o => (∃ Γ2 Ω2 m', (o = .nx Γ2 Ω2 ∨ o = .ct Γ2 Ω2) ∧ m' < m ∧ J m' Γ2 Ω2) ∨ (∃ d, o = .rt d ∧ Φ (.rt d)) ∨ (∃ Γ2 Ω2, o = .bk Γ2 Ω2 ∧ SO X sts Γ2 Ω2 Φ) ∨ ∃ c fs Γ2 Ω2, o = .ex c fs Γ2 Ω2 ∧ Φ (.ex c fs Γ2 Ω2))) ∧ (k = false → SO X sts Γ' Ω' Φ))
    (hp : PassesOwn (model X.prog X.w) X.A X.env X.xe := by exact PassesOwn.never) : SO X (.While c body [] pos :: sts) Γ Ω Φ := by
  intro σ F H as hl C E T
  refine all_cons (ps_while hp (pt_all (c := c)) (pss_all (st' := body))) ?_
  refine ⟨fun m σ' H' => ∃ Γ' Ω' F' as', J m Γ' Ω' ∧ σ'.length = X.N.length ∧ COwn X.K F' H' Γ' Ω' as' σ' ∧ Ex F F', ⟨m0, Γ, Ω, F, as, h0, hl, C, Ex.refl _⟩, ?_⟩
  rintro m σ' H' ⟨Γ', Ω', F', as', g1, g2, g3, g4⟩
  obtain ⟨k, ht, hb, hn⟩ := hs m Γ' Ω' g1
  refine ht.all g3.read fun H2 e2 => ?_
  obtain ⟨e5, C2, _⟩ := g3.grow e2
  cases k with
  | false =>
    show allS X sts E σ' H2
    exact hn rfl σ' _ H2 as' g2 C2 E (T.mono (g4.trans e5))
  | true =>
    show ∃ N : L2.St → Hp → Prop, _
    refine ⟨fun σ3 H3 => ∃ m' Γ3 Ω3 F3 as3, m' < m ∧ J m' Γ3 Ω3 ∧ σ3.length = X.N.length ∧ COwn X.K F3 H3 Γ3 Ω3 as3 σ3 ∧ Ex F F3, fun σ3 H3 ⟨m', Γ3, Ω3, F3, as3, q1, q2, q3, q4, q5⟩ => ⟨m', q1, Γ3, Ω3, F3, as3, q2, q3, q4, q5⟩, ?_⟩
    refine hb rfl σ' _ H2 as' g2 C2 _ ?_
    refine ⟨fun Γ2 Ω2 σ2 F2 H2 as2 z e3 l2 c2 => ?_, fun d v H2 z e3 hv => ?_, fun Γ2 Ω2 σ2 F2 H2 as2 z e3 l2 c2 => ?_, fun Γ2 Ω2 σ2 F2 H2 as2 z e3 l2 c2 => ?_, fun cl fs Γ2 Ω2 d σ2 F2 H2 as2 z e3 l2 c2 x2 => ?_⟩
    · rcases z with ⟨Γ3, Ω3, m', z | z, w1, w2⟩ | ⟨_, z, _⟩ | ⟨_, _, z, _⟩ | ⟨_, _, _, _, z, _⟩ <;> cases z
      exact ⟨m', Γ2, Ω2, F2, as2, w1, w2, l2, c2, (g4.trans e5).trans e3⟩
    · rcases z with ⟨Γ3, Ω3, m', z | z, w⟩ | ⟨_, z, w⟩ | ⟨_, _, z, _⟩ | ⟨_, _, _, _, z, _⟩ <;> cases z
      exact T.rt d v H2 w ((g4.trans e5).trans e3) hv
    · rcases z with ⟨Γ3, Ω3, m', z | z, w⟩ | ⟨_, z, w⟩ | ⟨_, _, z, w⟩ | ⟨_, _, _, _, z, _⟩ <;> cases z
      exact w σ2 F2 H2 as2 l2 c2 E (T.mono ((g4.trans e5).trans e3))
    · rcases z with ⟨Γ3, Ω3, m', z | z, w1, w2⟩ | ⟨_, z, w⟩ | ⟨_, _, z, w⟩ | ⟨_, _, _, _, z, _⟩ <;> cases z
      exact ⟨m', Γ2, Ω2, F2, as2, w1, w2, l2, c2, (g4.trans e5).trans e3⟩
    · rcases z with ⟨Γ3, Ω3, m', z | z, w⟩ | ⟨_, z, w⟩ | ⟨_, _, z, w⟩ | ⟨_, _, _, _, z, w⟩ <;> cases z
      exact T.ex cl fs Γ2 Ω2 d σ2 F2 H2 as2 w ((g4.trans e5).trans e3) l2 c2 x2
/-! ### new lists -/
theorem fd_lst (ha : AD X es Γ ds) (hz : ds.length ≤ 1000000) : FD X (.List es pos) Γ ds := by
  obtain ⟨t, p, q⟩ := ha
  refine ⟨_, pe_lst p, fun σ H C Q k => q σ H C _ fun vs H1 e1 h1 => ⟨by rw [← h1.len, sizeLine_eq]; omega, fun p n => k p H1 vs e1 n h1⟩⟩
theorem denL_rep {K : PySem.W.Frag} {H : Hp} {x : V} (h : Den K H d x) : ∀ m : Nat, DenL K H (List.replicate m d) (List.replicate m [x]).flatten
  | 0 => DenL.nil
  | m + 1 => by
    rw [List.replicate_succ, List.replicate_succ, List.flatten_cons]
    exact DenL.cons h (denL_rep h m)
/-- [a] * b -/
theorem fd_rep {n : Int} {p2 : Pos} (ha : ED X a Γ d) (hb : ED X b Γ (iD n)) (h1 : -(2 ^ 63) ≤ n) (h2 : n < 1000000) (hse : starEach (a :: []) X.env = (false, eval a X.env) :: starEach [] X.env := by rfl) : FD X (.BinOp (.List [a] p2) .Mult b pos) Γ (List.replicate n.toNat d) := by
  obtain ⟨t, p, q⟩ := ha
  obtain ⟨tb, pb, qb⟩ := hb
  refine ⟨_, pe_op op_rep (pe_lst (pa_cons p pa_nil hse)) pb, fun σ H C Q k => q σ H C _ fun v H1 e1 hv => ⟨(by show 1 ≤ sizeLine; rw [sizeLine_eq]; omega), fun l n1 => ?_⟩⟩
  have up : Ex H1 (upd H1 l (.lst [v])) := ex_up (Ex.refl H1) n1
  refine qb σ _ (C.mono (e1.trans up)) _ fun y H2 e2 h2' => ?_
  rw [den_v.mp h2']
  refine ⟨l, n, [v], rfl, rfl, e2 _ _ upd_same, h1, by omega, ?_, fun p np => k p H2 _ ((e1.trans up).trans e2) np (denL_rep (hv.mono (up.trans e2)) _)⟩
  rw [sizeLine_eq]
  show 1 * n.toNat ≤ _
  omega
/-- list(e) -/
theorem fd_list {p : Pos} (hm : X.mg "list" = none) (ha : ED X a Γ (.lst ds)) (hg : Gl X "list" := by rfl) (he : starEach (a :: []) X.env = (false, eval a X.env) :: starEach [] X.env := by rfl) (hpl : (backTo pos (starEach [] X.env)).any (·.1) = false := by rfl) : FD X (.Call (.Name "list" p) [a] [] pos) Γ ds := by
  obtain ⟨t, pp, q⟩ := ha
  refine ⟨_, pe_callTy (T := "list") call_list_of hg hm (by decide +kernel) (pa_cons pp pa_nil he) (by decide) (by decide) he hpl, fun σ H C Q k => q σ H C _ fun v H1 e1 h1 => ?_⟩
  simp only [Den] at h1
  obtain ⟨a, ys, rfl, h2, h3⟩ := h1
  exact ⟨a, ys, rfl, .inl (SqL.of h2), fun l n => k l H1 ys e1 n h3⟩
end
end Trk

namespace Trk
open PySem L2 Evl
/-! ### comprehensions -/
def allE (X : Cx) (e : Expr) : TE := fun σ H Q => ∀ (pins : List (Addr × Obj)) (s : Shared), Inv X pins σ H s → wpAny (model X.prog X.w) X.A (eval e X.env) (EP X pins σ Q) X.xe s
def blkE (X : Cx) (scope : Scope) (e : Expr) : TE := fun σ H Q => ∀ (s : Shared) (H0 : Hp) (C : Addr) (cl : List (Str × Addr)) (fp : List Addr), allE (X.blk s H0 scope (compEnvC scope cl C X.env) fp) e σ H Q
def BlkE (X : Cx) (scope : Scope) (e : Expr) (Γ : Gm) (d : D) : Prop := ∀ (s : Shared) (H0 : Hp) (C : Addr) (cl : List (Str × Addr)) (fp : List Addr), ED (X.blk s H0 scope (compEnvC scope cl C X.env) fp) e Γ d
theorem wo_upd {H : Hp} {a : Addr} {o : HO} : wo (upd H a o) [a] = wo H [a] := by
  funext b
  by_cases h : b = a
  · subst h
    rw [wo_in (by simp), wo_in (by simp)]
  · rw [wo_out (by simpa using h), wo_out (by simpa using h), upd_ne h]
theorem wo_back {H : Hp} {a : Addr} {o : HO} (h : H a = some o) : upd (wo H [a]) a o = H := by
  funext b
  by_cases hb : b = a
  · subst hb
    rw [upd_same, h]
  · rw [upd_ne hb, wo_out (by simpa using hb)]
theorem wo_grow {H H' : Hp} {a : Addr} (e : Ex H H') : Ex (wo H [a]) (wo H' [a]) := fun b o h => by
  by_cases hb : b = a
  · subst hb
    rw [wo_in (by simp)] at h
    cases h
  · rw [wo_out (by simpa using hb)] at h ⊢
    exact e b o h
theorem denL_snoc {K : PySem.W.Frag} {H : Hp} {d : D} {v : V} (hv : Den K H d v) : ∀ {ds : List D} {ys : List V}, DenL K H ds ys → DenL K H (ds ++ [d]) (ys ++ [v])
  | [], ys, h => by
    simp only [DenL] at h
    subst h
    exact DenL.cons hv DenL.nil
  | d0 :: ds, ys, h => by
    simp only [DenL] at h
    obtain ⟨z, zs, rfl, hz, hzs⟩ := h
    exact DenL.cons hz (denL_snoc hv hzs)
section
variable {X : Cx} {Γ : Gm} {d : D} {ds : List D} {e elt : Expr} {pos : Pos} {scope : Scope} {i : Nat} {x : Str}
/-- one turn -/
theorem lc_step {f : D} {dj : D} {w : V} {D0 : Addr} {H H1 H' : Hp} {σ : L2.St} {ys : List V} {gs : List D} {Qn : Hp → Prop} (C : Ctx X.K H Γ σ) (e1 : Ex H H1) (hN : X.N[i]? = some x) (he : BlkE X scope elt (Γ.set i (some dj)) f) (hf : flat f = true) (hw : Den X.K H' dj w)
    (h2 : H' D0 = some (.lst ys)) (h3 : DenL X.K (wo H' [D0]) gs ys) (h4 : Ex H1 (wo H' [D0])) (hl : ys.length < 1000000)
    (k : ∀ ys2 H4, H4 D0 = some (.lst ys2) → DenL X.K (wo H4 [D0]) (gs ++ [f]) ys2 → Ex H1 (wo H4 [D0]) → Qn H4) :
    gName i w (wipe σ [i]) H' fun σ2 H2 => wipe σ2 [i] = wipe σ [i] ∧ tYes σ2 H2 fun b H3 => if b = true then blkE X scope elt σ2 H3 fun y H4 => ∃ acc, H4 D0 = some (.lst acc) ∧ acc.length < sizeLine ∧ Qn (upd H4 D0 (.lst (acc ++ [y]))) else Qn H3 := by
  refine ⟨?_, ?_⟩
  · show ((σ.set i none).set i (some w)).set i none = σ.set i none
    rw [List.set_set, List.set_set]
  · show blkE X scope elt _ H' _
    intro s H0 Ca cl fp pins s' I
    obtain ⟨t, p, q⟩ := he s H0 Ca cl fp
    have hi : i < (wipe σ [i]).length := by
      have := I.len
      have h0 : i < X.N.length := (List.getElem?_eq_some_iff.mp hN).1
      rw [List.length_set] at this
      rw [this]
      exact h0
    have cx : Ctx X.K H' (Γ.set i (some dj)) ((wipe σ [i]).set i (some w)) := by
      have c0 : Ctx X.K H' (Γ.set i none) (wipe σ [i]) := ((C.mono e1).mono (h4.trans wo_ex)).unset
      have c1 := c0.set hi hw
      rw [List.set_set] at c1
      exact c1
    refine p.run pins s' _ H' _ I (q _ H' cx _ fun v H4 e4 hv => ?_)
    have h2' := e4 _ _ h2
    refine ⟨ys, h2', by rw [sizeLine_eq]; omega, k (ys ++ [v]) _ upd_same ?_ ?_⟩
    · rw [wo_upd]
      exact denL_snoc (hv.wo (fun b hb => by
        rw [List.mem_singleton.mp hb]
        exact ⟨ys, h2'⟩) hf) (h3.mono (wo_grow e4))
    · rw [wo_upd]
      exact h4.trans (wo_grow e4)
/-- [elt for x in range(n)] -/
theorem fd_lcR (i : Nat) {x : Str} {n : Nat} {f : Nat → D} {p p1 p2 : Pos} (hc : X.calm = true) {N ps0 : List Str} {sc0 : Scope} (S0 : FnScope N ps0 sc0) (hm : X.mg "range" = none) (ha : ED X e Γ (iD (n : Int))) (hn : n < 1000000) (he : ∀ j, j < n → BlkE X scope elt (Γ.set i (some (iD (j : Int)))) (f j)) (hf : ∀ j, j < n → flat (f j) = true)
    (hNN : X.N = N := by rfl) (hSS : X.env.scope = sc0 := by rfl) (hx : N[i]? = some x := by rfl) (o1 : scope.kind = .function := by rfl) (o2 : ∀ y ∈ scope.names, scope.names.lookup y.1 = some y.2 := by decide +kernel) (o4 : ∀ y ∈ scope.names, y.2 = .free → sc0.names.lookup y.1 = some .cell ∨ sc0.names.lookup y.1 = some .free := by decide +kernel)
    (o5 : ∀ y ∈ scope.names, y.2 = .local ∨ y.2 = .cell → y.1 ∈ [x] ∨ y.1 ∉ N := by decide +kernel) (o6 : ∀ cl C, (compEnvC scope cl C X.env).scope.names.lookup x = some .local := by intro _ _; rfl)
    (hg : Gl X "range" := by rfl) (he2 : starEach [e] X.env = [(false, eval e X.env)] := by rfl) (hse : starEach (e :: []) X.env = (false, eval e X.env) :: starEach [] X.env := by rfl)
    (hs : ∀ x, foldedSetIterable (.Call (.Name "range" p1) [e] [] p2) X.env x = pure x := by intro _; rfl) : FD X (.ListComp elt [⟨.Name x p, .Call (.Name "range" p1) [e] [] p2, [], 0⟩] scope pos) Γ ((List.range n).map f) := by
  subst hNN
  subst hSS
  have hN := S0.nd
  have ok : BlkOk X.N X.env.scope scope [(x, i)] := ⟨o1, o2, fun q hq => by rw [List.mem_singleton.mp hq]; exact hx, o4, o5⟩
  have hgn : ∀ (s : Shared) (H : Hp) (C : Addr) (cl : List (Str × Addr)) (fp : List Addr), PG (X.blk s H scope (compEnvC scope cl C X.env) fp) (.Name x p) (gName i) := fun s H C cl fp => pg_name (X := X.blk s H scope (compEnvC scope cl C X.env) fp) hN hx (.inl (o6 cl C)) (.inr (o6 cl C))
  obtain ⟨ta, pa, qa⟩ := ha
  refine ⟨_, pe_lc hc hN (pi_range1 hg hm (pa_cons pa pa_nil hse) he2) ok hgn (fun _ _ _ _ _ => pts_nil) (te := blkE X scope elt) (fun s H0 C cl fp => ⟨fun pins s' σ H Q I h => h s H0 C cl fp pins s' I⟩) hs, fun σ H C Q k => qa σ H C _ fun v H1 e1 h1 => ?_⟩
  refine ⟨(n : Int), by rw [den_v.mp h1], by omega, by omega, fun D0 nD => ?_⟩
  rw [Int.toNat_natCast]
  refine lc_range (lo := 0) (n := n) (fun j H' => ∃ ys, H' D0 = some (.lst ys) ∧ DenL X.K (wo H' [D0]) ((List.range j).map f) ys ∧ Ex H1 (wo H' [D0])) ⟨[], upd_same, DenL.nil, fun b o hb => ?_⟩ ?_ ?_
  · rw [wo_upd, wo_out (by simpa using ne_of_none hb nD)]
    exact hb
  · rintro j H' hj ⟨ys, h2, h3, h4⟩
    have hlen : ys.length = j := by rw [← h3.len]; simp
    rw [Int.zero_add]
    refine lc_step C e1 hx (he j hj) (hf j hj) (den_v.mpr rfl) h2 h3 h4 (by omega) fun ys2 H4 g1 g2 g3 => ⟨ys2, g1, ?_, g3⟩
    rw [List.range_succ, List.map_append]
    exact g2
  · rintro H' ⟨ys, h2, h3, h4⟩
    have q := k D0 (wo H' [D0]) ys (e1.trans h4) (wo_in (by simp)) h3
    rw [wo_back h2] at q
    exact q
/-- [elt for x in a list] -/
theorem fd_lcL (i : Nat) {x : Str} {f : Nat → D} {p : Pos} (hc : X.calm = true) {N ps0 : List Str} {sc0 : Scope} (S0 : FnScope N ps0 sc0) (ha : ED X e Γ (.lst ds)) (hn : ds.length < 1000000) (he : ∀ j dj, ds[j]? = some dj → BlkE X scope elt (Γ.set i (some dj)) (f j)) (hf : ∀ j, j < ds.length → flat (f j) = true)
    (hNN : X.N = N := by rfl) (hSS : X.env.scope = sc0 := by rfl) (hx : N[i]? = some x := by rfl) (o1 : scope.kind = .function := by rfl) (o2 : ∀ y ∈ scope.names, scope.names.lookup y.1 = some y.2 := by decide +kernel) (o4 : ∀ y ∈ scope.names, y.2 = .free → sc0.names.lookup y.1 = some .cell ∨ sc0.names.lookup y.1 = some .free := by decide +kernel)
    (o5 : ∀ y ∈ scope.names, y.2 = .local ∨ y.2 = .cell → y.1 ∈ [x] ∨ y.1 ∉ N := by decide +kernel) (o6 : ∀ cl C, (compEnvC scope cl C X.env).scope.names.lookup x = some .local := by intro _ _; rfl)
    (hpi : ∀ {t : TE}, PE X e t → PI X (.Name x p) e (iList X.K t) := by intro _ h; exact pi_list h)
    (hs : ∀ x, foldedSetIterable e X.env x = pure x := by intro _; rfl) : FD X (.ListComp elt [⟨.Name x p, e, [], 0⟩] scope pos) Γ ((List.range ds.length).map f) := by
  subst hNN
  subst hSS
  have hN := S0.nd
  have ok : BlkOk X.N X.env.scope scope [(x, i)] := ⟨o1, o2, fun q hq => by rw [List.mem_singleton.mp hq]; exact hx, o4, o5⟩
  have hgn : ∀ (s : Shared) (H : Hp) (C : Addr) (cl : List (Str × Addr)) (fp : List Addr), PG (X.blk s H scope (compEnvC scope cl C X.env) fp) (.Name x p) (gName i) := fun s H C cl fp => pg_name (X := X.blk s H scope (compEnvC scope cl C X.env) fp) hN hx (.inl (o6 cl C)) (.inr (o6 cl C))
  obtain ⟨ta, pa, qa⟩ := ha
  refine ⟨_, pe_lc hc hN (hpi pa) ok hgn (fun _ _ _ _ _ => pts_nil) (te := blkE X scope elt) (fun s H0 C cl fp => ⟨fun pins s' σ H Q I h => h s H0 C cl fp pins s' I⟩) hs, fun σ H C Q k => qa σ H C _ fun v H1 e1 h1 => ?_⟩
  simp only [Den] at h1
  obtain ⟨a, xs, rfl, hq, hL⟩ := h1
  refine ⟨a, rfl, ⟨xs, SqL.of hq⟩, fun D0 nD => ?_⟩
  have hxl := hL.len
  refine lc_list (K := X.K) (a := a) (xs := xs) (fun j H' => ∃ ys, H' D0 = some (.lst ys) ∧ DenL X.K (wo H' [D0]) ((List.range j).map f) ys ∧ Ex H1 (wo H' [D0])) ⟨[], upd_same, DenL.nil, fun b o hb => ?_⟩ (fun j H' _ ⟨ys, _, _, h4⟩ => SqL.of ((h4.trans wo_ex) _ _ hq)) ?_ ?_
  · rw [wo_upd, wo_out (by simpa using ne_of_none hb nD)]
    exact hb
  · rintro j y H' hj ⟨ys, h2, h3, h4⟩
    have hlen : ys.length = j := by rw [← h3.len]; simp
    have hj2 : j < ds.length := by rw [hxl]; exact (List.getElem?_eq_some_iff.mp hj).1
    obtain ⟨y2, hy2, hd2⟩ := hL.get (i := j) (d := ds[j]) (List.getElem?_eq_getElem hj2)
    rw [hj] at hy2
    cases hy2
    refine lc_step C e1 hx (he j ds[j] (List.getElem?_eq_getElem hj2)) (hf j hj2) (hd2.mono (h4.trans wo_ex)) h2 h3 h4 (by omega) fun ys2 H4 g1 g2 g3 => ⟨ys2, g1, ?_, g3⟩
    rw [List.range_succ, List.map_append]
    exact g2
  · rintro H' ⟨ys, h2, h3, h4⟩
    rw [← hxl] at h3
    have q := k D0 (wo H' [D0]) ys (e1.trans h4) (wo_in (by simp)) h3
    rw [wo_back h2] at q
    exact q
/-- [elt for x in a tuple] -/
theorem fd_lcT (i : Nat) {x : Str} {f : Nat → D} {p : Pos} (hc : X.calm = true) {N ps0 : List Str} {sc0 : Scope} (S0 : FnScope N ps0 sc0) (ha : ED X e Γ (.tup ds)) (hn : ds.length < 1000000) (he : ∀ j dj, ds[j]? = some dj → BlkE X scope elt (Γ.set i (some dj)) (f j)) (hf : ∀ j, j < ds.length → flat (f j) = true)
    (hNN : X.N = N := by rfl) (hSS : X.env.scope = sc0 := by rfl) (hx : N[i]? = some x := by rfl) (o1 : scope.kind = .function := by rfl) (o2 : ∀ y ∈ scope.names, scope.names.lookup y.1 = some y.2 := by decide +kernel) (o4 : ∀ y ∈ scope.names, y.2 = .free → sc0.names.lookup y.1 = some .cell ∨ sc0.names.lookup y.1 = some .free := by decide +kernel)
    (o5 : ∀ y ∈ scope.names, y.2 = .local ∨ y.2 = .cell → y.1 ∈ [x] ∨ y.1 ∉ N := by decide +kernel) (o6 : ∀ cl C, (compEnvC scope cl C X.env).scope.names.lookup x = some .local := by intro _ _; rfl)
    (hpi : ∀ {t : TE}, PE X e t → PI X (.Name x p) e (iTup X.K t) := by intro _ h; exact pi_tup h)
    (hs : ∀ x, foldedSetIterable e X.env x = pure x := by intro _; rfl) : FD X (.ListComp elt [⟨.Name x p, e, [], 0⟩] scope pos) Γ ((List.range ds.length).map f) := by
  subst hNN
  subst hSS
  have hN := S0.nd
  have ok : BlkOk X.N X.env.scope scope [(x, i)] := ⟨o1, o2, fun q hq => by rw [List.mem_singleton.mp hq]; exact hx, o4, o5⟩
  have hgn : ∀ (s : Shared) (H : Hp) (C : Addr) (cl : List (Str × Addr)) (fp : List Addr), PG (X.blk s H scope (compEnvC scope cl C X.env) fp) (.Name x p) (gName i) := fun s H C cl fp => pg_name (X := X.blk s H scope (compEnvC scope cl C X.env) fp) hN hx (.inl (o6 cl C)) (.inr (o6 cl C))
  obtain ⟨ta, pa, qa⟩ := ha
  refine ⟨_, pe_lc hc hN (hpi pa) ok hgn (fun _ _ _ _ _ => pts_nil) (te := blkE X scope elt) (fun s H0 C cl fp => ⟨fun pins s' σ H Q I h => h s H0 C cl fp pins s' I⟩) hs, fun σ H C Q k => qa σ H C _ fun v H1 e1 h1 => ?_⟩
  simp only [Den] at h1
  obtain ⟨a, xs, rfl, hq, hL⟩ := h1
  refine ⟨a, rfl, ⟨xs, hq⟩, fun D0 nD => ?_⟩
  have hxl := hL.len
  refine lc_tup (K := X.K) (a := a) (xs := xs) (fun j H' => ∃ ys, H' D0 = some (.lst ys) ∧ DenL X.K (wo H' [D0]) ((List.range j).map f) ys ∧ Ex H1 (wo H' [D0])) ⟨[], upd_same, DenL.nil, fun b o hb => ?_⟩ (fun j H' _ ⟨ys, _, _, h4⟩ => ex_t (h4.trans wo_ex) hq) ?_ ?_
  · rw [wo_upd, wo_out (by simpa using ne_of_none hb nD)]
    exact hb
  · rintro j y H' hj ⟨ys, h2, h3, h4⟩
    have hlen : ys.length = j := by rw [← h3.len]; simp
    have hj2 : j < ds.length := by rw [hxl]; exact (List.getElem?_eq_some_iff.mp hj).1
    obtain ⟨y2, hy2, hd2⟩ := hL.get (i := j) (d := ds[j]) (List.getElem?_eq_getElem hj2)
    rw [hj] at hy2
    cases hy2
    refine lc_step C e1 hx (he j ds[j] (List.getElem?_eq_getElem hj2)) (hf j hj2) (hd2.mono (h4.trans wo_ex)) h2 h3 h4 (by omega) fun ys2 H4 g1 g2 g3 => ⟨ys2, g1, ?_, g3⟩
    rw [List.range_succ, List.map_append]
    exact g2
  · rintro H' ⟨ys, h2, h3, h4⟩
    rw [← hxl] at h3
    have q := k D0 (wo H' [D0]) ys (e1.trans h4) (wo_in (by simp)) h3
    rw [wo_back h2] at q
    exact q
/-- x = a list of its own: what the statement does -/
def FS (X : Cx) (i : Nat) (st : Stmt) (Γ : Gm) (ds : List D) : Prop := ∃ t, PS X st (tAsg t (gName i)) ∧ ∀ σ H, Ctx X.K H Γ σ → ∀ Q : VK, (∀ p H1 ys, Ex H H1 → H1 p = none → DenL X.K H1 ds ys → Q (.ref p) (upd H1 p (.lst ys))) → t σ H Q
theorem FD.fs (h : FD X e Γ ds) {x : Str} {pos' : Pos} (hd : X.N.Nodup) (hN : X.N[i]? = some x := by rfl) (hx : Loc X.env.scope x := by first | exact Or.inl rfl | exact Or.inr rfl)
    (hs : swapsWith e (some (.Name x pos')) pos.line X.env = pure false := by rfl) (hf2 : X.fn x = true ∨ X.env.scope.names.lookup x = some .local := by first | exact .inl rfl | exact .inr rfl) : FS X i (.Assign [.Name x pos'] e pos) Γ ds := by
  obtain ⟨t, p, q⟩ := h
  exact ⟨t, ps_set (i := i) hd hN hx p hs hf2, q⟩
theorem fs_lcR (i n0 : Nat) {x y0 : Str} {py spos : Pos} {n : Nat} {f : Nat → D} {p p1 p2 : Pos} (hc : X.calm = true) {N ps0 : List Str} {sc0 : Scope} (S0 : FnScope N ps0 sc0) (hm : X.mg "range" = none) (ha : ED X e Γ (iD (n : Int))) (hn : n < 1000000) (he : ∀ j, j < n → BlkE X scope elt (Γ.set i (some (iD (j : Int)))) (f j)) (hf : ∀ j, j < n → flat (f j) = true)
    (hNN : X.N = N := by rfl) (hSS : X.env.scope = sc0 := by rfl) (hx : N[i]? = some x := by rfl) (o1 : scope.kind = .function := by rfl) (o2 : ∀ y ∈ scope.names, scope.names.lookup y.1 = some y.2 := by decide +kernel) (o4 : ∀ y ∈ scope.names, y.2 = .free → sc0.names.lookup y.1 = some .cell ∨ sc0.names.lookup y.1 = some .free := by decide +kernel)
    (o5 : ∀ y ∈ scope.names, y.2 = .local ∨ y.2 = .cell → y.1 ∈ [x] ∨ y.1 ∉ N := by decide +kernel) (o6 : ∀ cl C, (compEnvC scope cl C X.env).scope.names.lookup x = some .local := by intro _ _; rfl)
    (hg : Gl X "range" := by rfl) (he2 : starEach [e] X.env = [(false, eval e X.env)] := by rfl) (hse : starEach (e :: []) X.env = (false, eval e X.env) :: starEach [] X.env := by rfl)
    (hs : ∀ x, foldedSetIterable (.Call (.Name "range" p1) [e] [] p2) X.env x = pure x := by intro _; rfl) 
    (hy0 : N[n0]? = some y0 := by rfl) (hyl : X.env.scope.names.lookup y0 = some .local := by rfl) (hsw : swapsWith (.ListComp elt [⟨.Name x p, .Call (.Name "range" p1) [e] [] p2, [], 0⟩] scope pos) (some (.Name y0 py)) spos.line X.env = pure true := by rfl) : FS X n0 (.Assign [.Name y0 py] (.ListComp elt [⟨.Name x p, .Call (.Name "range" p1) [e] [] p2, [], 0⟩] scope pos) spos) Γ ((List.range n).map f) := by
  subst hNN
  subst hSS
  have hN := S0.nd
  have ok : BlkOk X.N X.env.scope scope [(x, i)] := ⟨o1, o2, fun q hq => by rw [List.mem_singleton.mp hq]; exact hx, o4, o5⟩
  have hgn : ∀ (s : Shared) (H : Hp) (C : Addr) (cl : List (Str × Addr)) (fp : List Addr), PG (X.blk s H scope (compEnvC scope cl C X.env) fp) (.Name x p) (gName i) := fun s H C cl fp => pg_name (X := X.blk s H scope (compEnvC scope cl C X.env) fp) hN hx (.inl (o6 cl C)) (.inr (o6 cl C))
  obtain ⟨ta, pa, qa⟩ := ha
  refine ⟨_, ps_setLc hc hN hy0 hyl hsw (pi_range1 hg hm (pa_cons pa pa_nil hse) he2) ok hgn (fun _ _ _ _ _ => pts_nil) (te := blkE X scope elt) (fun s H0 C cl fp => ⟨fun pins s' σ H Q I h => h s H0 C cl fp pins s' I⟩) hs, fun σ H C Q k => qa σ H C _ fun v H1 e1 h1 => ?_⟩
  refine ⟨(n : Int), by rw [den_v.mp h1], by omega, by omega, fun D0 nD => ?_⟩
  rw [Int.toNat_natCast]
  refine lc_range (lo := 0) (n := n) (fun j H' => ∃ ys, H' D0 = some (.lst ys) ∧ DenL X.K (wo H' [D0]) ((List.range j).map f) ys ∧ Ex H1 (wo H' [D0])) ⟨[], upd_same, DenL.nil, fun b o hb => ?_⟩ ?_ ?_
  · rw [wo_upd, wo_out (by simpa using ne_of_none hb nD)]
    exact hb
  · rintro j H' hj ⟨ys, h2, h3, h4⟩
    have hlen : ys.length = j := by rw [← h3.len]; simp
    rw [Int.zero_add]
    refine lc_step C e1 hx (he j hj) (hf j hj) (den_v.mpr rfl) h2 h3 h4 (by omega) fun ys2 H4 g1 g2 g3 => ⟨ys2, g1, ?_, g3⟩
    rw [List.range_succ, List.map_append]
    exact g2
  · rintro H' ⟨ys, h2, h3, h4⟩
    have q := k D0 (wo H' [D0]) ys (e1.trans h4) (wo_in (by simp)) h3
    rw [wo_back h2] at q
    exact q
theorem fs_lcL (i n0 : Nat) {x y0 : Str} {py spos : Pos} {f : Nat → D} {p : Pos} (hc : X.calm = true) {N ps0 : List Str} {sc0 : Scope} (S0 : FnScope N ps0 sc0) (ha : ED X e Γ (.lst ds)) (hn : ds.length < 1000000) (he : ∀ j dj, ds[j]? = some dj → BlkE X scope elt (Γ.set i (some dj)) (f j)) (hf : ∀ j, j < ds.length → flat (f j) = true)
    (hNN : X.N = N := by rfl) (hSS : X.env.scope = sc0 := by rfl) (hx : N[i]? = some x := by rfl) (o1 : scope.kind = .function := by rfl) (o2 : ∀ y ∈ scope.names, scope.names.lookup y.1 = some y.2 := by decide +kernel) (o4 : ∀ y ∈ scope.names, y.2 = .free → sc0.names.lookup y.1 = some .cell ∨ sc0.names.lookup y.1 = some .free := by decide +kernel)
    (o5 : ∀ y ∈ scope.names, y.2 = .local ∨ y.2 = .cell → y.1 ∈ [x] ∨ y.1 ∉ N := by decide +kernel) (o6 : ∀ cl C, (compEnvC scope cl C X.env).scope.names.lookup x = some .local := by intro _ _; rfl)
    (hpi : ∀ {t : TE}, PE X e t → PI X (.Name x p) e (iList X.K t) := by intro _ h; exact pi_list h)
    (hs : ∀ x, foldedSetIterable e X.env x = pure x := by intro _; rfl) 
    (hy0 : N[n0]? = some y0 := by rfl) (hyl : X.env.scope.names.lookup y0 = some .local := by rfl) (hsw : swapsWith (.ListComp elt [⟨.Name x p, e, [], 0⟩] scope pos) (some (.Name y0 py)) spos.line X.env = pure true := by rfl) : FS X n0 (.Assign [.Name y0 py] (.ListComp elt [⟨.Name x p, e, [], 0⟩] scope pos) spos) Γ ((List.range ds.length).map f) := by
  subst hNN
  subst hSS
  have hN := S0.nd
  have ok : BlkOk X.N X.env.scope scope [(x, i)] := ⟨o1, o2, fun q hq => by rw [List.mem_singleton.mp hq]; exact hx, o4, o5⟩
  have hgn : ∀ (s : Shared) (H : Hp) (C : Addr) (cl : List (Str × Addr)) (fp : List Addr), PG (X.blk s H scope (compEnvC scope cl C X.env) fp) (.Name x p) (gName i) := fun s H C cl fp => pg_name (X := X.blk s H scope (compEnvC scope cl C X.env) fp) hN hx (.inl (o6 cl C)) (.inr (o6 cl C))
  obtain ⟨ta, pa, qa⟩ := ha
  refine ⟨_, ps_setLc hc hN hy0 hyl hsw (hpi pa) ok hgn (fun _ _ _ _ _ => pts_nil) (te := blkE X scope elt) (fun s H0 C cl fp => ⟨fun pins s' σ H Q I h => h s H0 C cl fp pins s' I⟩) hs, fun σ H C Q k => qa σ H C _ fun v H1 e1 h1 => ?_⟩
  simp only [Den] at h1
  obtain ⟨a, xs, rfl, hq, hL⟩ := h1
  refine ⟨a, rfl, ⟨xs, SqL.of hq⟩, fun D0 nD => ?_⟩
  have hxl := hL.len
  refine lc_list (K := X.K) (a := a) (xs := xs) (fun j H' => ∃ ys, H' D0 = some (.lst ys) ∧ DenL X.K (wo H' [D0]) ((List.range j).map f) ys ∧ Ex H1 (wo H' [D0])) ⟨[], upd_same, DenL.nil, fun b o hb => ?_⟩ (fun j H' _ ⟨ys, _, _, h4⟩ => SqL.of ((h4.trans wo_ex) _ _ hq)) ?_ ?_
  · rw [wo_upd, wo_out (by simpa using ne_of_none hb nD)]
    exact hb
  · rintro j y H' hj ⟨ys, h2, h3, h4⟩
    have hlen : ys.length = j := by rw [← h3.len]; simp
    have hj2 : j < ds.length := by rw [hxl]; exact (List.getElem?_eq_some_iff.mp hj).1
    obtain ⟨y2, hy2, hd2⟩ := hL.get (i := j) (d := ds[j]) (List.getElem?_eq_getElem hj2)
    rw [hj] at hy2
    cases hy2
    refine lc_step C e1 hx (he j ds[j] (List.getElem?_eq_getElem hj2)) (hf j hj2) (hd2.mono (h4.trans wo_ex)) h2 h3 h4 (by omega) fun ys2 H4 g1 g2 g3 => ⟨ys2, g1, ?_, g3⟩
    rw [List.range_succ, List.map_append]
    exact g2
  · rintro H' ⟨ys, h2, h3, h4⟩
    rw [← hxl] at h3
    have q := k D0 (wo H' [D0]) ys (e1.trans h4) (wo_in (by simp)) h3
    rw [wo_back h2] at q
    exact q
theorem fs_lcT (i n0 : Nat) {x y0 : Str} {py spos : Pos} {f : Nat → D} {p : Pos} (hc : X.calm = true) {N ps0 : List Str} {sc0 : Scope} (S0 : FnScope N ps0 sc0) (ha : ED X e Γ (.tup ds)) (hn : ds.length < 1000000) (he : ∀ j dj, ds[j]? = some dj → BlkE X scope elt (Γ.set i (some dj)) (f j)) (hf : ∀ j, j < ds.length → flat (f j) = true)
    (hNN : X.N = N := by rfl) (hSS : X.env.scope = sc0 := by rfl) (hx : N[i]? = some x := by rfl) (o1 : scope.kind = .function := by rfl) (o2 : ∀ y ∈ scope.names, scope.names.lookup y.1 = some y.2 := by decide +kernel) (o4 : ∀ y ∈ scope.names, y.2 = .free → sc0.names.lookup y.1 = some .cell ∨ sc0.names.lookup y.1 = some .free := by decide +kernel)
    (o5 : ∀ y ∈ scope.names, y.2 = .local ∨ y.2 = .cell → y.1 ∈ [x] ∨ y.1 ∉ N := by decide +kernel) (o6 : ∀ cl C, (compEnvC scope cl C X.env).scope.names.lookup x = some .local := by intro _ _; rfl)
    (hpi : ∀ {t : TE}, PE X e t → PI X (.Name x p) e (iTup X.K t) := by intro _ h; exact pi_tup h)
    (hs : ∀ x, foldedSetIterable e X.env x = pure x := by intro _; rfl) 
    (hy0 : N[n0]? = some y0 := by rfl) (hyl : X.env.scope.names.lookup y0 = some .local := by rfl) (hsw : swapsWith (.ListComp elt [⟨.Name x p, e, [], 0⟩] scope pos) (some (.Name y0 py)) spos.line X.env = pure true := by rfl) : FS X n0 (.Assign [.Name y0 py] (.ListComp elt [⟨.Name x p, e, [], 0⟩] scope pos) spos) Γ ((List.range ds.length).map f) := by
  subst hNN
  subst hSS
  have hN := S0.nd
  have ok : BlkOk X.N X.env.scope scope [(x, i)] := ⟨o1, o2, fun q hq => by rw [List.mem_singleton.mp hq]; exact hx, o4, o5⟩
  have hgn : ∀ (s : Shared) (H : Hp) (C : Addr) (cl : List (Str × Addr)) (fp : List Addr), PG (X.blk s H scope (compEnvC scope cl C X.env) fp) (.Name x p) (gName i) := fun s H C cl fp => pg_name (X := X.blk s H scope (compEnvC scope cl C X.env) fp) hN hx (.inl (o6 cl C)) (.inr (o6 cl C))
  obtain ⟨ta, pa, qa⟩ := ha
  refine ⟨_, ps_setLc hc hN hy0 hyl hsw (hpi pa) ok hgn (fun _ _ _ _ _ => pts_nil) (te := blkE X scope elt) (fun s H0 C cl fp => ⟨fun pins s' σ H Q I h => h s H0 C cl fp pins s' I⟩) hs, fun σ H C Q k => qa σ H C _ fun v H1 e1 h1 => ?_⟩
  simp only [Den] at h1
  obtain ⟨a, xs, rfl, hq, hL⟩ := h1
  refine ⟨a, rfl, ⟨xs, hq⟩, fun D0 nD => ?_⟩
  have hxl := hL.len
  refine lc_tup (K := X.K) (a := a) (xs := xs) (fun j H' => ∃ ys, H' D0 = some (.lst ys) ∧ DenL X.K (wo H' [D0]) ((List.range j).map f) ys ∧ Ex H1 (wo H' [D0])) ⟨[], upd_same, DenL.nil, fun b o hb => ?_⟩ (fun j H' _ ⟨ys, _, _, h4⟩ => ex_t (h4.trans wo_ex) hq) ?_ ?_
  · rw [wo_upd, wo_out (by simpa using ne_of_none hb nD)]
    exact hb
  · rintro j y H' hj ⟨ys, h2, h3, h4⟩
    have hlen : ys.length = j := by rw [← h3.len]; simp
    have hj2 : j < ds.length := by rw [hxl]; exact (List.getElem?_eq_some_iff.mp hj).1
    obtain ⟨y2, hy2, hd2⟩ := hL.get (i := j) (d := ds[j]) (List.getElem?_eq_getElem hj2)
    rw [hj] at hy2
    cases hy2
    refine lc_step C e1 hx (he j ds[j] (List.getElem?_eq_getElem hj2)) (hf j hj2) (hd2.mono (h4.trans wo_ex)) h2 h3 h4 (by omega) fun ys2 H4 g1 g2 g3 => ⟨ys2, g1, ?_, g3⟩
    rw [List.range_succ, List.map_append]
    exact g2
  · rintro H' ⟨ys, h2, h3, h4⟩
    rw [← hxl] at h3
    have q := k D0 (wo H' [D0]) ys (e1.trans h4) (wo_in (by simp)) h3
    rw [wo_back h2] at q
    exact q
end
end Trk

namespace Trk
open PySem L2 Evl
/-! ### len(o), o[n], o.f, o(x) by own methods -/
section
open PySem.Calls PyProof.Rows
/-- a plain object as the callee: only that it still stands is asked when the arguments are there -/
theorem callW {M : Model} {A : Around} {E : Value → Shared → Prop} {s : Shared} {p : Pos} {x : Addr} {hd : List Value} {Q : Value → Shared → Prop} {ar : List (Bool × Sem Value)} {kw : List (Option Str × Sem Value)} (np : (ar.any (·.1) || kw.any (·.1.isNone)) = false)
    (run : wpAny M A (evalArgs (.ref x) true ar kw) (fun g s1 => (∃ o, s1.heap.get? x = some o ∧ o.data = .plain) ∧ wpAny M A (call (.ref x) (hd ++ g.pos) g.kw) Q E s1) E s) : wpAny M A (callWith p (.ref x) hd ar kw) Q E s := by
  unfold callWith
  refine wpAny_bind (wpAny_holding (wpAny_mono run (fun g s1 got => ?_) fun _ _ z => z))
  obtain ⟨⟨o, ho, pd⟩, go⟩ := got
  have keeper : PySem.W.Looks M s1.heap (keeperOf (.ref x)) .caller := by
    refine (PySem.W.Looks.ld (part := none) ho).andThen ?_
    simp only [pd]
    exact .now
  refine wpAny_bind (wpAny_standAt ?_)
  simp only [np]
  refine wpAny_bind (keeper.here ?_)
  refine wpAny_bind (wpAny_mono (wpAny_operateT go) (fun r s2 fin => ?_) fun _ _ z => z)
  exact wpAny_bind (wpAny_holding (wpAny_point (wpAny_pure fin)))
end
section
variable {X : Cx} {Γ : Gm} {d d1 d2 : D} {ds : List D} {a b c e : Expr} {es : List Expr} {pos : Pos} {C f : Addr} {fs : List (Str × D)} {CX : CXT} {k : Nat} {fd : FuncData} {ps : List Str} {E : XK} {R : List D → D → Prop} {sts body : List Stmt} {Φ : Out → Prop}
theorem den_obj {K : PySem.W.Frag} {H : Hp} {v : V} (h : Den K H (.obj C fs) v) : ∃ a dx gs, v = .ref a ∧ H a = some (.ins C dx gs) ∧ DenF K H fs gs := by
  simp only [Den] at h
  exact h
theorem ed_lenO {n : Int} {p : Pos} (M : CmpM X.K C "__len__" f) (F : FnOk X.prog X.w X.K X.mg X.base CX k f fd ps (spD X.K 1 R)) (hr : Room (k + 1) X.A) (hb : Binds X.K fd ps []) (hx : Passes CX X E) (hm : X.mg "len" = none) (ha : ED X a Γ (.obj C fs)) (hR : R [.obj C fs] (iD n)) (h0 : 0 ≤ n) (h1 : n < 2 ^ 63)
    (hg : Gl X "len" := by rfl) (he : starEach (a :: []) X.env = (false, eval a X.env) :: starEach [] X.env := by rfl) (hpl : (backTo pos (starEach [] X.env)).any (·.1) = false := by rfl) : ED X (.Call (.Name "len" p) [a] [] pos) Γ (iD n) := by
  have hcall : CallR X (.builtin "len") (fun xs H Q => ∃ a dx gs, xs = [.ref a] ∧ H a = some (.ins C dx gs) ∧ spD X.K 1 R xs H (fun v H' => v = .int n ∧ Q v H') E) := by
    intro pins s σ H xs us Q I r h
    obtain ⟨a, dx, gs, rfl, ha, hsp⟩ := h
    obtain ⟨w1, rfl, rx⟩ := vals1 r
    cases rx
    obtain ⟨mA, J, _⟩ := ins_get I.hok ha
    obtain ⟨od, J, _⟩ := J.look
    obtain ⟨m, hF⟩ := I.fr
    refine PySem.W.len_K hF I.ok.mod.kin J M.find M.fn (thn (run_in F hr.in1 I.env0.in1 hb hx I (vals_r a) hsp) fun z s' hz => ?_)
    obtain ⟨v, H', I', rv, ev, q⟩ := hz
    subst ev
    obtain ⟨t, rfl⟩ := rv
    exact ⟨⟨h0, h1⟩, V.int n, H', I'.tok _, ⟨_, rfl⟩, q⟩
  refine ed_callB (d := iD n) hcall hm PySem.boot_len (ad_cons ha ad_nil he) (fun xs H hxs Q q => ?_) hg (by decide) (by decide) he hpl
  have hx' := hxs
  obtain ⟨x, rfl, hx1⟩ := denL_one hxs
  obtain ⟨a, dx, gs, rfl, h, _⟩ := den_obj hx1
  exact ⟨a, dx, gs, rfl, h, _, _, rfl, hx', hR, fun v H' e hv => ⟨den_v.mp hv, q v H' e hv⟩⟩
theorem ed_subO {n : Int} (M : CmpM X.K C "__getitem__" f) (hfn : PySem.W.fnIn X.K f = true) (F : FnOk X.prog X.w X.K X.mg X.base CX k f fd ps (spD X.K 2 R)) (hr : Room (k + 1) X.A) (hb : Binds X.K fd ps []) (hx : Passes CX X E) (ha : ED X a Γ (.obj C fs)) (hB : ED X b Γ (iD n)) (hR : R [.obj C fs, iD n] d)
    (hsl : ∀ x i, subscripted b true (.ref x) i = runValue (.builtin "lifetime.subscript" ⟨[.ref x, i], []⟩) := by intro _ _; with_unfolding_all rfl) (hs : PlainIx b := by exact fun _ _ => rfl) : ED X (.Subscript a b pos) Γ d := by
  obtain ⟨ta, pa, qa⟩ := ha
  obtain ⟨tb, pb, qb⟩ := hB
  refine ⟨tOp (fun x y H2 Q => ∃ a dx gs, x = .ref a ∧ y = .int n ∧ H2 a = some (.ins C dx gs) ∧ spD X.K 2 R [x, y] H2 Q E) ta tb, ⟨fun pins s σ H Q I h => ?_⟩, fun σ H Cc Q q => qa σ H Cc _ fun x H1 e1 h1 => qb σ H1 (Cc.mono e1) _ fun y H2 e2 h2 => ?_⟩
  · refine PyProof.Rows.Subscript_ (binT pa pb I h fun v u s2 x y H2 I2 rx ry g => ?_)
    obtain ⟨a, dx, gs, rfl, rfl, ha2, hsp⟩ := g
    obtain rfl : v = Value.ref a := rx
    obtain ⟨t, rfl⟩ := ry
    obtain ⟨mA, J, _⟩ := ins_get I2.hok ha2
    obtain ⟨od, J, _⟩ := J.look
    obtain ⟨m, hF⟩ := I2.fr
    exact PySem.W.sub_K hF I2.ok.mod.kin J M.find hfn M.fn (run_in F hr.in1 I2.env0.in1 hb hx I2 (vals_ri a n t) hsp) (hsl _ _)
  · have h1' := h1.mono e2
    obtain ⟨a, dx, gs, rfl, g, _⟩ := den_obj h1'
    exact ⟨a, dx, gs, rfl, den_v.mp h2, g, _, d, rfl, DenL.cons h1' (DenL.cons h2 DenL.nil), hR, fun v H' e3 h3 => q v H' ((e1.trans e2).trans e3) h3⟩
/-- o.f, a property -/
theorem ed_propO {pn : Str} {pp : Addr} {p : Pos} (c : Cls X.K C) (hp : PropOf X.K C pn pp f) (F : FnOk X.prog X.w X.K X.mg X.base CX k f fd ps (spD X.K 1 R)) (hr : Room (k + 1) X.A) (hb : Binds X.K fd ps []) (hx : Passes CX X.nox E) (ha : ED X a Γ (.obj C fs)) (hR : R [.obj C fs] d)
    (hab : attributeBase a pn X.env (eval a X.env) = eval a X.env := by rfl) : ED X (.Attribute a pn p) Γ d := by
  obtain ⟨t, pp2, q⟩ := ha
  refine ⟨_, pe_prop pp2 c hp F hr hb .nil hx hab, fun σ H Cc Q k => q σ H Cc _ fun x H1 e1 h1 => ?_⟩
  obtain ⟨a, dx, gs, rfl, g, _⟩ := den_obj h1
  exact ⟨a, dx, gs, rfl, g, _, d, rfl, DenL.cons h1 DenL.nil, hR, fun v H' e2 h2 => k v H' (e1.trans e2) h2⟩
/-- o(x), o a local name -/
theorem ed_callO (i : Nat) {x : Str} {p : Pos} (M : CmpM X.K C "__call__" f) (hfn : PySem.W.fnIn X.K f = true) (F : FnOk X.prog X.w X.K X.mg X.base CX k f fd ps (spD X.K 2 R)) (hr : Room k X.A) (hb : Binds X.K fd ps []) (hx : Passes CX X E) (ho : Γ[i]? = some (some (.obj C fs))) (ha : ED X e Γ d1) (hR : R [.obj C fs, d1] d)
    (hN : X.N[i]? = some x := by rfl) (hv : Vis X.env.scope x := by first | exact Or.inl rfl | exact Or.inr (Or.inl rfl) | exact Or.inr (Or.inr rfl)) (hd : (x == ("__debug__" : Str)) = false := by decide) (hcd : (x == ("__classdict__" : Str)) = false := by decide)
    (he : starEach (e :: []) X.env = (false, eval e X.env) :: starEach [] X.env := by rfl) (hpl : (backTo pos (starEach [] X.env)).any (·.1) = false := by rfl) : ED X (.Call (.Name x p) [e] [] pos) Γ d := by
  obtain ⟨t, pa, q⟩ := ha
  have po : PE X (.Name x p) (tVar i) := pe_var hN hv hd hcd
  refine ⟨fun σ H Q => ∃ a dx gs, σ[i]? = some (some (.ref a)) ∧ H a = some (.ins C dx gs) ∧ tCons t tNil σ H fun vs H1 => ∃ y, vs = [y] ∧ H1 a = some (.ins C dx gs) ∧ spD X.K 2 R [.ref a, y] H1 Q E, ⟨fun pins s σ H Q I h => ?_⟩, fun σ H Cc Q k => ?_⟩
  · obtain ⟨a, dx, gs, hs, ha0, h⟩ := h
    refine wpAny_Call_Name_kw (thn (po.run pins s σ H (fun v H' => v = .ref a ∧ H' = H) I ⟨.ref a, hs, rfl, rfl⟩) fun u s1 g => ?_)
    obtain ⟨v, H0, I0, rv, ev, eH⟩ := g
    subst ev eH
    obtain rfl : u = Value.ref a := rv
    obtain ⟨mA, J, _⟩ := ins_get I0.hok ha0
    obtain ⟨od, J, _⟩ := J.look
    have pl : PA X [e] (tCons t tNil) := pa_cons pa pa_nil he
    have run1 := pl.run pos pins s1 σ H0 _ I0 h
    rw [he] at run1 ⊢
    refine callW (by show ((false || (backTo pos (starEach [] X.env)).any (·.1)) || false) = false; rw [hpl]; rfl) (PySem.Calls.evalArgs_plain (thn run1 fun us s2 g => ?_))
    obtain ⟨vs, H1, I1, r, y, rfl, hq, hsp⟩ := g
    obtain ⟨w1, rfl, ry⟩ := vals1 r
    obtain ⟨mA2, J2, _⟩ := ins_get I1.hok hq
    obtain ⟨od2, J2, _⟩ := J2.look
    refine ⟨⟨_, J2.at_, rfl⟩, ?_⟩
    · have rel : Vals [V.ref a, y] [Value.ref a, w1] := .cons (show RelV (V.ref a) (Value.ref a) from rfl) (.cons ry .nil)
      have len : ([Value.ref a, w1] ++ []).length = ps.length := by
        rw [List.append_nil, ← rel.length]
        exact F.len _ _ _ _ hsp
      have bound := hb s2 [Value.ref a, w1] I1.kIn len
      rw [List.append_nil] at bound
      refine wpAny_call (PySem.W.kco_code I1.kIn J2 rfl M.find M.fn hfn (codeAny_mono (F.run X.A X.stack s2 H1 ⟨[Value.ref a, w1], []⟩ _ _ Q E hr I1.env0 bound rel hsp) fun res s' out => ?_))
      rcases res with err | fl
      · exact hx pins σ H1 s2 err s' I1 out
      · cases fl with
        | ret u => exact I1.after out
        | next => exact out.elim
        | brk => exact out.elim
        | cont => exact out.elim
  · obtain ⟨v, h1, h2⟩ := Cc i _ ho
    obtain ⟨a, dx, gs, rfl, g, _⟩ := den_obj h2
    refine ⟨a, dx, gs, h1, g, q σ H Cc _ fun y H1 e1 hy => ⟨y, rfl, e1 _ _ g, _, d, rfl, DenL.cons (h2.mono e1) (DenL.cons hy DenL.nil), hR, fun w H' e2 hw => k w H' (e1.trans e2) hw⟩⟩
/-- o.m(e) -/
theorem ed_meth {pl : Sem Bool} {o : Expr} {m : Str} {apos : Pos} (ho : ED X o Γ (.obj C fs)) (hl : ∀ {H gs}, DenF X.K H fs gs → gs.lookup m = none) (c : Cls X.K C) (hm : Meth X.K C m f) (F : FnOk X.prog X.w X.K X.mg X.base CX k f fd ps (spD X.K 2 R)) (hr : Room k X.A) (hb : Binds X.K fd ps []) (hx : Passes CX X E)
    (ha : ED X e Γ d1) (hR : R [.obj C fs, d1] d) (hst : starEach (e :: []) X.env = (false, eval e X.env) :: starEach [] X.env := by rfl) (hpl : (backTo pos (starEach [] X.env)).any (·.1) = false := by rfl)
    (ht : eval (.Call (.Attribute o m apos) [e] [] pos) X.env = (do
      let ov ← eval o X.env
      standAt apos.atName
      let (f, first) ← holding [ov] (getMethod ov m pl)
      callWith pos f first (backTo pos (starEach [e] X.env)) (backToKw pos (keywordEach [] X.env))) := by rfl) : ED X (.Call (.Attribute o m apos) [e] [] pos) Γ d := by
  obtain ⟨to, po, qo⟩ := ho
  obtain ⟨t, p, q⟩ := ha
  refine ⟨_, pe_meth po c hm F hr hb .nil hx (pa_cons p pa_nil hst) hst hpl ht, fun σ H Cc Q r => qo σ H Cc _ fun x H1 e1 h1 => ?_⟩
  obtain ⟨a, dx, gs, rfl, g, hF⟩ := den_obj h1
  refine ⟨a, dx, gs, rfl, g, hl hF, q σ H1 (Cc.mono e1) _ fun y H2 e2 h2 => ⟨_, d, rfl, DenL.cons (h1.mono e2) (DenL.cons h2 DenL.nil), hR, fun v H' e3 h3 => r v H' ((e1.trans e2).trans e3) h3⟩⟩
end
end Trk

namespace Trk
open PySem L2 Evl
section
variable {X : Cx} {Γ : Gm} {Ω : Om} {d d1 d2 : D} {ds : List D} {a b c e : Expr} {es : List Expr} {pos : Pos} {C f : Addr} {fs : List (Str × D)} {CX : CXT} {k : Nat} {fd : FuncData} {ps : List Str} {E : XK} {R : List D → D → Prop} {st : Stmt} {sts body l1 l2 : List Stmt} {Φ Ψ : Out → Prop}
/-! ### truth of a list, of an object with own __bool__ -/
theorem td_lst (ha : ED X a Γ (.lst ds)) (he : ∀ whole, isTrue a X.env whole = (do let v ← whole; standAt a.pos; holding [v] (truthy v)) := by intro _; rfl) : TD X a Γ (!ds.isEmpty) := by
  obtain ⟨t, p, q⟩ := ha
  refine ⟨_, pt_truth p he, fun σ H Cc Q r => q σ H Cc _ fun v H1 e1 h1 => ?_⟩
  simp only [Den] at h1
  obtain ⟨a, ys, rfl, h2, h3⟩ := h1
  refine ⟨_, .inl ⟨ys, SqL.of h2, ?_⟩, r H1 e1⟩
  cases ds with
  | nil =>
    simp only [DenL] at h3
    subst h3
    rfl
  | cons d0 ds =>
    simp only [DenL] at h3
    obtain ⟨z, zs, rfl, _⟩ := h3
    rfl
theorem td_lstT (ha : ED X a Γ (.lst ds)) (hne : ds ≠ []) (he : ∀ whole, isTrue a X.env whole = (do let v ← whole; standAt a.pos; holding [v] (truthy v)) := by intro _; rfl) : TD X a Γ true := by
  have h := td_lst ha he
  rw [show (!ds.isEmpty) = true by cases ds with
    | nil => exact absurd rfl hne
    | cons _ _ => rfl] at h
  exact h
theorem td_boolN {p : Rat} {u : Rat → Bool} (M : CmpM X.K C "__bool__" f) (F : FnOk X.prog X.w X.K X.mg X.base CX k f fd ps (spD X.K 1 (R_un C fun q => bD (u q)))) (hr : Room k X.A) (hb : Binds X.K fd ps []) (hx : Passes CX X E) (ha : ED X a Γ (fr C p)) (hp : Sz 4000 p)
    (he : ∀ whole, isTrue a X.env whole = (do let v ← whole; standAt a.pos; holding [v] (truthy v)) := by intro _; rfl) : TD X a Γ (u p) := by
  obtain ⟨t, pp, q⟩ := ha
  have tr : TruR X (fun x H Q => ∃ a dx fs, x = .ref a ∧ H a = some (.ins C dx fs) ∧ spD X.K 1 (R_un C fun q => bD (u q)) [x] H (fun v H' => v = .bl (u p) ∧ Q (u p) H') E) := by
    intro pins s σ H x v Q I rx h
    obtain ⟨a, dx, fs, rfl, ha, hsp⟩ := h
    obtain rfl : v = Value.ref a := rx
    obtain ⟨mA, J, _⟩ := ins_get I.hok ha
    obtain ⟨od, J, _⟩ := J.look
    obtain ⟨m, hF⟩ := I.fr
    refine PySem.W.truthy_K hF I.ok.mod.kin J M.find M.fn (thn (run_in F hr I.env0 hb hx I (vals_r a) hsp) fun z s' hz => ?_)
    obtain ⟨v, H', I', rv, ev, q⟩ := hz
    subst ev
    cases rv
    exact ⟨H', I', q⟩
  refine ⟨_, pt_truthR pp tr he, fun σ H Cc Q r => q σ H Cc _ fun v H1 e1 h1 => ?_⟩
  have h1' := h1
  obtain ⟨a, dx, rfl, h⟩ := den_fr.mp h1
  exact ⟨a, dx, _, rfl, h, _, _, rfl, DenL.cons h1' DenL.nil, ⟨p, rfl, hp, rfl⟩, fun v H' e hv => ⟨den_v.mp hv, r H' (e1.trans e)⟩⟩
/-! ### lists cut and turned round -/
theorem denL_rev {K : PySem.W.Frag} {H : Hp} : ∀ {ds : List D} {ys : List V}, DenL K H ds ys → DenL K H ds.reverse ys.reverse
  | [], ys, h => by
    simp only [DenL] at h
    subst h
    exact DenL.nil
  | d0 :: ds, ys, h => by
    simp only [DenL] at h
    obtain ⟨z, zs, rfl, hz, hzs⟩ := h
    rw [List.reverse_cons, List.reverse_cons]
    exact denL_snoc hz (denL_rev hzs)
theorem fd_rev {j : Nat} {p1 p2 p3 : Pos} (ha : ED X a Γ (.lst ds)) (hpe : ∀ {t : TE}, PE X a t → PE X (.Subscript a (.Slice none none (some (.UnaryOp .USub (.Constant (.int 1) j p1) p2)) p3) pos) (tRevL X.K t) := by intro _ h; exact pe_revL h) :
    FD X (.Subscript a (.Slice none none (some (.UnaryOp .USub (.Constant (.int 1) j p1) p2)) p3) pos) Γ ds.reverse := by
  obtain ⟨t, p, q⟩ := ha
  refine ⟨_, hpe p, fun σ H Cc Q r => q σ H Cc _ fun v H1 e1 h1 => ?_⟩
  simp only [Den] at h1
  obtain ⟨a, ys, rfl, h2, h3⟩ := h1
  exact ⟨a, ys, rfl, SqL.of h2, fun l n => r l H1 _ e1 n (denL_rev h3)⟩
/-! ### for x in a list -/
theorem z_forL (i : Nat) {x : Str} {p3 : Pos} (J : Nat → Gm → Prop) (hc : X.calm = true) (ha : ED X e Γ (.lst ds)) (hd : X.N.Nodup) (h0 : J 0 Γ)
    (hs : ∀ j dj Γ', ds[j]? = some dj → J j Γ' → SsD X body (Γ'.set i (some dj)) (fun o => (∃ Γ'', (o = .nx Γ'' ∨ o = .ct Γ'') ∧ J (j + 1) Γ'') ∨ (∃ d, o = .rt d ∧ Φ (.rt d)) ∨ (∃ Γ'', o = .bk Γ'' ∧ SsD X sts Γ'' Φ) ∨ ∃ c fs Γ'', o = .ex c fs Γ'' ∧ Φ (.ex c fs Γ'')))
    (k : ∀ Γ', J ds.length Γ' → SsD X sts Γ' Φ) (hp : PassesOwn (model X.prog X.w) X.A X.env X.xe := by exact PassesOwn.never) (hN : X.N[i]? = some x := by rfl) (hx : Loc X.env.scope x := by first | exact Or.inl rfl | exact Or.inr rfl)
    (hpi : ∀ {t : TE}, PE X e t → PI X (.Name x p3) e (iList X.K t) := by intro _ h; exact pi_list h)
    (hf : X.fn x = true ∨ X.env.scope.names.lookup x = some .local := by first | exact .inl rfl | exact .inr rfl)
    (hfs : ∀ x, foldedSetIterable e X.env x = pure x := by intro _; rfl) : SsD X (.For (.Name x p3) e body [] pos :: sts) Γ Φ := by
  obtain ⟨ta, pa, qa⟩ := ha
  refine ⟨_, pss_cons (ps_for hp hc (hpi pa) (pg_name (i := i) hd hN hx hf) (pss_all (st' := body)) hfs) (pss_all (st' := sts)), fun σ H hl C E T => ?_⟩
  refine qa σ H C _ fun v H1 e1 h1 => ?_
  simp only [Den] at h1
  obtain ⟨a, xs, rfl, hq, hL⟩ := h1
  refine ⟨a, rfl, ⟨xs, SqL.of hq⟩, ?_⟩
  have hi : i < X.N.length := (List.getElem?_eq_some_iff.mp hN).1
  have hxl := hL.len
  refine for_list (K := X.K) (a := a) (xs := xs) (fun j σ' H' => ∃ Γ', J j Γ' ∧ σ'.length = X.N.length ∧ Ctx X.K H' Γ' σ' ∧ Ex H1 H') ⟨Γ, h0, hl, C.mono e1, Ex.refl H1⟩ (fun j σ' H' _ ⟨Γ', _, _, _, g4⟩ => SqL.of (g4 _ _ hq)) ?_ ?_
  · rintro j y σ' H' hj ⟨Γ', g1, g2, g3, g4⟩
    have hj2 : j < ds.length := by rw [hxl]; exact (List.getElem?_eq_some_iff.mp hj).1
    obtain ⟨y2, hy2, hd2⟩ := hL.get (i := j) (d := ds[j]) (List.getElem?_eq_getElem hj2)
    rw [hj] at hy2
    cases hy2
    show allS X body _ (σ'.set i (some y)) H'
    refine (hs j ds[j] Γ' (List.getElem?_eq_getElem hj2) g1).all (by rw [List.length_set]; exact g2) (g3.set (by rw [g2]; exact hi) (hd2.mono g4)) ?_
    refine ⟨fun Γ'' σ2 H2 z e2 l2 c2 => ?_, fun d v H2 z e2 hv => ?_, fun Γ'' σ2 H2 z e2 l2 c2 => ?_, fun Γ'' σ2 H2 z e2 l2 c2 => ?_, fun cl fs Γ'' d σ2 H2 z e2 l2 c2 x2 => ?_⟩
    · rcases z with ⟨Γ3, z | z, w⟩ | ⟨_, z, _⟩ | ⟨_, z, _⟩ | ⟨_, _, _, z, _⟩ <;> cases z
      exact ⟨Γ'', w, l2, c2, g4.trans e2⟩
    · rcases z with ⟨Γ3, z | z, w⟩ | ⟨_, z, w⟩ | ⟨_, z, _⟩ | ⟨_, _, _, z, _⟩ <;> cases z
      exact T.rt d v H2 w ((e1.trans g4).trans e2) hv
    · rcases z with ⟨Γ3, z | z, w⟩ | ⟨_, z, w⟩ | ⟨_, z, w⟩ | ⟨_, _, _, z, _⟩ <;> cases z
      exact w.all l2 c2 (T.mono ((e1.trans g4).trans e2))
    · rcases z with ⟨Γ3, z | z, w⟩ | ⟨_, z, w⟩ | ⟨_, z, w⟩ | ⟨_, _, _, z, _⟩ <;> cases z
      exact ⟨Γ'', w, l2, c2, g4.trans e2⟩
    · rcases z with ⟨Γ3, z | z, w⟩ | ⟨_, z, w⟩ | ⟨_, z, w⟩ | ⟨_, _, _, z, w⟩ <;> cases z
      exact T.ex cl fs Γ'' d σ2 H2 w ((e1.trans g4).trans e2) l2 c2 x2
  · rintro σ' H' ⟨Γ', g1, g2, g3, g4⟩
    rw [← hxl] at g1
    exact (k Γ' g1).all g2 g3 (T.mono (e1.trans g4))
end
/-! ### own lists, the rest of the text told by what is left to do -/
def SOk (X : Cx) (sts : List Stmt) (Γ : Gm) (Ω : Om) (F0 : Hp) (E : Ends) : Prop := ∀ σ F H as, Ex F0 F → σ.length = X.N.length → COwn X.K F H Γ Ω as σ → allS X sts E σ H
section
variable {X : Cx} {Γ : Gm} {Ω : Om} {d : D} {ds : List D} {a b c e : Expr} {pos : Pos} {st : Stmt} {sts body : List Stmt} {F0 : Hp} {E : Ends}
theorem sok_new (i : Nat) {x : Str} {pos' : Pos} (he : FD X e (pl Ω Γ) ds) (hf : flatL ds = true) (ho : ∀ j es, (j, es) ∈ Ω → j ≠ i) (hd : X.N.Nodup) (k : SOk X sts (Γ.set i none) ((i, ds) :: Ω) F0 E) (hN : X.N[i]? = some x := by rfl) (hx : Loc X.env.scope x := by first | exact Or.inl rfl | exact Or.inr rfl)
    (hs : swapsWith e (some (.Name x pos')) pos.line X.env = pure false := by rfl) (hf2 : X.fn x = true ∨ X.env.scope.names.lookup x = some .local := by first | exact .inl rfl | exact .inr rfl) : SOk X (.Assign [.Name x pos'] e pos :: sts) Γ Ω F0 E := by
  obtain ⟨t, p, q⟩ := he
  intro σ F H as e0 hl C
  refine all_cons (ps_set (i := i) hd hN hx p hs hf2) (q σ H C.read _ fun p H1 ys e1 n hL => ?_)
  obtain ⟨e2, C2, hA⟩ := C.grow e1
  have hi := slot_lt hN hl
  have pn : p ∉ as := fun z => by
    obtain ⟨ys, h⟩ := hA p z
    rw [h] at n
    cases n
  have fp : wo H1 as p = none := by rw [wo_out pn, n]
  refine k _ (wo H1 as) _ (p :: as) (e0.trans e2) (by rw [List.length_set]; exact hl) ⟨fun b o hb => ?_, fun j d2 g => ?_, ⟨List.getElem?_set_self hi, fp, pn, ys, upd_same, hL.wo hA hf⟩, C2.own.move (Ex.refl _) (fun b hb => wo_in hb) (fun b hb => upd_ne fun z => pn (z ▸ hb)) fun j es hj => by rw [List.getElem?_set_ne (Ne.symm (ho j es hj))]⟩
  · rw [upd_ne (ne_of_none hb fp)]
    exact C2.ex b o hb
  · by_cases hj : i = j
    · subst hj
      rw [List.getElem?_set] at g
      simp only [if_true] at g
      split at g <;> cases g
    · rw [List.getElem?_set_ne hj] at g
      obtain ⟨w, h1, h2⟩ := C2.cx j d2 g
      exact ⟨w, by rw [List.getElem?_set_ne hj]; exact h1, h2⟩
theorem sok_newS (i : Nat) (he : FS X i st (pl Ω Γ) ds) (hf : flatL ds = true) (ho : ∀ j es, (j, es) ∈ Ω → j ≠ i) (k : SOk X sts (Γ.set i none) ((i, ds) :: Ω) F0 E) (hi0 : i < X.N.length := by decide) : SOk X (st :: sts) Γ Ω F0 E := by
  obtain ⟨t, p, q⟩ := he
  intro σ F H as e0 hl C
  refine all_cons p (q σ H C.read _ fun p H1 ys e1 n hL => ?_)
  obtain ⟨e2, C2, hA⟩ := C.grow e1
  have hi : i < σ.length := by rw [hl]; exact hi0
  have pn : p ∉ as := fun z => by
    obtain ⟨ys, h⟩ := hA p z
    rw [h] at n
    cases n
  have fp : wo H1 as p = none := by rw [wo_out pn, n]
  refine k _ (wo H1 as) _ (p :: as) (e0.trans e2) (by rw [List.length_set]; exact hl) ⟨fun b o hb => ?_, fun j d2 g => ?_, ⟨List.getElem?_set_self hi, fp, pn, ys, upd_same, hL.wo hA hf⟩, C2.own.move (Ex.refl _) (fun b hb => wo_in hb) (fun b hb => upd_ne fun z => pn (z ▸ hb)) fun j es hj => by rw [List.getElem?_set_ne (Ne.symm (ho j es hj))]⟩
  · rw [upd_ne (ne_of_none hb fp)]
    exact C2.ex b o hb
  · by_cases hj : i = j
    · subst hj
      rw [List.getElem?_set] at g
      simp only [if_true] at g
      split at g <;> cases g
    · rw [List.getElem?_set_ne hj] at g
      obtain ⟨w, h1, h2⟩ := C2.cx j d2 g
      exact ⟨w, by rw [List.getElem?_set_ne hj]; exact h1, h2⟩
theorem sok_while (J : Nat → Gm → Om → Prop) (m0 : Nat) (h0 : J m0 Γ Ω)
    (hs : ∀ m Γ' Ω', J m Γ' Ω' → ∃ k, TD X c (pl Ω' Γ') k ∧ (k = true → SO X body Γ' Ω' (fun o => ∃ Γ2 Ω2 m', o = .nx Γ2 Ω2 ∧ m' < m ∧ J m' Γ2 Ω2)) ∧ (k = false → SOk X sts Γ' Ω' F0 E))
    (hp : PassesOwn (model X.prog X.w) X.A X.env X.xe := by exact PassesOwn.never) : SOk X (.While c body [] pos :: sts) Γ Ω F0 E := by
  intro σ F H as e0 hl C
  refine all_cons (ps_while hp (pt_all (c := c)) (pss_all (st' := body))) ?_
  refine ⟨fun m σ' H' => ∃ Γ' Ω' F' as', J m Γ' Ω' ∧ σ'.length = X.N.length ∧ COwn X.K F' H' Γ' Ω' as' σ' ∧ Ex F0 F', ⟨m0, Γ, Ω, F, as, h0, hl, C, e0⟩, ?_⟩
  rintro m σ' H' ⟨Γ', Ω', F', as', g1, g2, g3, g4⟩
  obtain ⟨k, ht, hb, hn⟩ := hs m Γ' Ω' g1
  refine ht.all g3.read fun H2 e2 => ?_
  obtain ⟨e5, C2, _⟩ := g3.grow e2
  cases k with
  | false =>
    show allS X sts E σ' H2
    exact hn rfl σ' _ H2 as' (g4.trans e5) g2 C2
  | true =>
    show ∃ N : L2.St → Hp → Prop, _
    refine ⟨fun σ3 H3 => ∃ m' Γ3 Ω3 F3 as3, m' < m ∧ J m' Γ3 Ω3 ∧ σ3.length = X.N.length ∧ COwn X.K F3 H3 Γ3 Ω3 as3 σ3 ∧ Ex F0 F3, fun σ3 H3 ⟨m', Γ3, Ω3, F3, as3, q1, q2, q3, q4, q5⟩ => ⟨m', q1, Γ3, Ω3, F3, as3, q2, q3, q4, q5⟩, ?_⟩
    refine hb rfl σ' _ H2 as' g2 C2 _ ⟨fun Γ2 Ω2 σ2 F2 H2 as2 z e3 l2 c2 => ?_, fun d v H2 z => ?_, fun Γ2 Ω2 σ2 F2 H2 as2 z => ?_, fun Γ2 Ω2 σ2 F2 H2 as2 z => ?_, fun cl fs Γ2 Ω2 d σ2 F2 H2 as2 z => ?_⟩
    · obtain ⟨Γ3, Ω3, m', z, w1, w2⟩ := z
      cases z
      exact ⟨m', Γ2, Ω2, F2, as2, w1, w2, l2, c2, (g4.trans e5).trans e3⟩
    all_goals (obtain ⟨_, _, _, z, _⟩ := z; cases z)
end
end Trk

namespace Trk
section
open PySem PySem.SeqAt GQ
open AutoSeq1 (wpAny_loadPart')
open MeetsSeq MeetsSeq2 MeetsSeq3 SeqRoads2
variable {prog : Program} {w : World} {A : Around} {R : Result → Shared → Prop}
/-! ### == of two lists, whatever it gives -/
def ListB (prog : Program) (w : World) (A : Around) (E : Value → Shared → Prop) (l b : Addr) (N : Nat) (f : Nat → Bool) (I : Shared → Prop) : Prop :=
  ∀ s, I s → ∃ (items items2 : Array Value) (n n2 : Nat), s.heap.get? l = some { cls := .type "list", data := .seq items n } ∧ s.heap.get? b = some { cls := .type "list", data := .seq items2 n2 } ∧ items.size = N ∧ items2.size = N ∧
    ∀ (i : Nat) (h1 : i < items.size) (h2 : i < items2.size), wpAny (model prog w) A.in1 (eqBool items[i] items2[i]) (fun r s' => r = f i ∧ I s') E s
def allF (f : Nat → Bool) : Nat → Nat → Bool
  | _, 0 => true
  | i, k + 1 => f i && allF f (i + 1) k
theorem eq_loopB (l b : Addr) (N : Nat) (f : Nat → Bool) (I : Shared → Prop) (hl : ListB prog w A (fun e s' => R (.error e) s') l b N f I) (res : Bool)
    (fin : ∀ s, I s → R (.ok (.ret (.bool res))) s) (k : Nat) :
    ∀ i : Nat, N - i = k → i ≤ N → res = allF f i k → ∀ s, I s →
      wpAny (model prog w) A.in1 (Builtin.«list.__eq__.loop» ⟨[.ref l, .ref b, rawInt i, rawInt 2], []⟩) (FinOf prog w A R) (fun e s' => R (.error e) s') s := by
  induction k with
  | zero =>
    intro i hk hi hres s h
    obtain ⟨items, items2, n, n2, hl1, hb1, hs1, hs2, _⟩ := hl _ h
    have hR : R (.ok (.ret (.bool true))) s := by
      have := fin s h
      rw [hres] at this
      exact this
    obtain ⟨hp, g, d, tk, os⟩ := s
    wp_walk using wpAny_loadPart' hl1, wpAny_loadPart' hb1
    have hi1 : items[((i : Nat) : Int).toNat]? = none := by simp; omega
    have hi2 : items2[((i : Nat) : Int).toNat]? = none := by simp; omega
    rw [hi1, hi2]
    wp_walk using wpAny_loadPart' hl1, wpAny_loadPart' hb1
    show R (.ok (.ret (.bool (items.size == items2.size)))) _
    rw [hs1, hs2]
    simpa using hR
  | succ k ih =>
    intro i hk hi hres s h
    obtain ⟨items, items2, n, n2, hl1, hb1, hs1, hs2, turn⟩ := hl _ h
    have hlt : i < items.size := by omega
    have hlt2 : i < items2.size := by omega
    have ht := turn i hlt hlt2
    obtain ⟨hp, g, d, tk, os⟩ := s
    wp_walk using wpAny_loadPart' hl1, wpAny_loadPart' hb1
    have hi1 : items[((i : Nat) : Int).toNat]? = some items[i] := by simp [hlt]
    have hi2 : items2[((i : Nat) : Int).toNat]? = some items2[i] := by simp [hlt2]
    have hc : ((i : Int) + 1) = ((i + 1 : Nat) : Int) := by omega
    rw [hi1, hi2]
    refine wpAny_bind (wpAny_mono ht (fun r s2 h2 => ?_) fun _ _ x => x)
    obtain ⟨hr, h2⟩ := h2
    subst hr
    cases hf : f i with
    | true =>
      have hrec := ih (i + 1) (by omega) (by omega) (by rw [hres]; show (f i && allF f (i + 1) k) = _; rw [hf]; rfl) s2 h2
      obtain ⟨hp2, g2, d2, tk2, os2⟩ := s2
      wp_walk
      rw [hc]
      exact ⟨plainId_quiet plain_eq_loop _, codeAny_builtin entry_eq_loop (by
        rw [Around.under_plainId plain_eq_loop _]
        exact hrec)⟩
    | false =>
      have hR : R (.ok (.ret (.bool false))) s2 := by
        have := fin s2 h2
        rw [hres, show allF f i (k + 1) = (f i && allF f (i + 1) k) from rfl, hf] at this
        exact this
      obtain ⟨jt, jt2, m, m2, hl3, hb3, hs3, hs4, _⟩ := hl _ h2
      obtain ⟨hp2, g2, d2, tk2, os2⟩ := s2
      have hj1 : jt[((i : Nat) : Int).toNat]? = some (jt[i]'(by omega)) := by simp
      have hj2 : jt2[((i : Nat) : Int).toNat]? = some (jt2[i]'(by omega)) := by simp
      wp_walk using wpAny_loadPart' hl3, wpAny_loadPart' hb3
      rw [hj1, hj2]
      wp_walk using wpAny_loadPart' hl3, wpAny_loadPart' hb3
      exact hR

theorem list_eqB (l b : Addr) (N : Nat) (f : Nat → Bool) (I : Shared → Prop) (hl : ListB prog w A (fun e s' => R (.error e) s') l b N f I)
    (fin : ∀ s, I s → R (.ok (.ret (.bool (allF f 0 N)))) s) {s : Shared} (h : I s) :
    wpAny (model prog w) A.in1 (Builtin.«list.__eq__» ⟨[.ref l, .ref b], []⟩) (FinOf prog w A R) (fun e s' => R (.error e) s') s := by
  obtain ⟨items, items2, n, n2, hl1, hb1, hs1, hs2, _⟩ := hl _ h
  have hrec := eq_loopB (A := A) (R := R) l b N f I hl _ fin N 0 rfl (Nat.zero_le _) rfl s h
  obtain ⟨hp, g, d, tk, os⟩ := s
  have f3 := AutoSeq1.sub_list_list
  have hne : ¬ (items.size != items2.size) = true := by simp [hs1, hs2]
  wp_walk using wpAny_loadPart' hl1, wpAny_loadPart' hb1
  exact ⟨plainId_quiet plain_eq_loop _, codeAny_builtin entry_eq_loop (by
    rw [Around.under_plainId plain_eq_loop _]
    exact hrec)⟩
theorem list_eqNe (l b : Addr) {items items2 : Array Value} {n n2 : Nat} {s : Shared} (hl1 : s.heap.get? l = some { cls := .type "list", data := .seq items n }) (hb1 : s.heap.get? b = some { cls := .type "list", data := .seq items2 n2 }) (hs : items.size ≠ items2.size)
    (fin : R (.ok (.ret (.bool false))) s) :
    wpAny (model prog w) A.in1 (Builtin.«list.__eq__» ⟨[.ref l, .ref b], []⟩) (FinOf prog w A R) (fun e s' => R (.error e) s') s := by
  obtain ⟨hp, g, d, tk, os⟩ := s
  have f3 := AutoSeq1.sub_list_list
  have hne : (items.size != items2.size) = true := by simp [hs]
  wp_walk using wpAny_loadPart' hl1, wpAny_loadPart' hb1
  exact fin
end
section
open PySem PySem.SeqAt GQ
open MeetsSeq MeetsSeq2 MeetsSeq3 SeqRoads2
variable {prog : Program} {w : World} {A : Around} {E : Value → Shared → Prop} {s : Shared}
theorem rc_listB {l b : Addr} {N : Nat} {f : Nat → Bool} {Q : Value → Shared → Prop} (hu : A.units < cLine) (I : Shared → Prop) (hl : ListB prog w A E l b N f I)
    (fin : ∀ s, I s → Q (.bool (allF f 0 N)) s) (h : I s) : wpAny (model prog w) A (richCompare .Eq (.ref l) (.ref b)) Q E s := by
  obtain ⟨items, items2, n, n2, hl1, hb1, _, _, _⟩ := hl _ h
  refine wpAny_richCompare_same_room (op := .Eq) ⟨_, hl1, rfl⟩ ⟨_, hb1, rfl⟩ F.slot_list_eq (call_here F.slot_list_eq ⟨_, hl1, rfl⟩ F.entry_list_eq (F.args_list_eq_2 _ _) ?_) hu
  exact list_eqB (R := wants (fun v s' => v ≠ .notImplemented ∧ Q v s') E) l b N f I hl (fun s' q => ⟨(fun x => nomatch x), fin s' q⟩) h
theorem rc_listNe {l b : Addr} {Q : Value → Shared → Prop} {items items2 : Array Value} {n n2 : Nat} (hu : A.units < cLine) (hl1 : s.heap.get? l = some { cls := .type "list", data := .seq items n }) (hb1 : s.heap.get? b = some { cls := .type "list", data := .seq items2 n2 }) (hs : items.size ≠ items2.size)
    (fin : Q (.bool false) s) : wpAny (model prog w) A (richCompare .Eq (.ref l) (.ref b)) Q E s := by
  refine wpAny_richCompare_same_room (op := .Eq) ⟨_, hl1, rfl⟩ ⟨_, hb1, rfl⟩ F.slot_list_eq (call_here F.slot_list_eq ⟨_, hl1, rfl⟩ F.entry_list_eq (F.args_list_eq_2 _ _) ?_) hu
  exact list_eqNe (R := wants (fun v s' => v ≠ .notImplemented ∧ Q v s') E) l b hl1 hb1 hs ⟨(fun x => nomatch x), fin⟩
end

open PySem L2 Evl
/-! ### == of two lists of Fractions -/
section
variable {X : Cx} {Γ : Gm} {Ω : Om} {d d1 d2 : D} {ds es' : List D} {a b c e : Expr} {es : List Expr} {pos : Pos} {C f : Addr} {fs : List (Str × D)} {CX : CXT} {n k : Nat} {fd : FuncData} {ps : List Str} {E : XK} {R : List D → D → Prop} {p q : Rat}
theorem run_sub {A : Around} {sp : Sp} {pins : List (Addr × Obj)} {σ : L2.St} {H : Hp} {s : Shared} {Q : VK} {us : List Value} {vs : List V} (F : FnOk X.prog X.w X.K X.mg X.base CX n f fd ps sp) (sb : Sub X n A)
    (hb : Binds X.K fd ps []) (hx : Passes CX X E) (I : Inv X pins σ H s) (r : Vals vs us) (h : sp vs H Q E) : wpAny (model X.prog X.w) A (call (.ref f) us) (EP X pins σ Q) X.xe s := by
  have e0 : Env0 X.prog X.w X.K X.mg X.base A X.stack s H := by
    have e := I.env0
    exact ⟨by rw [sb.fr]; exact e.frames, e.mod, e.bs, e.bsz, e.funs, e.frf, e.hok, e.bare⟩
  exact run_in F sb.room e0 hb hx I r h
theorem eqb_fr (M : CmpM X.K C "__eq__" f) (F : FnOk X.prog X.w X.K X.mg X.base CX n f fd ps (spD X.K 2 (R_cmp C fun p q => decide (p = q)))) (hb : Binds X.K fd ps []) (hx : Passes CX X E) {A : Around} {pins : List (Addr × Obj)} {s : Shared} {σ : L2.St} {H : Hp} {x y : V} {u v : Value}
    (sb : Sub X n A) (I : Inv X pins σ H s) (rx : RelV x u) (ry : RelV y v) (hp : Den X.K H (fr C p) x) (hq : Den X.K H (fr C q) y) (sp : Sz 4000 p) (sq : Sz 4000 q) :
    wpAny (model X.prog X.w) A (eqBool u v) (fun r s' => r = decide (p = q) ∧ ∃ H', Inv X pins σ H' s' ∧ Ex H H') X.xe s := by
  have hp' := hp
  have hq' := hq
  obtain ⟨a, dx, rfl, ha⟩ := den_fr.mp hp
  obtain ⟨b, dy, rfl, hb'⟩ := den_fr.mp hq
  cases rx
  cases ry
  by_cases hab : a = b
  · subst hab
    have hpq : p = q := by
      rw [ha] at hb'
      have h1 := Option.some.inj hb'
      injection h1 with _ _ h2
      simp only [List.cons.injEq, Prod.mk.injEq, V.int.injEq, and_true, true_and] at h2
      obtain ⟨g1, g2⟩ := h2
      exact Rat.ext g1 (by omega)
    subst hpq
    exact SeqAt.EqAt.same (A := A) (s := s) (.ref a) X.prog X.w X.xe _ ⟨by simp, H, I, Ex.refl H⟩
  · refine GQ.eqBool_refG hab ?_
    obtain ⟨mA, J, _⟩ := ins_get I.hok ha
    obtain ⟨mB, J', _⟩ := ins_get I.hok hb'
    obtain ⟨od, J, _⟩ := J.look
    obtain ⟨od', J', _⟩ := J'.look
    obtain ⟨m, hF⟩ := I.fr
    refine PySem.W.cmp_K (op := .Eq) (tb := .ref C) sb.room.units0 hF I.ok.mod.kin J J'.type (by simp [PySem.W.notFirst]) M.find M.fn ?_
    have hsp : spD X.K 2 (R_cmp C fun p q => decide (p = q)) [.ref a, .ref b] H (fun v H' => v = .bl (decide (p = q)) ∧ Ex H H') E := ⟨_, _, rfl, DenL.cons hp' (DenL.cons hq' DenL.nil), ⟨p, _, q, rfl, .inl rfl, sp, sq, rfl⟩, fun v H' e hv => ⟨den_v.mp hv, e⟩⟩
    refine thn (run_sub F sb hb hx I (vals_rr a b) hsp) fun z s' hz => ?_
    obtain ⟨w, H', I', rw', ew, e⟩ := hz
    subst ew
    cases rw'
    exact ⟨_, rfl, rfl, H', I', e⟩
theorem allF_fr : ∀ (cs es : List Rat) (i : Nat), cs.length = es.length → allF (fun j => decide (cs.getD j 0 = es.getD j 0)) i (cs.length - i) = decide (cs.drop i = es.drop i) := by
  intro cs es i h
  generalize hk : cs.length - i = k
  induction k generalizing i with
  | zero =>
    rw [List.drop_eq_nil_of_le (by omega), List.drop_eq_nil_of_le (by omega)]
    simp [allF]
  | succ k ih =>
    have h1 : i < cs.length := by omega
    have h2 : i < es.length := by omega
    show (_ && allF _ (i + 1) k) = _
    rw [ih (i + 1) (by omega), List.drop_eq_getElem_cons h1, List.drop_eq_getElem_cons h2]
    show (decide (cs.getD i 0 = es.getD i 0) && _) = _
    rw [List.getD_eq_getElem?_getD, List.getD_eq_getElem?_getD, List.getElem?_eq_getElem h1, List.getElem?_eq_getElem h2]
    show (decide (cs[i] = es[i]) && _) = _
    rw [← Bool.decide_and]
    congr 1
    rw [List.cons.injEq]
def rEqF (C : Addr) (K : PySem.W.Frag) : R2 := fun x y H Q => ∃ cs es : List Rat, Den K H (.lst (cs.map (fr C))) x ∧ Den K H (.lst (es.map (fr C))) y ∧ (∀ c ∈ cs, Sz 4000 c) ∧ (∀ c ∈ es, Sz 4000 c) ∧ ∀ H', Ex H H' → Q (.bl (decide (cs = es))) H'
theorem op_eqF (M : CmpM X.K C "__eq__" f) (F : FnOk X.prog X.w X.K X.mg X.base CX n f fd ps (spD X.K 2 (R_cmp C fun p q => decide (p = q)))) (hb : Binds X.K fd ps []) (hx : Passes CX X E) (hr : Room (n + 1) X.A) : OpR X (compareOp .Eq) (rEqF C X.K) := by
  intro pins s σ H x y v u Q I rx ry h
  obtain ⟨cs, es, h1, h2, sc, se, q⟩ := h
  simp only [Den] at h1 h2
  obtain ⟨a, xs, rfl, ha, hL⟩ := h1
  obtain ⟨b, ys, rfl, hb', hM⟩ := h2
  cases rx
  cases ry
  show wpAny (model X.prog X.w) X.A (richCompare .Eq (.ref a) (.ref b)) (EP X pins σ Q) X.xe s
  have lc : cs.length = xs.length := by have := hL.len; simpa using this
  have le : es.length = ys.length := by have := hM.len; simpa using this
  by_cases hl : cs.length = es.length
  · have fin : decide (cs = es) = allF (fun j => decide (cs.getD j 0 = es.getD j 0)) 0 cs.length := by
      have := allF_fr cs es 0 hl
      rw [Nat.sub_zero, List.drop_zero, List.drop_zero] at this
      rw [this]
    rw [fin] at q
    refine rc_listB (N := cs.length) (f := fun j => decide (cs.getD j 0 = es.getD j 0)) hr.units0 (fun s' => ∃ H', Inv X pins σ H' s' ∧ Ex H H') (fun s' hI => ?_) (fun s' ⟨H', I', e⟩ => ⟨.bl _, H', I', rfl, q H' e⟩) ⟨H, I, Ex.refl H⟩
    obtain ⟨H1, I1, e1⟩ := hI
    obtain ⟨z, its, k, r, e⟩ := I1.hok a _ (e1 _ _ ha)
    obtain ⟨z2, its2, k2, r2, e2⟩ := I1.hok b _ (e1 _ _ hb')
    refine ⟨its.toArray, its2.toArray, k, k2, e, e2, by rw [List.size_toArray, ← r.length, lc], by rw [List.size_toArray, ← r2.length, hl, le], fun i k1 k2 => ?_⟩
    have g1 : its[i]? = some its.toArray[i] := by
      have h1' : i < its.length := by simpa using k1
      rw [List.getElem?_eq_getElem h1'] <;> simp
    have g2 : its2[i]? = some its2.toArray[i] := by
      have h2' : i < its2.length := by simpa using k2
      rw [List.getElem?_eq_getElem h2'] <;> simp
    have j1 : i < cs.length := by rw [lc, r.length]; simpa using k1
    have j2 : i < es.length := by rw [le, r2.length]; simpa using k2
    obtain ⟨x1, hx1, dx1⟩ := hL.get (i := i) (d := fr C cs[i]) (by rw [List.getElem?_map, List.getElem?_eq_getElem j1]; rfl)
    obtain ⟨y1, hy1, dy1⟩ := hM.get (i := i) (d := fr C es[i]) (by rw [List.getElem?_map, List.getElem?_eq_getElem j2]; rfl)
    obtain ⟨u1, hu1, ru1⟩ := r.get hx1
    obtain ⟨v1, hv1, rv1⟩ := r2.get hy1
    rw [g1] at hu1
    rw [g2] at hv1
    rw [Option.some.inj hu1, Option.some.inj hv1]
    refine wpAny_mono (eqb_fr M F hb hx (A := X.A.in1) (Sub.in1 ⟨hr, rfl⟩) I1 ru1 rv1 (dx1.mono e1) (dy1.mono e1) (sc _ (List.getElem_mem j1)) (se _ (List.getElem_mem j2))) (fun r s2 hq => ?_) fun _ _ x => x
    obtain ⟨hr2, H2, I2, e3⟩ := hq
    refine ⟨?_, H2, I2, e1.trans e3⟩
    rw [hr2]
    show decide (cs[i] = es[i]) = decide (cs.getD i 0 = es.getD i 0)
    rw [List.getD_eq_getElem?_getD, List.getD_eq_getElem?_getD, List.getElem?_eq_getElem j1, List.getElem?_eq_getElem j2]
    rfl
  · have hne : decide (cs = es) = false := decide_eq_false fun z => hl (by rw [z])
    rw [hne] at q
    obtain ⟨z, its, k, r, e⟩ := I.hok a _ ha
    obtain ⟨z2, its2, k2, r2, e2⟩ := I.hok b _ hb'
    exact rc_listNe hr.units0 e e2 (by rw [List.size_toArray, List.size_toArray, ← r.length, ← r2.length, ← lc, ← le]; exact hl) ⟨.bl _, H, I, rfl, q H (Ex.refl H)⟩
theorem rd_eqF {K : PySem.W.Frag} {cs es : List Rat} (h1 : ∀ c ∈ cs, Sz 4000 c) (h2 : ∀ c ∈ es, Sz 4000 c) : RD K (rEqF C K) (.lst (cs.map (fr C))) (.lst (es.map (fr C))) (bD (decide (cs = es))) :=
  fun x y H hx hy Q q => ⟨cs, es, hx, hy, h1, h2, fun H' e => q _ H' e (den_v.mpr rfl)⟩
/-! ### list + list, cut, all, isinstance(x, list) -/
def rCatL (K : PySem.W.Frag) : R2 := fun x y H Q => ∃ a b xs ys, x = .ref a ∧ y = .ref b ∧ H a = some (.lst xs) ∧ H b = some (.lst ys) ∧ xs.length + ys.length ≤ sizeLine ∧ ∀ p, H p = none → Q (.ref p) (upd H p (.lst (xs ++ ys)))
theorem denL_app {K : PySem.W.Frag} {H : Hp} : ∀ {ds es : List D} {xs ys : List V}, DenL K H ds xs → DenL K H es ys → DenL K H (ds ++ es) (xs ++ ys)
  | [], es, xs, ys, h, h2 => by
    simp only [DenL] at h
    subst h
    exact h2
  | d0 :: ds, es, xs, ys, h, h2 => by
    simp only [DenL] at h
    obtain ⟨z, zs, rfl, hz, hzs⟩ := h
    exact DenL.cons hz (denL_app hzs h2)
theorem fd_cat (ha : ED X a Γ (.lst ds)) (hb : ED X b Γ (.lst es')) (hl : ds.length + es'.length ≤ 1000000) : FD X (.BinOp a .Add b pos) Γ (ds ++ es') := by
  obtain ⟨ta, pa, qa⟩ := ha
  obtain ⟨tb, pb, qb⟩ := hb
  refine ⟨_, pe_op op_cat pa pb, fun σ H Cc Q k => qa σ H Cc _ fun x H1 e1 h1 => qb σ H1 (Cc.mono e1) _ fun y H2 e2 h2 => ?_⟩
  have h1' := h1.mono e2
  simp only [Den] at h1' h2
  obtain ⟨l, xs, rfl, g1, g2⟩ := h1'
  obtain ⟨m, ys, rfl, g3, g4⟩ := h2
  exact ⟨l, m, xs, ys, rfl, rfl, g1, g3, by rw [← g2.len, ← g4.len, sizeLine_eq]; omega, fun p np => k p H2 _ (e1.trans e2) np (denL_app g2 g4)⟩
/-- xs[:n] -/
theorem denL_take {K : PySem.W.Frag} {H : Hp} : ∀ {m : Nat} {ds : List D} {ys : List V}, DenL K H ds ys → DenL K H (ds.take m) (ys.take m)
  | 0, ds, ys, h => by
    rw [List.take_zero, List.take_zero]
    exact DenL.nil
  | m + 1, [], ys, h => by
    simp only [DenL] at h
    subst h
    exact DenL.nil
  | m + 1, d0 :: ds, ys, h => by
    simp only [DenL] at h
    obtain ⟨z, zs, rfl, hz, hzs⟩ := h
    exact DenL.cons hz (denL_take hzs)
theorem denL_drop {K : PySem.W.Frag} {H : Hp} : ∀ {m : Nat} {ds : List D} {ys : List V}, DenL K H ds ys → DenL K H (ds.drop m) (ys.drop m)
  | 0, ds, ys, h => h
  | m + 1, [], ys, h => by
    simp only [DenL] at h
    subst h
    exact DenL.nil
  | m + 1, d0 :: ds, ys, h => by
    simp only [DenL] at h
    obtain ⟨z, zs, rfl, hz, hzs⟩ := h
    exact denL_drop (m := m) hzs

theorem cut_to {xs : List V} {n : Nat} : L2.cutV xs none (some (n : Int)) = xs.take n := by
  unfold L2.cutV
  rw [HT.sIx_none, HT.sIx_nat, List.drop_zero, Nat.sub_zero]
  rcases Nat.le_total n xs.length with h | h
  · rw [Nat.min_eq_left h]
  · rw [Nat.min_eq_right h, List.take_of_length_le (Nat.le_refl _), List.take_of_length_le h]
theorem cut_from {xs : List V} {n : Nat} : L2.cutV xs (some (n : Int)) none = xs.drop n := by
  unfold L2.cutV
  rw [HT.sIx_none, HT.sIx_nat]
  rcases Nat.le_total n xs.length with h | h
  · rw [Nat.min_eq_left h]
    exact List.take_of_length_le (by rw [List.length_drop]; omega)
  · rw [Nat.min_eq_right h, List.drop_of_length_le (Nat.le_refl _), List.drop_of_length_le h]
    simp
theorem fd_cutTo {n : Nat} {p2 : Pos} (ha : ED X a Γ (.lst ds)) (hb : ED X b Γ (iD (n : Int))) : FD X (.Subscript a (.Slice none (some b) none p2) pos) Γ (ds.take n) := by
  obtain ⟨ta, pa, qa⟩ := ha
  obtain ⟨tb, pb, qb⟩ := hb
  refine ⟨_, pe_slice sl_list pa po_none (po_some pb), fun σ H Cc Q k => qa σ H Cc _ fun x H1 e1 h1 => ?_⟩
  refine qb σ H1 (Cc.mono e1) _ fun y H2 e2 h2 => ?_
  have h1' := h1.mono e2
  simp only [Den] at h1'
  obtain ⟨l, xs, rfl, g1, g2⟩ := h1'
  refine ⟨(n : Int), den_v.mp h2, l, xs, rfl, SqL.of g1, fun p np => ?_⟩
  rw [cut_to]
  exact k p H2 _ (e1.trans e2) np (denL_take g2)
theorem fd_cutFrom {n : Nat} {p2 : Pos} (ha : ED X a Γ (.lst ds)) (hb : ED X b Γ (iD (n : Int))) : FD X (.Subscript a (.Slice (some b) none none p2) pos) Γ (ds.drop n) := by
  obtain ⟨ta, pa, qa⟩ := ha
  obtain ⟨tb, pb, qb⟩ := hb
  refine ⟨_, pe_slice sl_list pa (po_some pb) po_none, fun σ H Cc Q k => qa σ H Cc _ fun x H1 e1 h1 => ?_⟩
  refine qb σ H1 (Cc.mono e1) _ fun y H2 e2 h2 => ?_
  have h1' := h1.mono e2
  simp only [Den] at h1'
  obtain ⟨l, xs, rfl, g1, g2⟩ := h1'
  refine ⟨(n : Int), den_v.mp h2, l, xs, rfl, SqL.of g1, fun p np => ?_⟩
  rw [cut_from]
  exact k p H2 _ (e1.trans e2) np (denL_drop g2)
theorem denL_bools {K : PySem.W.Frag} {H : Hp} : ∀ {bs : List Bool} {ys : List V}, DenL K H (bs.map bD) ys → ys = bs.map V.bl
  | [], ys, h => by
    simp only [List.map_nil, DenL] at h
    exact h
  | b :: bs, ys, h => by
    simp only [List.map_cons, DenL] at h
    obtain ⟨z, zs, rfl, hz, hzs⟩ := h
    rw [den_v.mp hz, denL_bools hzs]
    rfl
theorem ed_all {bs : List Bool} {p : Pos} (hc : X.calm = true) (hm : X.mg "all" = none) (ha : ED X a Γ (.lst (bs.map bD))) (hg : Gl X "all" := by rfl) (he : starEach (a :: []) X.env = (false, eval a X.env) :: starEach [] X.env := by rfl) (hpl : (backTo pos (starEach [] X.env)).any (·.1) = false := by rfl) :
    ED X (.Call (.Name "all" p) [a] [] pos) Γ (bD (bs.all id)) := by
  refine ed_callB (d := bD (bs.all id)) (cr_all hc) hm (by decide +kernel) (ad_cons ha ad_nil he) (fun xs H h Q q => ?_) hg (by decide) (by decide) he hpl
  obtain ⟨x, rfl, h1⟩ := denL_one h
  simp only [Den] at h1
  obtain ⟨l, ys, rfl, g1, g2⟩ := h1
  rw [denL_bools g2] at g1
  exact ⟨l, bs, rfl, SqL.of g1, q _ H (Ex.refl H) (den_v.mpr rfl)⟩
/-- isinstance, of whatever shows its type -/
theorem ed_isiX {kk : Bool} {u t : Value} {cv : V} {p : Pos} (hm : X.mg "isinstance" = none) (ha : ED X a Γ d) (hc : ED X c Γ (.v cv)) (hcv : ClsV cv u) (ht : ∀ H v, Den X.K H d v → TyX X.K H v t) (hk : PySem.W.kitOne X.K t u = some kk) (hg : Gl X "isinstance" := by rfl)
    (he : starEach (a :: [c]) X.env = (false, eval a X.env) :: starEach [c] X.env := by rfl) (hs1 : starEach (c :: []) X.env = (false, eval c X.env) :: starEach [] X.env := by rfl) (hpl : (backTo pos (starEach [c] X.env)).any (·.1) = false := by rfl) :
    ED X (.Call (.Name "isinstance" p) [a, c] [] pos) Γ (bD kk) := by
  refine ed_callB (d := bD kk) (r := rIsi X.K) call_isi hm (by decide +kernel) (ad_cons ha (ad_cons hc ad_nil hs1) he) (fun xs H h Q q => ?_) hg (by decide) (by decide) he hpl
  obtain ⟨x, y, rfl, h1, h2⟩ := denL_two h
  rw [den_v.mp h2]
  exact ⟨x, cv, t, u, kk, rfl, hcv, ht H x h1, hk, q _ H (Ex.refl H) (den_v.mpr rfl)⟩
theorem ty_lst {K : PySem.W.Frag} (H : Hp) (v : V) (h : Den K H (.lst ds) v) : TyX K H v (.type "list") := by
  simp only [Den] at h
  obtain ⟨a, ys, rfl, h, _⟩ := h
  exact .base (.lst h)
theorem ty_tup {K : PySem.W.Frag} (H : Hp) (v : V) (h : Den K H (.tup ds) v) : TyX K H v (.type "tuple") := by
  simp only [Den] at h
  obtain ⟨a, ys, rfl, h, _⟩ := h
  rcases h with (h | ⟨o, h⟩) | ⟨o, its, n, hk, hc, _⟩
  · exact .base (.tup h)
  · exact .fTuple h
  · exact .kTuple hk hc
/-! ### values that share nothing with the lists that stood before -/
def ND (X : Cx) (e : Expr) (Γ : Gm) (d : D) : Prop := ∃ t, PE X e t ∧ ∀ σ H, Ctx X.K H Γ σ → ∀ Q : VK, (∀ v H', Ex H H' → (∀ as, (∀ b ∈ as, ∃ ys, H b = some (.lst ys)) → Den X.K (wo H' as) d v) → Q v H') → t σ H Q
theorem ED.nd (h : ED X e Γ d) (hf : flat d = true) : ND X e Γ d := by
  obtain ⟨t, p, q⟩ := h
  exact ⟨t, p, fun σ H Cc Q k => q σ H Cc Q fun v H' e1 hv => k v H' e1 fun as hA => hv.wo (fun b hb => by
    obtain ⟨ys, h⟩ := hA b hb
    exact ⟨ys, e1 _ _ h⟩) hf⟩
theorem FD.nd (h : FD X e Γ ds) (hf : flatL ds = true) : ND X e Γ (.lst ds) := by
  obtain ⟨t, p, q⟩ := h
  refine ⟨t, p, fun σ H Cc Q k => q σ H Cc Q fun p H1 ys e1 np hL => k _ _ (fun b o hb => ?_) fun as hA => ?_⟩
  · have h := e1 b o hb
    rw [upd_ne (ne_of_none h np)]
    exact h
  · have pn : p ∉ as := fun z => by
      obtain ⟨ys, h⟩ := hA p z
      rw [e1 _ _ h] at np
      cases np
    simp only [Den]
    refine ⟨p, ys, rfl, by rw [wo_out pn, upd_same], ?_⟩
    have h1 := hL.wo (as := as) (fun b hb => by
      obtain ⟨ys, h⟩ := hA b hb
      exact ⟨ys, e1 _ _ h⟩) hf
    refine h1.mono fun b o hb => ?_
    by_cases hb2 : b ∈ as
    · rw [wo_in hb2] at hb
      cases hb
    · rw [wo_out hb2] at hb ⊢
      rw [upd_ne (ne_of_none hb np)]
      exact hb
theorem nd_is (h : ND X e Γ d1) (q : d1 = d) : ND X e Γ d := q ▸ h
end
section
variable {X : Cx} {Γ : Gm} {Ω : Om} {d d1 d2 : D} {ds : List D} {e a b c : Expr} {es : List Expr} {pos : Pos} {st : Stmt} {sts body rest sa sb : List Stmt} {Φ Ψ : OutO → Prop} {Φ0 : Out → Prop}
/-- x = e, sharing no list -/
theorem so_asgN (i : Nat) {x : Str} {pos' : Pos} (he : ND X e (pl Ω Γ) d) (ho : ∀ j es, (j, es) ∈ Ω → j ≠ i) (hd : X.N.Nodup) (k : SO X sts (Γ.set i (some d)) Ω Φ) (hN : X.N[i]? = some x := by rfl) (hx : Loc X.env.scope x := by first | exact Or.inl rfl | exact Or.inr rfl)
    (hs : swapsWith e (some (.Name x pos')) pos.line X.env = pure false := by rfl) (hf2 : X.fn x = true ∨ X.env.scope.names.lookup x = some .local := by first | exact .inl rfl | exact .inr rfl) : SO X (.Assign [.Name x pos'] e pos :: sts) Γ Ω Φ := by
  obtain ⟨t, p, q⟩ := he
  intro σ F H as hl C E T
  refine all_cons (ps_set (i := i) hd hN hx p hs hf2) (q σ H C.read _ fun v H1 e1 h1 => ?_)
  obtain ⟨e2, C2, hA⟩ := C.grow e1
  refine k _ (wo H1 as) H1 as (by rw [List.length_set]; exact hl) ⟨C2.ex, C2.cx.set (slot_lt hN hl) (h1 as fun b hb => (C.own.lists b hb).2), C2.own.move (Ex.refl _) (fun b hb => wo_in hb) (fun b hb => rfl) fun j es hj => ?_⟩ E (T.mono e2)
  rw [List.getElem?_set_ne (Ne.symm (ho j es hj))]
theorem so_newS (i : Nat) (he : FS X i st (pl Ω Γ) ds) (hf : flatL ds = true) (ho : ∀ j es, (j, es) ∈ Ω → j ≠ i) (k : SO X sts (Γ.set i none) ((i, ds) :: Ω) Φ) (hi0 : i < X.N.length := by decide) : SO X (st :: sts) Γ Ω Φ := by
  obtain ⟨t, p, q⟩ := he
  intro σ F H as hl C E T
  refine all_cons p (q σ H C.read _ fun p H1 ys e1 n hL => ?_)
  obtain ⟨e2, C2, hA⟩ := C.grow e1
  have hi : i < σ.length := by rw [hl]; exact hi0
  have pn : p ∉ as := fun z => by
    obtain ⟨ys, h⟩ := hA p z
    rw [h] at n
    cases n
  have fp : wo H1 as p = none := by rw [wo_out pn, n]
  refine k _ (wo H1 as) _ (p :: as) (by rw [List.length_set]; exact hl) ⟨fun b o hb => ?_, fun j d2 g => ?_, ⟨List.getElem?_set_self hi, fp, pn, ys, upd_same, hL.wo hA hf⟩, C2.own.move (Ex.refl _) (fun b hb => wo_in hb) (fun b hb => upd_ne fun z => pn (z ▸ hb)) fun j es hj => by rw [List.getElem?_set_ne (Ne.symm (ho j es hj))]⟩ E (T.mono e2)
  · rw [upd_ne (ne_of_none hb fp)]
    exact C2.ex b o hb
  · by_cases hj : i = j
    · subst hj
      rw [List.getElem?_set] at g
      simp only [if_true] at g
      split at g <;> cases g
    · rw [List.getElem?_set_ne hj] at g
      obtain ⟨w, h1, h2⟩ := C2.cx j d2 g
      exact ⟨w, by rw [List.getElem?_set_ne hj]; exact h1, h2⟩
/-- from here on no own list is changed any more -/
theorem so_end (h : SsD X sts (pl Ω Γ) Φ0) (h1 : ∀ d, Φ0 (.rt d) → Φ (.rt d)) (h2 : ∀ Γ', Φ0 (.nx Γ') → Φ (.nx Γ' [])) (h3 : ∀ Γ', Φ0 (.bk Γ') → Φ (.bk Γ' [])) (h4 : ∀ Γ', Φ0 (.ct Γ') → Φ (.ct Γ' [])) (h5 : ∀ c fs Γ', Φ0 (.ex c fs Γ') → Φ (.ex c fs Γ' [])) : SO X sts Γ Ω Φ := by
  intro σ F H as hl C E T
  have T' : TkO X H Φ E := T.mono C.ex
  refine h.all hl C.read ⟨fun Γ' σ' H' z e l c => T'.nx Γ' [] σ' H' H' [] (h2 _ z) e l ⟨Ex.refl _, c, True.intro⟩, fun d v H' z e hv => T'.rt d v H' (h1 _ z) e hv, fun Γ' σ' H' z e l c => T'.bk Γ' [] σ' H' H' [] (h3 _ z) e l ⟨Ex.refl _, c, True.intro⟩, fun Γ' σ' H' z e l c => T'.ct Γ' [] σ' H' H' [] (h4 _ z) e l ⟨Ex.refl _, c, True.intro⟩, fun cl fs Γ' d σ' H' z e l c x => T'.ex cl fs Γ' [] d σ' H' H' [] (h5 _ _ _ z) e l ⟨Ex.refl _, c, True.intro⟩ x⟩
/-- if: joined behind -/
theorem so_if {k : Bool} (J : Gm → Om → Prop) (hc : TD X c (pl Ω Γ) k) (ha : k = true → SO X sa Γ Ω (fun o => ∃ Γ' Ω', o = .nx Γ' Ω' ∧ J Γ' Ω')) (hb : k = false → SO X sb Γ Ω (fun o => ∃ Γ' Ω', o = .nx Γ' Ω' ∧ J Γ' Ω')) (h : ∀ Γ' Ω', J Γ' Ω' → SO X sts Γ' Ω' Φ) : SO X (.If c sa sb pos :: sts) Γ Ω Φ := by
  cases k with
  | true => exact so_ifT (Ψ := fun o => ∃ Γ' Ω', o = .nx Γ' Ω' ∧ J Γ' Ω') hc (ha rfl) (fun Γ' Ω' ⟨_, _, z, j⟩ => by cases z; exact h _ _ j) fun o ho ⟨_, _, z, _⟩ => absurd z (ho _ _)
  | false => exact so_ifE (Ψ := fun o => ∃ Γ' Ω', o = .nx Γ' Ω' ∧ J Γ' Ω') hc (hb rfl) (fun Γ' Ω' ⟨_, _, z, j⟩ => by cases z; exact h _ _ j) fun o ho ⟨_, _, z, _⟩ => absurd z (ho _ _)
end
/-! ### a def that hands back a list of its own -/
def spF (K : PySem.W.Frag) (n : Nat) (R : List D → List D → Prop) : Sp := fun vs H Q _ => ∃ ds xs, ds.length = n ∧ DenL K H ds vs ∧ R ds xs ∧ ∀ p H1 ys, Ex H H1 → H1 p = none → DenL K H1 xs ys → Q (.ref p) (upd H1 p (.lst ys))
theorem spF_D {K : PySem.W.Frag} {n : Nat} {R : List D → List D → Prop} {vs : List V} {H : Hp} {Q : VK} {E : XK} (h : spD K n (fun ds d => ∃ xs, R ds xs ∧ d = .lst xs) vs H Q E) : spF K n R vs H Q E := by
  obtain ⟨ds, d, h1, h2, ⟨xs, h3, rfl⟩, h4⟩ := h
  refine ⟨ds, xs, h1, h2, h3, fun p H1 ys e n hL => h4 _ _ (fun b o hb => ?_) ?_⟩
  · have h := e b o hb
    rw [upd_ne (ne_of_none h n)]
    exact h
  · simp only [Den]
    refine ⟨p, ys, rfl, upd_same, hL.mono fun b o hb => ?_⟩
    rw [upd_ne (ne_of_none hb n)]
    exact hb
section
variable {X : Cx} {Γ : Gm} {Ω : Om} {d d1 d2 : D} {ds xs : List D} {e a b c : Expr} {es : List Expr} {pos : Pos} {C f : Addr} {fs : List (Str × D)} {CX : CXT} {k n : Nat} {fd : FuncData} {ps : List Str} {E : XK} {R : List D → D → Prop} {RF : List D → List D → Prop}
theorem fn_F {P : Program} {w : World} {K : PySem.W.Frag} {mg : Str → Option Value} {base : Heap} {x qual : Str} {st : Stmt} {f : Addr} {fd : FuncData} {N ps : List Str} {k : Nat} {e : Expr} {pos : Pos} (F : Fun K x qual st f fd) (S : FnScope N ps (defScope st))
    (hN : ps.length ≤ N.length) (hb : defBody st = [.Return (some e) pos])
    (h : ∀ (cdv : Value) (A : Around) (outer : List Env) (s : Shared) (H : Hp) (E : XK) (ds xs : List D), Room k (A.deeper (PyProof.Rows.envOfC qual (defScope st) s.heap.objs.size f cdv)) → ds.length = ps.length → RF ds xs →
      FD (cxOf CX0 P w K mg base N qual (defScope st) f cdv A outer s H E).nox e (ds.map some ++ List.replicate (N.length - ds.length) none) xs) :
    FnOk P w K mg base CX0 (k + 1) f fd ps (spF K ps.length RF) := by
  refine F.ok S (fun vs H Q E h => ?_) fun cdv A outer s H vs Q E hr hsp => ?_
  · obtain ⟨ds, xs, h1, h2, _⟩ := h
    rw [← h2.len, h1]
  obtain ⟨ds, xs, h1, h2, h3, h4⟩ := hsp
  obtain ⟨t, p, q⟩ := h cdv A outer s H E ds xs hr h1 h3
  rw [hb]
  exact ⟨_, pss_one (ps_ret p), q (L2.start N vs) H (start_ctx h2) _ h4⟩
/-- o.m() -/
theorem ed_meth0 {pl : Sem Bool} {o : Expr} {m : Str} {apos : Pos} (ho : ED X o Γ (.obj C fs)) (hl : ∀ {H gs}, DenF X.K H fs gs → gs.lookup m = none) (c : Cls X.K C) (hm : Meth X.K C m f) (F : FnOk X.prog X.w X.K X.mg X.base CX k f fd ps (spD X.K 1 R)) (hr : Room k X.A) (hb : Binds X.K fd ps []) (hx : Passes CX X E)
    (hR : R [.obj C fs] d)
    (ht : eval (.Call (.Attribute o m apos) [] [] pos) X.env = (do
      let ov ← eval o X.env
      standAt apos.atName
      let (f, first) ← holding [ov] (getMethod ov m pl)
      callWith pos f first (backTo pos (starEach [] X.env)) (backToKw pos (keywordEach [] X.env))) := by rfl) : ED X (.Call (.Attribute o m apos) [] [] pos) Γ d := by
  obtain ⟨to, po, qo⟩ := ho
  refine ⟨_, pe_meth0 po c hm F hr hb .nil hx ht, fun σ H Cc Q r => qo σ H Cc _ fun x H1 e1 h1 => ?_⟩
  obtain ⟨a, dx, gs, rfl, g, hF⟩ := den_obj h1
  exact ⟨a, dx, gs, rfl, g, hl hF, _, d, rfl, DenL.cons h1 DenL.nil, hR, fun v H' e3 h3 => r v H' (e1.trans e3) h3⟩
theorem fd_meth0 {pl : Sem Bool} {o : Expr} {m : Str} {apos : Pos} (ho : ED X o Γ (.obj C fs)) (hl : ∀ {H gs}, DenF X.K H fs gs → gs.lookup m = none) (c : Cls X.K C) (hm : Meth X.K C m f) (F : FnOk X.prog X.w X.K X.mg X.base CX k f fd ps (spF X.K 1 RF)) (hr : Room k X.A) (hb : Binds X.K fd ps []) (hx : Passes CX X E)
    (hR : RF [.obj C fs] xs)
    (ht : eval (.Call (.Attribute o m apos) [] [] pos) X.env = (do
      let ov ← eval o X.env
      standAt apos.atName
      let (f, first) ← holding [ov] (getMethod ov m pl)
      callWith pos f first (backTo pos (starEach [] X.env)) (backToKw pos (keywordEach [] X.env))) := by rfl) : FD X (.Call (.Attribute o m apos) [] [] pos) Γ xs := by
  obtain ⟨to, po, qo⟩ := ho
  refine ⟨_, pe_meth0 po c hm F hr hb .nil hx ht, fun σ H Cc Q r => qo σ H Cc _ fun x H1 e1 h1 => ?_⟩
  obtain ⟨a, dx, gs, rfl, g, hF⟩ := den_obj h1
  exact ⟨a, dx, gs, rfl, g, hl hF, _, xs, rfl, DenL.cons h1 DenL.nil, hR, fun p H2 ys e2 np hL => r p H2 ys (e1.trans e2) np hL⟩
end
end Trk

namespace Trk
open PySem L2 Evl
theorem wo_nil {H : Hp} : wo H [] = H := by
  funext b
  unfold wo
  rw [if_neg (by simp)]
section
variable {X : Cx} {Γ : Gm} {Ω : Om} {d d1 d2 : D} {ds es' : List D} {a b c e : Expr} {es : List Expr} {pos : Pos} {C f : Addr} {fs : List (Str × D)} {CX : CXT} {n k : Nat} {fd : FuncData} {ps : List Str} {E : XK} {R : List D → D → Prop} {p q : Rat}
theorem ND.ed (h : ND X e Γ d) : ED X e Γ d := by
  obtain ⟨t, p, q⟩ := h
  exact ⟨t, p, fun σ H Cc Q k => q σ H Cc Q fun v H' e1 hv => k v H' e1 (by
    have h := hv [] (fun b hb => by cases hb)
    rw [wo_nil] at h
    exact h)⟩
/-! ### C.m(e), m a static method -/
structure SMet (K : PySem.W.Frag) (C : Addr) (m : Str) (p f : Addr) : Prop where
  rd : PySem.W.readsIn K C (.type "type") = true
  ga : PySem.W.specialIn K (.ref C) "__getattribute__" = some (some (.builtin "type.__getattribute__"))
  at_ : PySem.W.findCls K (.ref C) (.type "type") m = some (.get (.builtin "staticmethod.__get__") (.ref p) .none (.ref C))
  rc : ∃ rest, PySem.W.recIn K p "staticmethod" = some (.ref f :: rest)
  kp : PySem.W.keepIn K (.ref f) = true
def tSMeth (C : Addr) (sp : Sp) (E : XK) (ta : TE) (t : TA) : TE := fun σ H Q => ta σ H fun x H1 => x = .ref C ∧ t σ H1 fun vs H2 => sp vs H2 Q E
theorem pe_smeth {pl : Sem Bool} {sp : Sp} {ta : TE} {t : TA} {pa : Addr} {o : Expr} {m : Str} {apos : Pos} (he : PE X o ta) (S : SMet X.K C m pa f) (F : FnOk X.prog X.w X.K X.mg X.base CX k f fd ps sp) (hr : Room k X.A) (hb : Binds X.K fd ps []) (hx : Passes CX X E) (ha : PA X (e :: es) t)
    (hst : starEach (e :: es) X.env = (false, eval e X.env) :: starEach es X.env := by rfl) (hpl : (backTo pos (starEach es X.env)).any (·.1) = false := by rfl)
    (ht : eval (.Call (.Attribute o m apos) (e :: es) [] pos) X.env = (do
      let ov ← eval o X.env
      standAt apos.atName
      let (f, first) ← holding [ov] (getMethod ov m pl)
      callWith pos f first (backTo pos (starEach (e :: es) X.env)) (backToKw pos (keywordEach [] X.env))) := by rfl) :
    PE X (.Call (.Attribute o m apos) (e :: es) [] pos) (tSMeth C sp E ta t) := by
  refine ⟨fun pins s σ H Q I h => ?_⟩
  refine PySem.W.methodCall_KW (pl := pl) (thn (he.run pins s σ H _ I h) fun u s1 ⟨x, H1, I1, rx, ex, q⟩ => ?_) ht
  subst ex
  obtain rfl : u = Value.ref C := rx
  obtain ⟨rest, hp⟩ := S.rc
  refine PySem.W.method_cls I1.kIn S.ga (PySem.W.cls_bind I1.kIn S.rd S.at_ (PySem.wpAny_call (PySem.W.sm_get (s := { s1 with toks := s1.toks + 1 }) I1.kIn hp (PySem.W.handed_on rfl ?_))))
  have I2 : Inv X pins σ H1 { s1 with toks := s1.toks + 1 } := I1.tok _
  refine PySem.W.callWith_K (first := []) (h₀ := X.base) I.ok.mod.kin S.kp (thn (ha.run pos pins _ σ H1 _ I2 q) fun us s2 ⟨vs, H2, I3, r, q2⟩ => ⟨I3.kIn, ?_⟩) hst hpl
  exact run_fn F hr hb .nil hx I3 r (by rw [List.append_nil]; exact q2)
theorem ed_smeth {pl : Sem Bool} {pa : Addr} {o : Expr} {m : Str} {apos : Pos} (ho : ED X o Γ (.v (.ref C))) (S : SMet X.K C m pa f) (F : FnOk X.prog X.w X.K X.mg X.base CX k f fd ps (spD X.K n R)) (hr : Room k X.A) (hb : Binds X.K fd ps []) (hx : Passes CX X E) (ha : AD X (e :: es) Γ ds) (hR : R ds d) (hn : ds.length = n := by rfl)
    (hst : starEach (e :: es) X.env = (false, eval e X.env) :: starEach es X.env := by rfl) (hpl : (backTo pos (starEach es X.env)).any (·.1) = false := by rfl)
    (ht : eval (.Call (.Attribute o m apos) (e :: es) [] pos) X.env = (do
      let ov ← eval o X.env
      standAt apos.atName
      let (f, first) ← holding [ov] (getMethod ov m pl)
      callWith pos f first (backTo pos (starEach (e :: es) X.env)) (backToKw pos (keywordEach [] X.env))) := by rfl) :
    ED X (.Call (.Attribute o m apos) (e :: es) [] pos) Γ d := by
  obtain ⟨to, po, qo⟩ := ho
  obtain ⟨t, p, q⟩ := ha
  refine ⟨_, pe_smeth po S F hr hb hx p hst hpl ht, fun σ H Cc Q r => qo σ H Cc _ fun x H1 e1 h1 => ⟨den_v.mp h1, q σ H1 (Cc.mono e1) _ fun vs H2 e2 h2 => ⟨ds, d, hn, h2, hR, fun v H' e3 h3 => r v H' ((e1.trans e2).trans e3) h3⟩⟩⟩
/-- tuple(list) -/
theorem ed_tupOf {p : Pos} (hm : X.mg "tuple" = none) (ha : ED X a Γ (.lst ds)) (hg : Gl X "tuple" := by rfl) (he : starEach (a :: []) X.env = (false, eval a X.env) :: starEach [] X.env := by rfl) (hpl : (backTo pos (starEach [] X.env)).any (·.1) = false := by rfl) :
    ED X (.Call (.Name "tuple" p) [a] [] pos) Γ (.tup ds) := by
  refine ed_callTy (d := .tup ds) call_tuple_of hm (by decide +kernel) (ad_cons ha ad_nil he) (fun xs H h Q q => ?_) hg (by decide) (by decide) he hpl
  obtain ⟨x, rfl, h1⟩ := denL_one h
  simp only [Den] at h1
  obtain ⟨l, ys, rfl, g1, g2⟩ := h1
  refine ⟨l, ys, rfl, .inl ⟨SqL.of g1, fun m nm => q _ _ (Ex.new nm) ?_⟩⟩
  simp only [Den]
  exact ⟨m, ys, rfl, st_of upd_same, g2.mono (Ex.new nm)⟩
theorem ed_lenT {p : Pos} (hm : X.mg "len" = none) (ha : ED X a Γ (.tup ds)) (hg : Gl X "len" := by rfl) (he : starEach (a :: []) X.env = (false, eval a X.env) :: starEach [] X.env := by rfl) (hpl : (backTo pos (starEach [] X.env)).any (·.1) = false := by rfl) :
    ED X (.Call (.Name "len" p) [a] [] pos) Γ (iD (ds.length : Int)) := by
  refine ed_callB (d := iD (ds.length : Int)) call_len_seq hm PySem.boot_len (ad_cons ha ad_nil he) (fun xs H h Q q => ?_) hg (by decide) (by decide) he hpl
  obtain ⟨x, rfl, h1⟩ := denL_one h
  simp only [Den] at h1
  obtain ⟨p, ys, rfl, hq, hL⟩ := h1
  refine ⟨p, ys, rfl, .inr hq, ?_⟩
  rw [← hL.len]
  exact q _ H (Ex.refl H) (den_v.mpr rfl)
/-- the empty tuple of the written part -/
theorem den_tup0 {K : PySem.W.Frag} {H : Hp} {T : Addr} {od : Option Addr} {m : Nat} {sl : Array (Option Value)} (h : K.lookup T = some ⟨.type "tuple", od, .seq #[] m, sl⟩) : Den K H (.tup []) (.ref T) := by
  simp only [Den]
  exact ⟨T, [], rfl, .inr ⟨_, #[], m, h, rfl, rfl, Nat.zero_le _, .nil⟩, DenL.nil⟩
/-! ### ints of any size to a small power -/
def CPowW (i j : Int) : Prop := 0 ≤ j ∧ j ≤ 100 ∧ i.natAbs < 2 ^ 1000
theorem op_powW : OpR X (binaryOp .Pow) (rI CPowW fun i j => .int (i ^ j.toNat)) := opI fun i j _ _ _ _ _ hc q => PyProof.Rows.pow_int hc.1 (by
  have h1 : i.natAbs.log2 < 1000 := PySem.Flt.log2_lt_of (by decide) hc.2.2
  have h2 : Builtin.Int.intBits i ≤ i.natAbs.log2 + 1 := by
    unfold Builtin.Int.intBits
    split <;> omega
  have h3 : (Builtin.Int.intBits i : Int) ≤ 1000 := by omega
  have h4 := Int.mul_le_mul h3 hc.2.1 hc.1 (by decide)
  omega) q
/-- -o by an own __neg__ -/
theorem ed_negO (M : CmpM X.K C "__neg__" f) (F : FnOk X.prog X.w X.K X.mg X.base CX k f fd ps (spD X.K 1 R)) (hr : Room k X.A) (hb : Binds X.K fd ps []) (hx : Passes CX X E) (ha : ED X a Γ (.obj C fs)) (hR : R [.obj C fs] d) : ED X (.UnaryOp .USub a pos) Γ d := by
  refine ed_un (r := fun x H Q => ∃ a dx fs, x = .ref a ∧ H a = some (.ins C dx fs) ∧ spD X.K 1 R [x] H Q E) ?_ ha ?_
  · intro pins s σ H x v Q I rx h
    obtain ⟨a, dx, fs, rfl, ha, hsp⟩ := h
    cases rx
    obtain ⟨mA, J, _⟩ := ins_get I.hok ha
    obtain ⟨od, J, _⟩ := J.look
    obtain ⟨m, hF⟩ := I.fr
    exact PySem.W.ksp_neg hF I.ok.mod.kin J M.find M.fn (run_in F hr I.env0 hb hx I (vals_r a) hsp)
  · intro x H hx Q q
    have hx' := hx
    obtain ⟨a, dx, gs, rfl, h, _⟩ := den_obj hx
    exact ⟨a, dx, _, rfl, h, _, _, rfl, DenL.cons hx' DenL.nil, hR, q⟩
theorem fd_is {e : Expr} (h : FD X e Γ ds) (q : ds = es') : FD X e Γ es' := q ▸ h
theorem fs_is {i : Nat} {st : Stmt} (h : FS X i st Γ ds) (q : ds = es') : FS X i st Γ es' := q ▸ h
end
section
variable {X : Cx} {Γ : Gm} {ds : List D} {st : Stmt} {sts : List Stmt} {Φ : Out → Prop}
theorem z_asgFS (i : Nat) (he : FS X i st Γ ds) (k : SsD X sts (Γ.set i (some (.lst ds))) Φ) (hi : i < X.N.length := by exact Nat.le_of_ble_eq_true rfl) : SsD X (st :: sts) Γ Φ := by
  refine ss_seq (Ψ := fun o => o = .nx (Γ.set i (some (.lst ds)))) ?_ (fun Γ' h => by
    cases h
    exact k) fun o h1 h2 => absurd h2 (h1 _)
  obtain ⟨t, p, q⟩ := he
  refine ⟨_, p, fun σ H hl C E T => q σ H C _ fun p H1 ys e1 n hL => ?_⟩
  refine T.nx _ _ _ rfl (e1.trans (Ex.new n)) (by rw [List.length_set]; exact hl) ((C.mono (e1.trans (Ex.new n))).set (by rw [hl]; exact hi) ?_)
  simp only [Den]
  exact ⟨p, ys, rfl, upd_same, hL.mono (Ex.new n)⟩
end
end Trk

namespace Trk
open PySem L2 Evl
section
variable {X : Cx} {Γ : Gm} {Ω : Om} {d d1 d2 : D} {ds es' : List D} {a b c e e2 : Expr} {es : List Expr} {pos : Pos} {C f : Addr} {fs : List (Str × D)} {CX : CXT} {n k : Nat} {fd : FuncData} {ps : List Str} {E : XK} {R : List D → D → Prop} {p q : Rat} {st : Stmt} {sts body : List Stmt} {Φ Ψ : Out → Prop}
/-- the ends of a loop's turn -/
abbrev TurnO (X : Cx) (sts : List Stmt) (Φ : Out → Prop) (J : Gm → Prop) : Out → Prop := fun o => (∃ Γ'', (o = .nx Γ'' ∨ o = .ct Γ'') ∧ J Γ'') ∨ (∃ d, o = .rt d ∧ Φ (.rt d)) ∨ (∃ Γ'', o = .bk Γ'' ∧ SsD X sts Γ'' Φ) ∨ ∃ c fs Γ'', o = .ex c fs Γ'' ∧ Φ (.ex c fs Γ'')
/-- for x, y in zip(a, b) -/
theorem z_forZ (i1 i2 : Nat) {x y : Str} {p1 p2 p3 p4 tp : Pos} {kk : Nat} (J : Nat → Gm → Prop) (hc : X.calm = true) (hm : X.mg "zip" = none) (ha : ED X e Γ (.lst ds)) (hb : ED X e2 Γ (.lst es')) (hd : X.N.Nodup) (h0 : J 0 Γ)
    (hs : ∀ j dj ej Γ', ds[j]? = some dj → es'[j]? = some ej → J j Γ' → SsD X body ((Γ'.set i1 (some dj)).set i2 (some ej)) (TurnO X sts Φ (J (j + 1))))
    (k : ∀ Γ', J (min ds.length es'.length) Γ' → SsD X sts Γ' Φ) (hp : PassesOwn (model X.prog X.w) X.A X.env X.xe := by exact PassesOwn.never) (hN : X.N[i1]? = some x := by rfl) (hN2 : X.N[i2]? = some y := by rfl) (hx : Loc X.env.scope x := by first | exact Or.inl rfl | exact Or.inr rfl) (hy : Loc X.env.scope y := by first | exact Or.inl rfl | exact Or.inr rfl)
    (hg : Gl X "zip" := by rfl) (hst : starEach [e, e2] X.env = (false, eval e X.env) :: starEach [e2] X.env := by rfl) (hs1 : starEach (e2 :: []) X.env = (false, eval e2 X.env) :: starEach [] X.env := by rfl) (hpl : (backTo p2 (starEach [e2] X.env)).any (·.1) = false := by rfl)
    (hf : X.fn x = true ∨ X.env.scope.names.lookup x = some .local := by first | exact .inl rfl | exact .inr rfl) (hf2 : X.fn y = true ∨ X.env.scope.names.lookup y = some .local := by first | exact .inl rfl | exact .inr rfl)
    (hpg : ∀ {t u : TG}, PG X (.Name x p3) t → PG X (.Name y p4) u → PG X (.Tuple [.Name x p3, .Name y p4] kk tp) (gTup X.K 2 (gCons t (gCons u gNil))) := by intro _ _ h1 h2; exact pg_tup rfl (pgs_cons h1 (pgs_cons h2 pgs_nil)))
    (hfs : ∀ x, foldedSetIterable (.Call (.Name "zip" p1) [e, e2] [] p2) X.env x = pure x := by intro _; rfl) : SsD X (.For (.Tuple [.Name x p3, .Name y p4] kk tp) (.Call (.Name "zip" p1) [e, e2] [] p2) body [] pos :: sts) Γ Φ := by
  obtain ⟨ta, pa, qa⟩ := ha
  obtain ⟨tb, pb, qb⟩ := hb
  refine ⟨_, pss_cons (ps_for hp hc (pi_zip hg hm (pa_cons pa (pa_cons pb pa_nil hs1) hst) hst hpl) (hpg (pg_name (i := i1) hd hN hx hf) (pg_name (i := i2) hd hN2 hy hf2)) (pss_all (st' := body)) hfs) (pss_all (st' := sts)), fun σ H hl C E T => ?_⟩
  refine qa σ H C _ fun v H1 e1 h1 => qb σ H1 (C.mono e1) _ fun w H2 e3 h2 => ?_
  have h1' := h1.mono e3
  simp only [Den] at h1' h2
  obtain ⟨l, xs, rfl, hq, hL⟩ := h1'
  obtain ⟨m, ys, rfl, hq2, hM⟩ := h2
  refine ⟨l, m, xs, ys, rfl, SqL.of hq, SqL.of hq2, ?_⟩
  have hi1 : i1 < X.N.length := (List.getElem?_eq_some_iff.mp hN).1
  have hi2 : i2 < X.N.length := (List.getElem?_eq_some_iff.mp hN2).1
  have e12 : Ex H H2 := e1.trans e3
  refine for_it (walk_zip (K := X.K) (a := l) (b := m) (xs := xs) (ys := ys) (n := min ds.length es'.length) (by rw [hL.len, hM.len])) (fun j σ' H' => ∃ Γ', J j Γ' ∧ σ'.length = X.N.length ∧ Ctx X.K H' Γ' σ' ∧ Ex H2 H') ⟨Γ, h0, hl, C.mono e12, Ex.refl H2⟩ (fun j σ' H' _ ⟨Γ', _, _, _, g4⟩ => ⟨SqL.of (g4 _ _ hq), SqL.of (g4 _ _ hq2)⟩) ?_ ?_
  · rintro j z σ' H' H'' hj ⟨Γ', g1, g2, g3, g4⟩ ⟨T0, x0, y0, rfl, hT, rfl, hxj, hyj⟩
    have hj1 : j < ds.length := by omega
    have hj2 : j < es'.length := by omega
    obtain ⟨x2, hx2, hdx⟩ := hL.get (i := j) (d := ds[j]) (List.getElem?_eq_getElem hj1)
    obtain ⟨y2, hy2, hdy⟩ := hM.get (i := j) (d := es'[j]) (List.getElem?_eq_getElem hj2)
    have hxj' : xs[j]? = some x0 := hxj
    have hyj' : ys[j]? = some y0 := hyj
    rw [hx2] at hxj'
    rw [hy2] at hyj'
    cases hxj'
    cases hyj'
    have up : Ex H2 (upd H' T0 (.tup [x0, y0])) := g4.trans (Ex.new hT)
    refine ⟨T0, [x0, y0], rfl, st_of upd_same, rfl, x0, [y0], rfl, y0, [], rfl, rfl, ?_⟩
    show allS X body _ ((σ'.set i1 (some x0)).set i2 (some y0)) (upd H' T0 (.tup [x0, y0]))
    refine (hs j ds[j] es'[j] Γ' (List.getElem?_eq_getElem hj1) (List.getElem?_eq_getElem hj2) g1).all (by rw [List.length_set, List.length_set]; exact g2) (((g3.mono (Ex.new hT)).set (by rw [g2]; exact hi1) (hdx.mono up)).set (by rw [List.length_set, g2]; exact hi2) (hdy.mono up)) ?_
    refine ⟨fun Γ'' σ2 H2 z e2 l2 c2 => ?_, fun d v H2 z e2 hv => ?_, fun Γ'' σ2 H2 z e2 l2 c2 => ?_, fun Γ'' σ2 H2 z e2 l2 c2 => ?_, fun cl fs Γ'' d σ2 H2 z e2 l2 c2 x2 => ?_⟩
    · rcases z with ⟨Γ3, z | z, w⟩ | ⟨_, z, _⟩ | ⟨_, z, _⟩ | ⟨_, _, _, z, _⟩ <;> cases z
      exact ⟨Γ'', w, l2, c2, up.trans e2⟩
    · rcases z with ⟨Γ3, z | z, w⟩ | ⟨_, z, w⟩ | ⟨_, z, _⟩ | ⟨_, _, _, z, _⟩ <;> cases z
      exact T.rt d v H2 w ((e12.trans up).trans e2) hv
    · rcases z with ⟨Γ3, z | z, w⟩ | ⟨_, z, w⟩ | ⟨_, z, w⟩ | ⟨_, _, _, z, _⟩ <;> cases z
      exact w.all l2 c2 (T.mono ((e12.trans up).trans e2))
    · rcases z with ⟨Γ3, z | z, w⟩ | ⟨_, z, w⟩ | ⟨_, z, w⟩ | ⟨_, _, _, z, _⟩ <;> cases z
      exact ⟨Γ'', w, l2, c2, up.trans e2⟩
    · rcases z with ⟨Γ3, z | z, w⟩ | ⟨_, z, w⟩ | ⟨_, z, w⟩ | ⟨_, _, _, z, w⟩ <;> cases z
      exact T.ex cl fs Γ'' d σ2 H2 w ((e12.trans up).trans e2) l2 c2 x2
  · rintro σ' H' ⟨Γ', g1, g2, g3, g4⟩
    exact (k Γ' g1).all g2 g3 (T.mono (e12.trans g4))
/-! ### a sign of an own class, both of the class -/
theorem op_ownP {f : Addr} {sp : Sp} {op : Operator} (h1 : PySem.W.selfFirst X.K C = true) (h2 : PySem.W.findIn X.K (.ref C) (PySem.dunder op.info.2) = some (some (.ref f))) (h3 : PySem.W.isFn X.K (.ref f) = true)
    (F : FnOk X.prog X.w X.K X.mg X.base CX k f fd ps sp) (hr : Room k X.A) (hb : Binds X.K fd ps []) (hx : Passes CX X E) : OpR X (binaryOp op) (rOwn C sp E) := by
  intro pins s σ H x y v u Q I rx ry h
  obtain ⟨a, b, dx, dy, fs, gs, rfl, rfl, ha, hb', hsp⟩ := h
  cases rx
  cases ry
  obtain ⟨mA, J, _⟩ := ins_get I.hok ha
  obtain ⟨mB, J', _⟩ := ins_get I.hok hb'
  obtain ⟨od, J, _⟩ := J.look
  obtain ⟨od', J', _⟩ := J'.look
  obtain ⟨m, hF⟩ := I.fr
  exact PySem.W.binop_K hF I.ok.mod.kin J J'.type h1 h2 h3 (back_of F hr hb hx I (vals_rr a b) hsp)
/-! ### is None -/
theorem rd_isN {K : PySem.W.Frag} (hd : d = .v .non) : RD K (fun x y H Q => y = .non ∧ Q (.bl (decide (x = .non))) H) d (.v .non) (bD true) := fun x y H h1 h2 Q q => by
  subst hd
  rw [den_v.mp h1, den_v.mp h2]
  exact ⟨rfl, q _ H (Ex.refl H) (den_v.mpr rfl)⟩
theorem rd_isT {K : PySem.W.Frag} {xs : List D} : RD K (fun x y H Q => y = .non ∧ Q (.bl (decide (x = .non))) H) (.tup xs) (.v .non) (bD false) := fun x y H h1 h2 Q q => by
  rw [den_v.mp h2]
  simp only [Den] at h1
  obtain ⟨a, ys, rfl, _⟩ := h1
  exact ⟨rfl, q _ H (Ex.refl H) (den_v.mpr rfl)⟩
theorem rd_isL {K : PySem.W.Frag} {xs : List D} : RD K (fun x y H Q => y = .non ∧ Q (.bl (decide (x = .non))) H) (.lst xs) (.v .non) (bD false) := fun x y H h1 h2 Q q => by
  rw [den_v.mp h2]
  simp only [Den] at h1
  obtain ⟨a, ys, rfl, _⟩ := h1
  exact ⟨rfl, q _ H (Ex.refl H) (den_v.mpr rfl)⟩
end
theorem rd_B {K : PySem.W.Frag} {g : Int → Int → Bool} {i j : Int} {k : Bool} (h : g i j = k) : RD K (rI0 fun i j => .bl (g i j)) (iD i) (iD j) (bD k) := by
  subst h
  exact rd_I0
theorem ab_eq (i : Int) : (if i < 0 then -i else i) = (i.natAbs : Int) := by split <;> omega
end Trk

/-! A method called by position that may raise; for over a range that counts down, beside own lists. -/
namespace Trk
open PySem L2 Evl
section
variable {X : Cx} {C : Addr} {Γ : Gm} {pos : Pos} {d d1 d2 : D}
def tMethS (C : Addr) (m : Str) (sp : Sp) (E : L2.St → XK) (ta : TE) (tk : TA) : TE := fun σ H Q => ta σ H fun x H1 => ∃ a dx fs, x = .ref a ∧ H1 a = some (.ins C dx fs) ∧ fs.lookup m = none ∧
  tk σ H1 fun zs H2 => sp (x :: zs) H2 Q (E σ)
theorem pe_methS {CX : CXT} {k : Nat} {f : Addr} {fd : FuncData} {ps : List Str} {sp : Sp} {E : L2.St → XK} {pl : Sem Bool} {o e : Expr} {es : List Expr} {m : Str} {apos : Pos} {ta : TE} {t : TA}
    (he : PE X o ta) (c : Cls X.K C) (hm : Meth X.K C m f) (F : FnOk X.prog X.w X.K X.mg X.base CX k f fd ps sp) (hr : Room k X.A) (hb : Binds X.K fd ps []) (pa : ∀ σ, PassesAt CX X σ (E σ)) (ha : PA X (e :: es) t)
    (hst : starEach (e :: es) X.env = (false, eval e X.env) :: starEach es X.env := by rfl) (hpl : (backTo pos (starEach es X.env)).any (·.1) = false := by rfl)
    (ht : eval (.Call (.Attribute o m apos) (e :: es) [] pos) X.env = (do
      let ov ← eval o X.env
      standAt apos.atName
      let (f, first) ← holding [ov] (getMethod ov m pl)
      callWith pos f first (backTo pos (starEach (e :: es) X.env)) (backToKw pos (keywordEach [] X.env))) := by rfl) :
    PE X (.Call (.Attribute o m apos) (e :: es) [] pos) (tMethS C m sp E ta t) := by
  refine ⟨fun pins s σ H Q I h => ?_⟩
  refine PySem.W.methodCall_KW (pl := pl) (thn (he.run pins s σ H _ I h) fun u s1 got => ?_) ht
  obtain ⟨x, H1, I1, rx, a, dx, fs, ex, ea, l, q⟩ := got
  subst ex
  obtain rfl : u = Value.ref a := rx
  refine getmeth_ok I1 ea c hm l ?_
  refine PySem.W.callWith_K (first := [.ref a]) (h₀ := X.base) I.ok.mod.kin hm.kp (thn (ha.run pos pins _ σ H1 _ I1 q) fun us s2 ⟨vs, H2, I2, rz, q2⟩ => ⟨I2.kIn, ?_⟩) hst hpl
  have rel : Vals (.ref a :: vs) ([.ref a] ++ us) := .cons (show RelV (V.ref a) (Value.ref a) from rfl) rz
  have bound := hb s2 ([Value.ref a] ++ us) I2.kIn (by
    rw [List.append_nil, ← rel.length]
    exact F.len _ _ _ _ q2)
  rw [List.append_nil] at bound
  refine wpAny_call (codeAny_mono (F.run X.A X.stack s2 H2 ⟨[Value.ref a] ++ us, []⟩ _ _ Q (E σ) hr I2.env0 bound rel q2) fun res s' out => ?_)
  rcases res with err | fl
  · exact pa σ pins H2 s2 err s' I2 out
  · cases fl with
    | ret u => exact I2.after out
    | next => exact out.elim
    | brk => exact out.elim
    | cont => exact out.elim
/-- o.m(e) that may raise -/
theorem pos_one {k : Nat} {f : Addr} {fd : FuncData} {ps : List Str} {R : List D → D → Prop} {RX : List D → Value → List (Str × D) → Prop} {pl : Sem Bool} {o e : Expr} {m : Str} {apos : Pos} {fs : List (Str × D)}
    (ho : ED X o Γ (.obj C fs)) (hl : ∀ {H gs}, DenF X.K H fs gs → gs.lookup m = none) (c : Cls X.K C) (hm : Meth X.K C m f) (F : FnOk X.prog X.w X.K X.mg X.base (L2.CX X.prog X.w) k f fd ps (spX X.K 2 R RX)) (hr : Room k X.A) (hb : Binds X.K fd ps []) (hv : ED X e Γ d2)
    (hst : starEach (e :: []) X.env = (false, eval e X.env) :: starEach [] X.env := by rfl) (hpl : (backTo pos (starEach [] X.env)).any (·.1) = false := by rfl)
    (ht : eval (.Call (.Attribute o m apos) [e] [] pos) X.env = (do
      let ov ← eval o X.env
      standAt apos.atName
      let (f, first) ← holding [ov] (getMethod ov m pl)
      callWith pos f first (backTo pos (starEach [e] X.env)) (backToKw pos (keywordEach [] X.env))) := by rfl) :
    (∀ d, R [.obj C fs, d2] d → ED X (.Call (.Attribute o m apos) [e] [] pos) Γ d) ∧ ∀ cls xs, RX [.obj C fs, d2] cls xs → XD X (.Call (.Attribute o m apos) [e] [] pos) Γ cls xs := by
  obtain ⟨ta, pa, qa⟩ := ho
  obtain ⟨tv, pv, qv⟩ := hv
  have P := pe_methS pa c hm F hr hb (fun σ => passW) (pa_cons pv pa_nil hst) hst hpl ht
  constructor
  · intro d hR
    refine ⟨_, P, fun σ H Cc Q r => qa σ H Cc _ fun x H1 e1 h1 => ?_⟩
    have h1' := h1
    simp only [Den] at h1'
    obtain ⟨a, dx, gs, rfl, ha, hF⟩ := h1'
    exact ⟨a, dx, gs, rfl, ha, hl hF, qv σ H1 (Cc.mono e1) _ fun y H2 e2 h2 => ⟨_, rfl, DenL.cons (h1.mono e2) (DenL.cons h2 DenL.nil), .inl ⟨d, hR, fun v H' e3 h3 => r v H' ((e1.trans e2).trans e3) h3⟩⟩⟩
  · intro cls xs hR
    refine ⟨_, P, fun σ H Cc r Q => qa σ H Cc _ fun x H1 e1 h1 => ?_⟩
    have h1' := h1
    simp only [Den] at h1'
    obtain ⟨a, dx, gs, rfl, ha, hF⟩ := h1'
    exact ⟨a, dx, gs, rfl, ha, hl hF, qv σ H1 (Cc.mono e1) _ fun y H2 e2 h2 => ⟨_, rfl, DenL.cons (h1.mono e2) (DenL.cons h2 DenL.nil), .inr ⟨cls, xs, hR, fun d H' e3 h3 => r d H' ((e1.trans e2).trans e3) h3⟩⟩⟩
end
section
variable {X : Cx} {Γ : Gm} {Ω : Om} {pos : Pos} {a b c : Expr} {sts body : List Stmt} {Φ : OutO → Prop}
/-- for x in range(i, j, c) -/
theorem so_forRC (i : Nat) {x : Str} {lo hi st : Int} {n : Nat} {p1 p2 p3 : Pos} (J : Nat → Gm → Om → Prop) (hc : X.calm = true) (hm : X.mg "range" = none) (ha : ED X a (pl Ω Γ) (iD lo)) (hb : ED X b (pl Ω Γ) (iD hi)) (hcc : ED X c (pl Ω Γ) (iD st)) (hd : X.N.Nodup) (hn : RgC lo hi st n) (h0 : J 0 Γ Ω) (ho : ∀ k Γ' Ω', J k Γ' Ω' → ∀ j es, (j, es) ∈ Ω' → j ≠ i)
    (hs : ∀ j Γ' Ω', j < n → J j Γ' Ω' → SO X body (Γ'.set i (some (iD (lo + (j : Nat) * st)))) Ω' (fun o => (∃ Γ2 Ω2, (o = .nx Γ2 Ω2 ∨ o = .ct Γ2 Ω2) ∧ J (j + 1) Γ2 Ω2) ∨ (∃ d, o = .rt d ∧ Φ (.rt d)) ∨ (∃ Γ2 Ω2, o = .bk Γ2 Ω2 ∧ SO X sts Γ2 Ω2 Φ) ∨ ∃ c fs Γ2 Ω2, o = .ex c fs Γ2 Ω2 ∧ Φ (.ex c fs Γ2 Ω2)))
    (k : ∀ Γ' Ω', J n Γ' Ω' → SO X sts Γ' Ω' Φ) (hp : PassesOwn (model X.prog X.w) X.A X.env X.xe := by exact PassesOwn.never) (hN : X.N[i]? = some x := by rfl) (hx : Loc X.env.scope x := by first | exact Or.inl rfl | exact Or.inr rfl) (hg : Gl X "range" := by rfl)
    (hse : starEach (a :: b :: c :: []) X.env = (false, eval a X.env) :: starEach (b :: c :: []) X.env := by rfl) (hse2 : starEach (b :: c :: []) X.env = (false, eval b X.env) :: starEach (c :: []) X.env := by rfl) (hse3 : starEach (c :: []) X.env = (false, eval c X.env) :: starEach [] X.env := by rfl)
    (hpl : (backTo p2 (starEach (b :: c :: []) X.env)).any (·.1) = false := by rfl)
    (hf : X.fn x = true ∨ X.env.scope.names.lookup x = some .local := by first | exact .inl rfl | exact .inr rfl)
    (hfs : ∀ x, foldedSetIterable (.Call (.Name "range" p1) [a, b, c] [] p2) X.env x = pure x := by intro _; rfl) : SO X (.For (.Name x p3) (.Call (.Name "range" p1) [a, b, c] [] p2) body [] pos :: sts) Γ Ω Φ := by
  obtain ⟨ta, pa, qa⟩ := ha
  obtain ⟨tb, pb, qb⟩ := hb
  obtain ⟨tc, pc, qc⟩ := hcc
  intro σ F H as hl C E T
  refine all_cons (ps_for hp hc (pi_range3 hg hm (pa_cons pa (pa_cons pb (pa_cons pc pa_nil hse3) hse2) hse) hse hpl) (pg_name (i := i) hd hN hx hf) (pss_all (st' := body)) hfs) (qa σ H C.read _ fun v H1 e1 h1 => qb σ H1 (C.read.mono e1) _ fun v2 H2 e2' h2 => qc σ H2 ((C.read.mono e1).mono e2') _ fun v3 H3 e3' h3 => ?_)
  refine ⟨lo, hi, st, n, by rw [den_v.mp h1, den_v.mp h2, den_v.mp h3], hn, ?_⟩
  obtain ⟨e2, C2, _⟩ := C.grow ((e1.trans e2').trans e3')
  refine for_rangeC (lo := lo) (c := st) (n := n) (fun j σ' H' => ∃ Γ' Ω' F' as', J j Γ' Ω' ∧ σ'.length = X.N.length ∧ COwn X.K F' H' Γ' Ω' as' σ' ∧ Ex (wo H3 as) F') ⟨Γ, Ω, wo H3 as, as, h0, hl, C2, Ex.refl _⟩ ?_ ?_
  · rintro j σ' H' hj ⟨Γ', Ω', F', as', g1, g2, g3, g4⟩
    show allS X body _ (σ'.set i (some (.int (lo + (j : Nat) * st)))) H'
    refine hs j Γ' Ω' hj g1 _ F' H' as' (by rw [List.length_set]; exact g2) (g3.put (ho j Γ' Ω' g1) (slot_lt hN g2) (den_v.mpr rfl)) _ ?_
    refine ⟨fun Γ2 Ω2 σ2 F2 H2 as2 z e3 l2 c2 => ?_, fun d v H2 z e3 hv => ?_, fun Γ2 Ω2 σ2 F2 H2 as2 z e3 l2 c2 => ?_, fun Γ2 Ω2 σ2 F2 H2 as2 z e3 l2 c2 => ?_, fun cl fs Γ2 Ω2 d σ2 F2 H2 as2 z e3 l2 c2 x2 => ?_⟩
    · rcases z with ⟨Γ3, Ω3, z | z, w⟩ | ⟨_, z, _⟩ | ⟨_, _, z, _⟩ | ⟨_, _, _, _, z, _⟩ <;> cases z
      exact ⟨Γ2, Ω2, F2, as2, w, l2, c2, g4.trans e3⟩
    · rcases z with ⟨Γ3, Ω3, z | z, w⟩ | ⟨_, z, w⟩ | ⟨_, _, z, _⟩ | ⟨_, _, _, _, z, _⟩ <;> cases z
      exact T.rt d v H2 w ((e2.trans g4).trans e3) hv
    · rcases z with ⟨Γ3, Ω3, z | z, w⟩ | ⟨_, z, w⟩ | ⟨_, _, z, w⟩ | ⟨_, _, _, _, z, _⟩ <;> cases z
      exact w σ2 F2 H2 as2 l2 c2 E (T.mono ((e2.trans g4).trans e3))
    · rcases z with ⟨Γ3, Ω3, z | z, w⟩ | ⟨_, z, w⟩ | ⟨_, _, z, w⟩ | ⟨_, _, _, _, z, _⟩ <;> cases z
      exact ⟨Γ2, Ω2, F2, as2, w, l2, c2, g4.trans e3⟩
    · rcases z with ⟨Γ3, Ω3, z | z, w⟩ | ⟨_, z, w⟩ | ⟨_, _, z, w⟩ | ⟨_, _, _, _, z, w⟩ <;> cases z
      exact T.ex cl fs Γ2 Ω2 d σ2 F2 H2 as2 w ((e2.trans g4).trans e3) l2 c2 x2
  · rintro σ' H' ⟨Γ', Ω', F', as', g1, g2, g3, g4⟩
    exact k Γ' Ω' g1 σ' F' H' as' g2 g3 E (T.mono (e2.trans g4))
theorem rgc_down {lo hi : Int} {n : Nat} (h : (n : Int) = lo - hi) (h1 : lo < 2 ^ 61) (h2 : -(2 ^ 61) < hi) : RgC lo hi (-1) n := by
  have z := RgC.neg (i := lo) (j := hi) (by omega) (by omega) (by omega) (by omega)
  rwa [show (lo - hi).toNat = n by omega] at z
end
end Trk

/-! for over enumerate by values; try beside own lists. -/
namespace Trk
open PySem L2 Evl
section
variable {X : Cx} {Γ : Gm} {Ω : Om} {d d1 d2 : D} {ds es' : List D} {a b c e e2 : Expr} {es : List Expr} {pos : Pos} {C f : Addr} {fs : List (Str × D)} {CX : CXT} {n k : Nat} {fd : FuncData} {ps : List Str} {E : XK} {R : List D → D → Prop} {p q : Rat} {st : Stmt} {sts body : List Stmt} {Φ Ψ : Out → Prop}
/-- for x, y in enumerate(a) -/
theorem z_forE (i1 i2 : Nat) {x y : Str} {p1 p2 p3 p4 tp : Pos} {kk : Nat} (J : Nat → Gm → Prop) (hc : X.calm = true) (hm : X.mg "enumerate" = none) (ha : ED X e Γ (.lst ds)) (hd : X.N.Nodup) (h0 : J 0 Γ)
    (hs : ∀ j dj Γ', ds[j]? = some dj → J j Γ' → SsD X body ((Γ'.set i1 (some (iD (j : Int)))).set i2 (some dj)) (TurnO X sts Φ (J (j + 1))))
    (k : ∀ Γ', J ds.length Γ' → SsD X sts Γ' Φ) (hp : PassesOwn (model X.prog X.w) X.A X.env X.xe := by exact PassesOwn.never) (hN : X.N[i1]? = some x := by rfl) (hN2 : X.N[i2]? = some y := by rfl) (hx : Loc X.env.scope x := by first | exact Or.inl rfl | exact Or.inr rfl) (hy : Loc X.env.scope y := by first | exact Or.inl rfl | exact Or.inr rfl)
    (hg : Gl X "enumerate" := by rfl) (hst : starEach [e] X.env = [(false, eval e X.env)] := by rfl) (hs1 : starEach (e :: []) X.env = (false, eval e X.env) :: starEach [] X.env := by rfl)
    (hf : X.fn x = true ∨ X.env.scope.names.lookup x = some .local := by first | exact .inl rfl | exact .inr rfl) (hf2 : X.fn y = true ∨ X.env.scope.names.lookup y = some .local := by first | exact .inl rfl | exact .inr rfl)
    (hpg : ∀ {t u : TG}, PG X (.Name x p3) t → PG X (.Name y p4) u → PG X (.Tuple [.Name x p3, .Name y p4] kk tp) (gTup X.K 2 (gCons t (gCons u gNil))) := by intro _ _ h1 h2; exact pg_tup rfl (pgs_cons h1 (pgs_cons h2 pgs_nil)))
    (hfs : ∀ x, foldedSetIterable (.Call (.Name "enumerate" p1) [e] [] p2) X.env x = pure x := by intro _; rfl) : SsD X (.For (.Tuple [.Name x p3, .Name y p4] kk tp) (.Call (.Name "enumerate" p1) [e] [] p2) body [] pos :: sts) Γ Φ := by
  obtain ⟨ta, pa, qa⟩ := ha
  refine ⟨_, pss_cons (ps_for hp hc (pi_enum hg hm (pa_cons pa pa_nil hs1) hst) (hpg (pg_name (i := i1) hd hN hx hf) (pg_name (i := i2) hd hN2 hy hf2)) (pss_all (st' := body)) hfs) (pss_all (st' := sts)), fun σ H hl C E T => ?_⟩
  refine qa σ H C _ fun v H2 e12 h1' => ?_
  simp only [Den] at h1'
  obtain ⟨l, xs, rfl, hq, hL⟩ := h1'
  refine ⟨l, xs, rfl, SqL.of hq, ?_⟩
  have hi1 : i1 < X.N.length := (List.getElem?_eq_some_iff.mp hN).1
  have hi2 : i2 < X.N.length := (List.getElem?_eq_some_iff.mp hN2).1
  refine for_it (walk_enum (K := X.K) (a := l) (xs := xs)) (fun j σ' H' => ∃ Γ', J j Γ' ∧ σ'.length = X.N.length ∧ Ctx X.K H' Γ' σ' ∧ Ex H2 H') ⟨Γ, h0, hl, C.mono e12, Ex.refl H2⟩ (fun j σ' H' _ ⟨Γ', _, _, _, g4⟩ => SqL.of (g4 _ _ hq)) ?_ ?_
  · rintro j z σ' H' H'' hj ⟨Γ', g1, g2, g3, g4⟩ ⟨T0, x0, y0, rfl, hT, rfl, hxj, hyj⟩
    have hj1 : j < ds.length := by rw [hL.len]; exact hj
    obtain ⟨y2, hy2, hdy⟩ := hL.get (i := j) (d := ds[j]) (List.getElem?_eq_getElem hj1)
    have hxj' : some (V.int (j : Nat)) = some x0 := hxj
    have hyj' : xs[j]? = some y0 := hyj
    rw [hy2] at hyj'
    cases hxj'
    cases hyj'
    have hdx : ∀ H0 : Hp, Den X.K H0 (iD (j : Int)) (.int (j : Nat)) := fun H0 => den_v.mpr rfl
    have up : Ex H2 (upd H' T0 (.tup [.int (j : Nat), y0])) := g4.trans (Ex.new hT)
    refine ⟨T0, [.int (j : Nat), y0], rfl, st_of upd_same, rfl, .int (j : Nat), [y0], rfl, y0, [], rfl, rfl, ?_⟩
    show allS X body _ ((σ'.set i1 (some (.int (j : Nat)))).set i2 (some y0)) (upd H' T0 (.tup [.int (j : Nat), y0]))
    refine (hs j ds[j] Γ' (List.getElem?_eq_getElem hj1) g1).all (by rw [List.length_set, List.length_set]; exact g2) (((g3.mono (Ex.new hT)).set (by rw [g2]; exact hi1) (hdx _)).set (by rw [List.length_set, g2]; exact hi2) (hdy.mono up)) ?_
    refine ⟨fun Γ'' σ2 H2 z e2 l2 c2 => ?_, fun d v H2 z e2 hv => ?_, fun Γ'' σ2 H2 z e2 l2 c2 => ?_, fun Γ'' σ2 H2 z e2 l2 c2 => ?_, fun cl fs Γ'' d σ2 H2 z e2 l2 c2 x2 => ?_⟩
    · rcases z with ⟨Γ3, z | z, w⟩ | ⟨_, z, _⟩ | ⟨_, z, _⟩ | ⟨_, _, _, z, _⟩ <;> cases z
      exact ⟨Γ'', w, l2, c2, up.trans e2⟩
    · rcases z with ⟨Γ3, z | z, w⟩ | ⟨_, z, w⟩ | ⟨_, z, _⟩ | ⟨_, _, _, z, _⟩ <;> cases z
      exact T.rt d v H2 w ((e12.trans up).trans e2) hv
    · rcases z with ⟨Γ3, z | z, w⟩ | ⟨_, z, w⟩ | ⟨_, z, w⟩ | ⟨_, _, _, z, _⟩ <;> cases z
      exact w.all l2 c2 (T.mono ((e12.trans up).trans e2))
    · rcases z with ⟨Γ3, z | z, w⟩ | ⟨_, z, w⟩ | ⟨_, z, w⟩ | ⟨_, _, _, z, _⟩ <;> cases z
      exact ⟨Γ'', w, l2, c2, up.trans e2⟩
    · rcases z with ⟨Γ3, z | z, w⟩ | ⟨_, z, w⟩ | ⟨_, z, w⟩ | ⟨_, _, _, z, w⟩ <;> cases z
      exact T.ex cl fs Γ'' d σ2 H2 w ((e12.trans up).trans e2) l2 c2 x2
  · rintro σ' H' ⟨Γ', g1, g2, g3, g4⟩
    rw [← hL.len] at g1
    exact (k Γ' g1).all g2 g3 (T.mono (e12.trans g4))
end
section
variable {X : Cx} {Γ : Gm} {Ω : Om} {sts body : List Stmt} {pos : Pos} {Φ Ψ : OutO → Prop}
/-- try beside own lists, where nothing is raised -/
theorem so_tryN (i : Nat) {x n : Str} {C : Addr} {b₀ : Stmt} {suite : List Stmt} {np pos' : Pos} (hs : X.stack = X.env :: X.outer) (hf : X.env.frame = some X.env.locals) (hd : X.N.Nodup) (hc : Names X x (.ref C))
    (hb : ∀ pn xe, PassesOwn (model X.prog X.w) X.A X.env xe → SO (X.tr pn xe) body Γ Ω Ψ) (hn : ∀ Γ' Ω', Ψ (.nx Γ' Ω') → SO X sts Γ' Ω' Φ) (ho : ∀ o, (∀ Γ' Ω', o ≠ .nx Γ' Ω') → ¬ Ψ o)
    (hN : X.N[i]? = some n := by rfl) (hln : X.env.kindOf n = some .local := by rfl) :
    SO X (.Try body [.ExceptHandler (some (.Name x np)) (some n) (b₀ :: suite) pos'] [] [] pos :: sts) Γ Ω Φ := by
  intro σ F H as hl C0 E T
  refine all_cons (ps_try_as (i := i) hs hf hd hN hln hc (tk0 (X := X)) (tb := bodyT X body) (ts := suiteT X (b₀ :: suite)) (fun W pn xe tk hp => ⟨fun pins s σ H E I h => h pn xe tk hp pins s I⟩)
    (fun a oe cls d pn hz hfl => ⟨fun pins s σ H E I h => h oe pn hz hfl pins s I⟩)) ?_
  intro pn xe tk hp
  exact hb pn xe hp σ F H as hl C0 _ ⟨fun Γ' Ω' σ' F' H' as' z e l c => (hn _ _ z) σ' F' H' as' l c E (T.mono e), fun d v H' z => absurd z (ho _ fun _ _ w => by cases w), fun Γ' Ω' σ' F' H' as' z => absurd z (ho _ fun _ _ w => by cases w), fun Γ' Ω' σ' F' H' as' z => absurd z (ho _ fun _ _ w => by cases w), fun c fs Γ' Ω' d σ' F' H' as' z => absurd z (ho _ fun _ _ w => by cases w)⟩
end
section
variable {X : Cx} {Γ : Gm} {pos p2 : Pos} {a b : Expr} {ds : List D}
theorem cut_to1 {xs : List V} : L2.cutV xs none (some (-1)) = xs.take (xs.length - 1) := by
  have e : HT.sIx xs.length xs.length (some (-1)) = xs.length - 1 := by
    show (if (-1 : Int) < 0 then ((-1 : Int) + (xs.length : Int)).toNat else min (-1 : Int).toNat xs.length) = _
    rw [if_pos (by decide)]
    omega
  unfold L2.cutV
  rw [HT.sIx_none, e, List.drop_zero, Nat.sub_zero]
/-- xs[:-1] -/
theorem fd_cutEnd (ha : ED X a Γ (.lst ds)) (hb : ED X b Γ (iD (-1))) : FD X (.Subscript a (.Slice none (some b) none p2) pos) Γ (ds.take (ds.length - 1)) := by
  obtain ⟨ta, pa, qa⟩ := ha
  obtain ⟨tb, pb, qb⟩ := hb
  refine ⟨_, pe_slice sl_list pa po_none (po_some pb), fun σ H Cc Q k => qa σ H Cc _ fun x H1 e1 h1 => ?_⟩
  refine qb σ H1 (Cc.mono e1) _ fun y H2 e2 h2 => ?_
  have h1' := h1.mono e2
  simp only [Den] at h1'
  obtain ⟨l, xs, rfl, g1, g2⟩ := h1'
  refine ⟨(-1 : Int), den_v.mp h2, l, xs, rfl, SqL.of g1, fun p np => ?_⟩
  rw [cut_to1]
  refine k p H2 _ (e1.trans e2) np ?_
  rw [← g2.len]
  exact denL_take g2
end
section
variable {X : Cx} {es : List Expr} {e : Expr} {pos : Pos}
theorem new_atK {CX : CXT} {k : Nat} {f C : Addr} {fd : FuncData} {ps ks : List Str} {sp : Sp} {E : XK} {pins : List (Addr × Obj)} {σ : L2.St} {H : Hp} {s : Shared} {Q : VK} {ws : List Value} {zs : List V} {g : List Value → List Value → List Value} {gV : List V → List V → List V} (M : Mk X.K C f) (F : FnOk X.prog X.w X.K X.mg X.base CX k f fd ps sp)
    (hr : Room (k + 1) X.A) (hb : KBn X.K fd ps 1 ks g gV) (pa : PassesAt CX X σ E) (I : Inv X pins σ H s) (r : Vals zs ws) (lz : zs.length = ks.length)
    (go : ∀ x dx, H x = none → H dx = none → dx ≠ x → sp (gV [.ref x] zs) (upd (upd H dx (.own x)) x (.ins C dx [])) (fun v H2 => v = .non ∧ Q (.ref x) H2) E) : wpAny (model X.prog X.w) X.A (call (.ref C) [] (ks.zip ws)) (EP X pins σ Q) X.xe s := by
  let n := s.heap.objs.size
  have J : Inv X pins σ _ _ := Inv.made (C := C) I
  have told := go (n + 1) n (I.hok.fresh (Nat.le_succ _)) (I.hok.fresh (Nat.le_refl _)) (Nat.ne_of_lt (Nat.lt_succ_self _))
  have rel := hb.rel (vals_r (n + 1)) r
  have bound := hb.to _ [Value.ref (n + 1)] ws J.kIn rfl (r.length.symm.trans lz)
  have ran := F.run _ X.stack _ _ ⟨[Value.ref (n + 1)], ks.zip ws⟩ _ _ _ E (hr.make C [] (ks.zip ws)) (J.env0.make C [] (ks.zip ws)) bound rel told
  refine wpAny_call (make_map (f := f) I.kIn M.makes M.init (beq_iff_eq.mp M.fn) (codeAny_mono ran fun res s' out => ?_))
  rcases res with err | fl
  · exact pa pins _ _ err s' J out
  · cases fl with
    | ret u =>
      obtain ⟨y, H', I3, ry, ey, q3⟩ := J.after out
      subst ey
      exact ⟨ry, ⟨V.ref (n + 1), H', I3, rfl, q3⟩⟩
    | next => exact out.elim
    | brk => exact out.elim
    | cont => exact out.elim
def tMakeKS (C : Addr) (n : Nat) (sp : Sp) (gV : List V → List V → List V) (E : L2.St → XK) (t : TA) : TE := fun σ H Q => t σ H fun zs H1 => zs.length = n ∧ ∀ x dx, H1 x = none → H1 dx = none → dx ≠ x → sp (gV [.ref x] zs) (upd (upd H1 dx (.own x)) x (.ins C dx [])) (fun v H2 => v = .non ∧ Q (.ref x) H2) (E σ)
theorem pe_makeKS {CX : CXT} {k : Nat} {f C : Addr} {fd : FuncData} {ps ks : List Str} {sp : Sp} {E : L2.St → XK} {x : Str} {p : Pos} {kws : List Keyword} {tk : TA} {g : List Value → List Value → List Value} {gV : List V → List V → List V} (M : Mk X.K C f) (F : FnOk X.prog X.w X.K X.mg X.base CX k f fd ps sp) (hr : Room (k + 1) X.A) (hg : Gl X x) (hm : X.mg x = some (.ref C))
    (hb : KBn X.K fd ps 1 ks g gV) (pa : ∀ σ, PassesAt CX X σ (E σ)) (hkw : PK X kws tk) (hall : (backToKw pos (keywordEach kws X.env)).all (·.1.isSome) = true := by rfl) (hks : (backToKw pos (keywordEach kws X.env)).filterMap (·.1) = ks := by rfl) (hdb : (x == ("__debug__" : Str)) = false := by decide)
    (hpl : ((backTo pos (starEach [] X.env)).any (·.1) || (backToKw pos (keywordEach kws X.env)).any (·.1.isNone)) = false := by rfl) : PE X (.Call (.Name x p) [] kws pos) (tMakeKS C ks.length sp gV E tk) := by
  refine ⟨fun pins s σ H Q I h => wpAny_Call_Name_kw (ld_glob I hg hm ?_ hdb)⟩
  refine PySem.W.callWith_KW0 (first := []) (h₀ := X.base) I.ok.mod.kin M.kp hall (thn (hkw.run pos pins s σ H _ I h) fun ws s1 ⟨zs, H1, I1, r, lz, q⟩ => ⟨I1.kIn, ?_⟩) hpl
  rw [hks]
  exact new_atK M F hr hb (pa σ) I1 r lz q
/-- x(e), x a local name that holds the class -/
theorem pe_makeSV {CX : CXT} {k : Nat} {f C : Addr} {fd : FuncData} {ps : List Str} {sp : Sp} {dvs : List V} {ds : List Value} {E : L2.St → XK} {x : Str} {i : Nat} {p : Pos} {t : TA} (M : Mk X.K C f) (F : FnOk X.prog X.w X.K X.mg X.base CX k f fd ps sp) (hr : Room (k + 1) X.A)
    (hb : Binds X.K fd ps ds) (hd : Vals dvs ds) (pa : ∀ σ, PassesAt CX X σ (E σ)) (ha : PA X (e :: es) t) (hN : X.N[i]? = some x := by rfl) (hv : Vis X.env.scope x := by first | exact Or.inl rfl | exact Or.inr (Or.inl rfl) | exact Or.inr (Or.inr rfl)) (hdb : (x == ("__debug__" : Str)) = false := by decide) (hcd : (x == ("__classdict__" : Str)) = false := by decide)
    (he : starEach (e :: es) X.env = (false, eval e X.env) :: starEach es X.env := by rfl) (hpl : (backTo pos (starEach es X.env)).any (·.1) = false := by rfl) : PE X (.Call (.Name x p) (e :: es) [] pos) (fun σ H Q => σ[i]? = some (some (.ref C)) ∧ tMakeS C sp dvs E t σ H Q) := by
  have po : PE X (.Name x p) (tVar i) := pe_var hN hv hdb hcd
  refine ⟨fun pins s σ H Q I ⟨hs, h⟩ => wpAny_Call_Name_kw (thn (po.run pins s σ H (fun v H' => v = .ref C ∧ H' = H) I ⟨.ref C, hs, rfl, rfl⟩) fun u s1 g => ?_)⟩
  obtain ⟨v, H0, I0, rv, ev, eH⟩ := g
  subst ev eH
  obtain rfl : u = Value.ref C := rv
  exact PySem.W.callWith_K (h₀ := X.base) I0.ok.mod.kin M.kp (thn (ha.run pos pins _ σ _ _ I0 h) fun us s1 ⟨vs, H1, I1, r, q⟩ => ⟨I1.kIn, new_at M F hr hb hd (pa σ) I1 r q⟩) he hpl
end
/-! ### C.m(k = e), m a classmethod -/
theorem keep_bound {M : Model} {K : PySem.W.Frag} {q g : Addr} {self : Value} {h : Heap} (hf : PySem.W.fnIn K g = true) (P : PySem.W.MethP K q g self h) : PySem.W.Looks M h (keeperOf (.ref q)) .boundFrame := by
  obtain ⟨h1, h2⟩ := P
  unfold PySem.W.fnIn at hf
  split at hf
  · rename_i cls dict f slots hl
    have hg := h2 _ _ hl
    refine (PySem.W.Looks.ld (part := none) h1).andThen ?_
    show PySem.W.Looks M h (do
      let o ← load g
      pure (match o.data with | .func _ => Keeper.boundFrame | _ => Keeper.caller)) .boundFrame
    exact (PySem.W.Looks.ld (part := none) hg).andThen .now
  · cases hf
structure CMetK (K : PySem.W.Frag) (C : Addr) (m : Str) (p f : Addr) : Prop where
  rd : PySem.W.readsIn K C (.type "type") = true
  ga : PySem.W.specialIn K (.ref C) "__getattribute__" = some (some (.builtin "type.__getattribute__"))
  at_ : PySem.W.findCls K (.ref C) (.type "type") m = some (.get (.builtin "classmethod.__get__") (.ref p) .none (.ref C))
  rc : ∃ rest, PySem.W.recIn K p "classmethod" = some (.ref f :: rest)
  fn : PySem.W.fnIn K f = true
section
variable {X : Cx} {pos : Pos}
def tCMethK (C : Addr) (n : Nat) (sp : Sp) (gV : List V → List V → List V) (E : L2.St → XK) (ta : TE) (t : TA) : TE := fun σ H Q => ta σ H fun x H1 => x = .ref C ∧ t σ H1 fun zs H2 => zs.length = n ∧ sp (gV [.ref C] zs) H2 Q (E σ)
theorem pe_cmethK {CX : CXT} {k : Nat} {f C pa : Addr} {fd : FuncData} {ps ks : List Str} {sp : Sp} {E : L2.St → XK} {pl : Sem Bool} {o : Expr} {m : Str} {apos : Pos} {kws : List Keyword} {ta : TE} {tk : TA} {g : List Value → List Value → List Value} {gV : List V → List V → List V}
    (he : PE X o ta) (S : CMetK X.K C m pa f) (F : FnOk X.prog X.w X.K X.mg X.base CX k f fd ps sp) (hr : Room k X.A) (hb : KBn X.K fd ps 1 ks g gV) (pa' : ∀ σ, PassesAt CX X σ (E σ)) (hkw : PK X kws tk)
    (hall : (backToKw pos (keywordEach kws X.env)).all (·.1.isSome) = true := by rfl) (hks : (backToKw pos (keywordEach kws X.env)).filterMap (·.1) = ks := by rfl)
    (hpl : ((backTo pos (starEach [] X.env)).any (·.1) || (backToKw pos (keywordEach kws X.env)).any (·.1.isNone)) = false := by rfl)
    (ht : eval (.Call (.Attribute o m apos) [] kws pos) X.env = (do
      let ov ← eval o X.env
      standAt apos.atName
      let (f, first) ← holding [ov] (getMethod ov m pl)
      callWith pos f first (backTo pos (starEach [] X.env)) (backToKw pos (keywordEach kws X.env))) := by rfl) :
    PE X (.Call (.Attribute o m apos) [] kws pos) (tCMethK C ks.length sp gV E ta tk) := by
  refine ⟨fun pins s σ H Q I h => ?_⟩
  refine PySem.W.methodCall_KW (pl := pl) (thn (he.run pins s σ H _ I h) fun u s1 ⟨x, H1, I1, rx, ex, q⟩ => ?_) ht
  subst ex
  obtain rfl : u = Value.ref C := rx
  obtain ⟨rest, hp⟩ := S.rc
  refine PySem.W.method_cls I1.kIn S.ga (PySem.W.cls_bind I1.kIn S.rd S.at_ (PySem.wpAny_call (PySem.W.cm_get (s := { s1 with toks := s1.toks + 1 }) I1.kIn hp ?_)))
  refine PySem.W.handed_on rfl ?_
  have I2 : Inv X pins σ H1 { s1 with heap := s1.heap.push (PySem.W.methodObj (.ref f) (.ref C)), toks := s1.toks + 1 } := I1.kept fun b u hb => Heap.get?_push_of_some _ hb
  have hq : (s1.heap.push (PySem.W.methodObj (.ref f) (.ref C))).get? s1.heap.objs.size = some (PySem.W.methodObj (.ref f) (.ref C)) := Heap.get?_push_size _ rfl
  have I3 := I2.pinned (fp := [s1.heap.objs.size]) (fun b hb => by
    rw [List.mem_singleton.mp hb]
    exact I1.fpOk (Nat.le_refl _) I1.fresh) (fun b hb => by
    rw [List.mem_singleton.mp hb]
    exact ⟨_, hq, fun v z => by cases z⟩)
  have ep : L2.pinsAt [s1.heap.objs.size] (s1.heap.push (PySem.W.methodObj (.ref f) (.ref C))) = [(s1.heap.objs.size, PySem.W.methodObj (.ref f) (.ref C))] := by
    unfold L2.pinsAt
    simp only [List.filterMap, hq, Option.map]
  refine PySem.W.callWith_of (P := PySem.W.MethP X.K s1.heap.objs.size f (.ref C)) hpl (fun h hP => ⟨_, .inr (.inr rfl), keep_bound S.fn hP⟩) (evalArgs_kw_nil hall ?_)
  refine thn (hkw.run pos _ _ σ H1 _ I3 q) fun ws s2 ⟨zs, H2, I4, rz, lz, q2⟩ => ?_
  have hat := (I4.pin (s1.heap.objs.size, PySem.W.methodObj (.ref f) (.ref C)) (by
    rw [ep]
    simp)).1
  have I5 := I4.unpinned
  refine ⟨⟨hat, I5.kIn⟩, ?_⟩
  rw [hks]
  have rel := hb.rel (vals_r C) rz
  have bound := hb.to s2 [Value.ref C] ws I5.kIn rfl (rz.length.symm.trans lz)
  refine wpAny_call (PySem.W.method_call hat (codeAny_mono (F.run X.A X.stack s2 H2 ⟨[Value.ref C], ks.zip ws⟩ _ _ Q (E σ) hr I5.env0 bound rel q2) fun res s' out => ?_))
  rcases res with err | fl
  · exact pa' σ pins H2 s2 err s' I5 out
  · cases fl with
    | ret u => exact I5.after out
    | next => exact out.elim
    | brk => exact out.elim
    | cont => exact out.elim
end
section
variable {X : Cx} {Γ : Gm} {ds : List D} {e : Expr} {pos : Pos} {sts body : List Stmt}
/-- for x, y in enumerate(a), told by the ends -/
theorem all_forE (i1 i2 : Nat) {x y : Str} {p1 p2 p3 p4 tp : Pos} {kk : Nat} {E : Ends} {σ : L2.St} {H : Hp} (J : Nat → Gm → Prop) (hc : X.calm = true) (hm : X.mg "enumerate" = none) (hl : σ.length = X.N.length) (C : Ctx X.K H Γ σ) (ha : ED X e Γ (.lst ds)) (hd : X.N.Nodup) (h0 : J 0 Γ)
    (hs : ∀ j dj Γ' σ' H', ds[j]? = some dj → J j Γ' → σ'.length = X.N.length → Ctx X.K H' ((Γ'.set i1 (some (iD (j : Int)))).set i2 (some dj)) σ' → Ex H H' →
      ∀ D : Ends, (∀ Γ2 σ2 H2, J (j + 1) Γ2 → σ2.length = X.N.length → Ctx X.K H2 Γ2 σ2 → Ex H' H2 → D.nx σ2 H2) → D.rt = E.rt → allS X body D σ' H')
    (k : ∀ Γ' σ' H', J ds.length Γ' → σ'.length = X.N.length → Ctx X.K H' Γ' σ' → Ex H H' → allS X sts E σ' H') (hp : PassesOwn (model X.prog X.w) X.A X.env X.xe := by exact PassesOwn.never) (hN : X.N[i1]? = some x := by rfl) (hN2 : X.N[i2]? = some y := by rfl) (hx : Loc X.env.scope x := by first | exact Or.inl rfl | exact Or.inr rfl) (hy : Loc X.env.scope y := by first | exact Or.inl rfl | exact Or.inr rfl)
    (hg : Gl X "enumerate" := by rfl) (hst : starEach [e] X.env = [(false, eval e X.env)] := by rfl) (hs1 : starEach (e :: []) X.env = (false, eval e X.env) :: starEach [] X.env := by rfl)
    (hf : X.fn x = true ∨ X.env.scope.names.lookup x = some .local := by first | exact .inl rfl | exact .inr rfl) (hf2 : X.fn y = true ∨ X.env.scope.names.lookup y = some .local := by first | exact .inl rfl | exact .inr rfl)
    (hpg : ∀ {t u : TG}, PG X (.Name x p3) t → PG X (.Name y p4) u → PG X (.Tuple [.Name x p3, .Name y p4] kk tp) (gTup X.K 2 (gCons t (gCons u gNil))) := by intro _ _ h1 h2; exact pg_tup rfl (pgs_cons h1 (pgs_cons h2 pgs_nil)))
    (hfs : ∀ x, foldedSetIterable (.Call (.Name "enumerate" p1) [e] [] p2) X.env x = pure x := by intro _; rfl) : allS X (.For (.Tuple [.Name x p3, .Name y p4] kk tp) (.Call (.Name "enumerate" p1) [e] [] p2) body [] pos :: sts) E σ H := by
  obtain ⟨ta, pa, qa⟩ := ha
  refine all_cons (ps_for hp hc (pi_enum hg hm (pa_cons pa pa_nil hs1) hst) (hpg (pg_name (i := i1) hd hN hx hf) (pg_name (i := i2) hd hN2 hy hf2)) (pss_all (st' := body)) hfs) ?_
  refine qa σ H C _ fun v H2 e12 h1' => ?_
  simp only [Den] at h1'
  obtain ⟨l, xs, rfl, hq, hL⟩ := h1'
  refine ⟨l, xs, rfl, SqL.of hq, ?_⟩
  have hi1 : i1 < X.N.length := (List.getElem?_eq_some_iff.mp hN).1
  have hi2 : i2 < X.N.length := (List.getElem?_eq_some_iff.mp hN2).1
  refine for_it (walk_enum (K := X.K) (a := l) (xs := xs)) (fun j σ' H' => ∃ Γ', J j Γ' ∧ σ'.length = X.N.length ∧ Ctx X.K H' Γ' σ' ∧ Ex H2 H') ⟨Γ, h0, hl, C.mono e12, Ex.refl H2⟩ (fun j σ' H' _ ⟨Γ', _, _, _, g4⟩ => SqL.of (g4 _ _ hq)) ?_ ?_
  · rintro j z σ' H' H'' hj ⟨Γ', g1, g2, g3, g4⟩ ⟨T0, x0, y0, rfl, hT, rfl, hxj, hyj⟩
    have hj1 : j < ds.length := by rw [hL.len]; exact hj
    obtain ⟨y2, hy2, hdy⟩ := hL.get (i := j) (d := ds[j]) (List.getElem?_eq_getElem hj1)
    have hxj' : some (V.int (j : Nat)) = some x0 := hxj
    have hyj' : xs[j]? = some y0 := hyj
    rw [hy2] at hyj'
    cases hxj'
    cases hyj'
    have up : Ex H2 (upd H' T0 (.tup [.int (j : Nat), y0])) := g4.trans (Ex.new hT)
    refine ⟨T0, [.int (j : Nat), y0], rfl, st_of upd_same, rfl, .int (j : Nat), [y0], rfl, y0, [], rfl, rfl, ?_⟩
    show allS X body _ ((σ'.set i1 (some (.int (j : Nat)))).set i2 (some y0)) (upd H' T0 (.tup [.int (j : Nat), y0]))
    exact hs j ds[j] Γ' ((σ'.set i1 (some (.int (j : Nat)))).set i2 (some y0)) (upd H' T0 (.tup [.int (j : Nat), y0])) (List.getElem?_eq_getElem hj1) g1 (by rw [List.length_set, List.length_set]; exact g2) (((g3.mono (Ex.new hT)).set (by rw [g2]; exact hi1) (den_v.mpr rfl)).set (by rw [List.length_set, g2]; exact hi2) (hdy.mono up)) (e12.trans up) _ (fun Γ2 σ2 H2 g l c e2 => ⟨Γ2, g, l, c, up.trans e2⟩) rfl
  · rintro σ' H' ⟨Γ', g1, g2, g3, g4⟩
    rw [← hL.len] at g1
    exact k Γ' σ' H' g1 g2 g3 (e12.trans g4)
end
section
variable {X : Cx} {Γ : Gm} {e : Expr} {pos : Pos} {sts body : List Stmt} {Φ : Out → Prop}
/-- for x in range(i), i of any sign -/
theorem z_forRI (i : Nat) {x : Str} {n : Nat} {ni : Int} {p1 p2 p3 : Pos} (J : Nat → Gm → Prop) (hc : X.calm = true) (hm : X.mg "range" = none) (ha : ED X e Γ (iD ni)) (hd : X.N.Nodup) (hn : ni.toNat = n) (hn1 : -(2 ^ 62) ≤ ni) (hn2 : ni < 2 ^ 62) (h0 : J 0 Γ)
    (hs : ∀ j Γ', j < n → J j Γ' → SsD X body (Γ'.set i (some (iD (j : Int)))) (fun o => (∃ Γ'', (o = .nx Γ'' ∨ o = .ct Γ'') ∧ J (j + 1) Γ'') ∨ (∃ d, o = .rt d ∧ Φ (.rt d)) ∨ (∃ Γ'', o = .bk Γ'' ∧ SsD X sts Γ'' Φ) ∨ ∃ c fs Γ'', o = .ex c fs Γ'' ∧ Φ (.ex c fs Γ'')))
    (k : ∀ Γ', J n Γ' → SsD X sts Γ' Φ) (hp : PassesOwn (model X.prog X.w) X.A X.env X.xe := by exact PassesOwn.never) (hN : X.N[i]? = some x := by rfl) (hx : Loc X.env.scope x := by first | exact Or.inl rfl | exact Or.inr rfl) (hg : Gl X "range" := by rfl)
    (he : starEach [e] X.env = [(false, eval e X.env)] := by rfl) (hse : starEach (e :: []) X.env = (false, eval e X.env) :: starEach [] X.env := by rfl)
    (hf : X.fn x = true ∨ X.env.scope.names.lookup x = some .local := by first | exact .inl rfl | exact .inr rfl)
    (hfs : ∀ x, foldedSetIterable (.Call (.Name "range" p1) [e] [] p2) X.env x = pure x := by intro _; rfl) : SsD X (.For (.Name x p3) (.Call (.Name "range" p1) [e] [] p2) body [] pos :: sts) Γ Φ := by
  obtain ⟨ta, pa, qa⟩ := ha
  refine ⟨_, pss_cons (ps_for hp hc (pi_range1 hg hm (pa_cons pa pa_nil hse) he) (pg_name (i := i) hd hN hx hf) (pss_all (st' := body)) hfs) (pss_all (st' := sts)), fun σ H hl C E T => ?_⟩
  refine qa σ H C _ fun v H1 e1 h1 => ?_
  refine ⟨ni, by rw [den_v.mp h1], hn1, hn2, ?_⟩
  rw [hn]
  have hi : i < X.N.length := (List.getElem?_eq_some_iff.mp hN).1
  refine for_range (lo := 0) (n := n) (fun j σ' H' => ∃ Γ', J j Γ' ∧ σ'.length = X.N.length ∧ Ctx X.K H' Γ' σ' ∧ Ex H1 H') ⟨Γ, h0, hl, C.mono e1, Ex.refl H1⟩ ?_ ?_
  · rintro j σ' H' hj ⟨Γ', g1, g2, g3, g4⟩
    show allS X body _ (σ'.set i (some (.int ((0 : Int) + (j : Int))))) H'
    rw [Int.zero_add]
    refine (hs j Γ' hj g1).all (by rw [List.length_set]; exact g2) (g3.set (by rw [g2]; exact hi) (den_v.mpr rfl)) ?_
    refine ⟨fun Γ'' σ2 H2 z e2 l2 c2 => ?_, fun d v H2 z e2 hv => ?_, fun Γ'' σ2 H2 z e2 l2 c2 => ?_, fun Γ'' σ2 H2 z e2 l2 c2 => ?_, fun cl fs Γ'' d σ2 H2 z e2 l2 c2 x2 => ?_⟩
    · rcases z with ⟨Γ3, z | z, w⟩ | ⟨_, z, _⟩ | ⟨_, z, _⟩ | ⟨_, _, _, z, _⟩ <;> cases z
      exact ⟨Γ'', w, l2, c2, g4.trans e2⟩
    · rcases z with ⟨Γ3, z | z, w⟩ | ⟨_, z, w⟩ | ⟨_, z, _⟩ | ⟨_, _, _, z, _⟩ <;> cases z
      exact T.rt d v H2 w ((e1.trans g4).trans e2) hv
    · rcases z with ⟨Γ3, z | z, w⟩ | ⟨_, z, w⟩ | ⟨_, z, w⟩ | ⟨_, _, _, z, _⟩ <;> cases z
      exact w.all l2 c2 (T.mono ((e1.trans g4).trans e2))
    · rcases z with ⟨Γ3, z | z, w⟩ | ⟨_, z, w⟩ | ⟨_, z, w⟩ | ⟨_, _, _, z, _⟩ <;> cases z
      exact ⟨Γ'', w, l2, c2, g4.trans e2⟩
    · rcases z with ⟨Γ3, z | z, w⟩ | ⟨_, z, w⟩ | ⟨_, z, w⟩ | ⟨_, _, _, z, w⟩ <;> cases z
      exact T.ex cl fs Γ'' d σ2 H2 w ((e1.trans g4).trans e2) l2 c2 x2
  · rintro σ' H' ⟨Γ', g1, g2, g3, g4⟩
    exact (k Γ' g1).all g2 g3 (T.mono (e1.trans g4))
end
end Trk

/-! != of two lists of ints and Fractions that are alike. -/
namespace Trk
section
open PySem PySem.SeqAt GQ
open AutoSeq1 (wpAny_loadPart')
open MeetsSeq MeetsSeq2 MeetsSeq3 SeqRoads2
variable {prog : Program} {w : World} {A : Around} {R : Result → Shared → Prop}
theorem ne_loopB (l b : Addr) (N : Nat) (f : Nat → Bool) (I : Shared → Prop) (hl : ListB prog w A (fun e s' => R (.error e) s') l b N f I) (res : Bool)
    (fin : ∀ s, I s → R (.ok (.ret (.bool (!res)))) s) (k : Nat) :
    ∀ i : Nat, N - i = k → i ≤ N → res = allF f i k → ∀ s, I s →
      wpAny (model prog w) A.in1 (Builtin.«list.__eq__.loop» ⟨[.ref l, .ref b, rawInt i, rawInt 3], []⟩) (FinOf prog w A R) (fun e s' => R (.error e) s') s := by
  induction k with
  | zero =>
    intro i hk hi hres s h
    obtain ⟨items, items2, n, n2, hl1, hb1, hs1, hs2, _⟩ := hl _ h
    have hR : R (.ok (.ret (.bool false))) s := by
      have := fin s h
      rw [hres] at this
      exact this
    obtain ⟨hp, g, d, tk, os⟩ := s
    wp_walk using wpAny_loadPart' hl1, wpAny_loadPart' hb1
    have hi1 : items[((i : Nat) : Int).toNat]? = none := by simp; omega
    have hi2 : items2[((i : Nat) : Int).toNat]? = none := by simp; omega
    rw [hi1, hi2]
    wp_walk using wpAny_loadPart' hl1, wpAny_loadPart' hb1
    show R (.ok (.ret (.bool (items.size != items2.size)))) _
    rw [hs1, hs2]
    simpa using hR
  | succ k ih =>
    intro i hk hi hres s h
    obtain ⟨items, items2, n, n2, hl1, hb1, hs1, hs2, turn⟩ := hl _ h
    have hlt : i < items.size := by omega
    have hlt2 : i < items2.size := by omega
    have ht := turn i hlt hlt2
    obtain ⟨hp, g, d, tk, os⟩ := s
    wp_walk using wpAny_loadPart' hl1, wpAny_loadPart' hb1
    have hi1 : items[((i : Nat) : Int).toNat]? = some items[i] := by simp [hlt]
    have hi2 : items2[((i : Nat) : Int).toNat]? = some items2[i] := by simp [hlt2]
    have hc : ((i : Int) + 1) = ((i + 1 : Nat) : Int) := by omega
    rw [hi1, hi2]
    refine wpAny_bind (wpAny_mono ht (fun r s2 h2 => ?_) fun _ _ x => x)
    obtain ⟨hr, h2⟩ := h2
    subst hr
    cases hf : f i with
    | true =>
      have hrec := ih (i + 1) (by omega) (by omega) (by rw [hres]; show (f i && allF f (i + 1) k) = _; rw [hf]; rfl) s2 h2
      obtain ⟨hp2, g2, d2, tk2, os2⟩ := s2
      wp_walk
      rw [hc]
      exact ⟨plainId_quiet plain_eq_loop _, codeAny_builtin entry_eq_loop (by
        rw [Around.under_plainId plain_eq_loop _]
        exact hrec)⟩
    | false =>
      have hR : R (.ok (.ret (.bool true))) s2 := by
        have := fin s2 h2
        rw [hres, show allF f i (k + 1) = (f i && allF f (i + 1) k) from rfl, hf] at this
        exact this
      obtain ⟨jt, jt2, m, m2, hl3, hb3, hs3, hs4, _⟩ := hl _ h2
      obtain ⟨hp2, g2, d2, tk2, os2⟩ := s2
      have hj1 : jt[((i : Nat) : Int).toNat]? = some (jt[i]'(by omega)) := by simp
      have hj2 : jt2[((i : Nat) : Int).toNat]? = some (jt2[i]'(by omega)) := by simp
      wp_walk using wpAny_loadPart' hl3, wpAny_loadPart' hb3
      rw [hj1, hj2]
      wp_walk using wpAny_loadPart' hl3, wpAny_loadPart' hb3
      exact hR

theorem list_neB (l b : Addr) (N : Nat) (f : Nat → Bool) (I : Shared → Prop) (hl : ListB prog w A (fun e s' => R (.error e) s') l b N f I)
    (fin : ∀ s, I s → R (.ok (.ret (.bool (!allF f 0 N)))) s) {s : Shared} (h : I s) :
    wpAny (model prog w) A.in1 (Builtin.«list.__ne__» ⟨[.ref l, .ref b], []⟩) (FinOf prog w A R) (fun e s' => R (.error e) s') s := by
  obtain ⟨items, items2, n, n2, hl1, hb1, hs1, hs2, _⟩ := hl _ h
  have hrec := ne_loopB (A := A) (R := R) l b N f I hl _ fin N 0 rfl (Nat.zero_le _) rfl s h
  obtain ⟨hp, g, d, tk, os⟩ := s
  have f3 := AutoSeq1.sub_list_list
  have hne : ¬ (items.size != items2.size) = true := by simp [hs1, hs2]
  wp_walk using wpAny_loadPart' hl1, wpAny_loadPart' hb1
  exact ⟨plainId_quiet plain_eq_loop _, codeAny_builtin entry_eq_loop (by
    rw [Around.under_plainId plain_eq_loop _]
    exact hrec)⟩
end
section
open PySem PySem.SeqAt GQ
open MeetsSeq MeetsSeq2 MeetsSeq3 SeqRoads2
variable {prog : Program} {w : World} {A : Around} {E : Value → Shared → Prop} {s : Shared}
theorem rc_listNB {l b : Addr} {N : Nat} {f : Nat → Bool} {Q : Value → Shared → Prop} (hu : A.units < cLine) (I : Shared → Prop) (hl : ListB prog w A E l b N f I)
    (fin : ∀ s, I s → Q (.bool (!allF f 0 N)) s) (h : I s) : wpAny (model prog w) A (richCompare .NotEq (.ref l) (.ref b)) Q E s := by
  obtain ⟨items, items2, n, n2, hl1, hb1, _, _, _⟩ := hl _ h
  refine wpAny_richCompare_same_room (op := .NotEq) ⟨_, hl1, rfl⟩ ⟨_, hb1, rfl⟩ F.slot_list_ne (call_here F.slot_list_ne ⟨_, hl1, rfl⟩ F.entry_list_ne (F.args_list_ne_2 _ _) ?_) hu
  exact list_neB (R := wants (fun v s' => v ≠ .notImplemented ∧ Q v s') E) l b N f I hl (fun s' q => ⟨(fun x => nomatch x), fin s' q⟩) h
end
open PySem L2 Evl
section
variable {X : Cx} {C f : Addr} {CX : CXT} {n : Nat} {fd : FuncData} {ps : List Str} {E : XK}
/-- a number as a value, an int or a Fraction -/
def Num1 (C : Addr) (d : D) : Prop := (∃ i : Int, d = iD i) ∨ ∃ q : Rat, d = fr C q ∧ Sz 4000 q
theorem eqb_num (M : CmpM X.K C "__eq__" f) (F : FnOk X.prog X.w X.K X.mg X.base CX n f fd ps (spD X.K 2 (R_cmp C fun p q => decide (p = q)))) (hb : Binds X.K fd ps []) (hx : Passes CX X E) {A : Around} {pins : List (Addr × Obj)} {s : Shared} {σ : L2.St} {H : Hp} {x y : V} {u v : Value} {d : D}
    (sb : Sub X n A) (I : Inv X pins σ H s) (rx : RelV x u) (ry : RelV y v) (hp : Den X.K H d x) (hq : Den X.K H d y) (hd : Num1 C d) :
    wpAny (model X.prog X.w) A (eqBool u v) (fun r s' => r = true ∧ ∃ H', Inv X pins σ H' s' ∧ Ex H H') X.xe s := by
  rcases hd with ⟨i, rfl⟩ | ⟨q, rfl, sq⟩
  · rw [den_v.mp hp] at rx
    rw [den_v.mp hq] at ry
    obtain ⟨t1, rfl⟩ := rx
    obtain ⟨t2, rfl⟩ := ry
    have h := SeqAt.EqAt.int_int (A := A) (s := s) i t1 i t2
    rw [show (i == i) = true by simp] at h
    exact h X.prog X.w X.xe _ ⟨rfl, H, I, Ex.refl H⟩
  · have h := eqb_fr M F hb hx sb I rx ry hp hq sq sq
    refine wpAny_mono h (fun r s' ⟨h1, h2⟩ => ⟨?_, h2⟩) fun _ _ z => z
    rw [h1, decide_eq_true rfl]
def rNeH (C : Addr) (K : PySem.W.Frag) : R2 := fun x y H Q => ∃ ds : List D, Den K H (.lst ds) x ∧ Den K H (.lst ds) y ∧ (∀ d ∈ ds, Num1 C d) ∧ ∀ H', Ex H H' → Q (.bl false) H'
theorem allF_true : ∀ (k i : Nat), allF (fun _ => true) i k = true
  | 0, _ => rfl
  | k + 1, i => by
    show (true && allF (fun _ => true) (i + 1) k) = true
    rw [allF_true k (i + 1)]
    rfl
theorem op_neH (M : CmpM X.K C "__eq__" f) (F : FnOk X.prog X.w X.K X.mg X.base CX n f fd ps (spD X.K 2 (R_cmp C fun p q => decide (p = q)))) (hb : Binds X.K fd ps []) (hx : Passes CX X E) (hr : Room (n + 1) X.A) : OpR X (compareOp .NotEq) (rNeH C X.K) := by
  intro pins s σ H x y v u Q I rx ry h
  obtain ⟨ds, h1, h2, hn, q⟩ := h
  simp only [Den] at h1 h2
  obtain ⟨a, xs, rfl, ha, hL⟩ := h1
  obtain ⟨b, ys, rfl, hb', hM⟩ := h2
  cases rx
  cases ry
  show wpAny (model X.prog X.w) X.A (richCompare .NotEq (.ref a) (.ref b)) (EP X pins σ Q) X.xe s
  have lc : ds.length = xs.length := hL.len
  have le : ds.length = ys.length := hM.len
  refine rc_listNB (N := ds.length) (f := fun _ => true) hr.units0 (fun s' => ∃ H', Inv X pins σ H' s' ∧ Ex H H') (fun s' hI => ?_) (fun s' ⟨H', I', e⟩ => by
    rw [allF_true]
    exact ⟨.bl false, H', I', rfl, q H' e⟩) ⟨H, I, Ex.refl H⟩
  obtain ⟨H1, I1, e1⟩ := hI
  obtain ⟨z, its, k, r, e⟩ := I1.hok a _ (e1 _ _ ha)
  obtain ⟨z2, its2, k2, r2, e2⟩ := I1.hok b _ (e1 _ _ hb')
  refine ⟨its.toArray, its2.toArray, k, k2, e, e2, by rw [List.size_toArray, ← r.length, lc], by rw [List.size_toArray, ← r2.length, le], fun i k1 k2 => ?_⟩
  have g1 : its[i]? = some its.toArray[i] := by
    have h1' : i < its.length := by simpa using k1
    rw [List.getElem?_eq_getElem h1'] <;> simp
  have g2 : its2[i]? = some its2.toArray[i] := by
    have h2' : i < its2.length := by simpa using k2
    rw [List.getElem?_eq_getElem h2'] <;> simp
  have j1 : i < ds.length := by rw [lc, r.length]; simpa using k1
  obtain ⟨x1, hx1, dx1⟩ := hL.get (i := i) (d := ds[i]) (List.getElem?_eq_getElem j1)
  obtain ⟨y1, hy1, dy1⟩ := hM.get (i := i) (d := ds[i]) (List.getElem?_eq_getElem j1)
  obtain ⟨u1, hu1, ru1⟩ := r.get hx1
  obtain ⟨v1, hv1, rv1⟩ := r2.get hy1
  rw [g1] at hu1
  rw [g2] at hv1
  rw [Option.some.inj hu1, Option.some.inj hv1]
  refine wpAny_mono (eqb_num M F hb hx (A := X.A.in1) (Sub.in1 ⟨hr, rfl⟩) I1 ru1 rv1 (dx1.mono e1) (dy1.mono e1) (hn _ (List.getElem_mem j1))) (fun r s2 hq => ?_) fun _ _ x => x
  obtain ⟨hr2, H2, I2, e3⟩ := hq
  exact ⟨hr2, H2, I2, e1.trans e3⟩
theorem rd_neH {K : PySem.W.Frag} {ds : List D} (h : ∀ d ∈ ds, Num1 C d) : RD K (rNeH C K) (.lst ds) (.lst ds) (bD false) :=
  fun x y H hx hy Q q => ⟨ds, hx, hy, h, fun H' e => q _ H' e (den_v.mpr rfl)⟩
end
end Trk

set_option exponentiation.threshold 10000
namespace Law
open PySem L2 Evl Trk
def top (i : Nat) : Stmt := PySem.Challenge.pw_tracerline_k22_lists_that_are_lines.main.body.getD i (.Pass ⟨0, 0, 0, 0⟩)
abbrev s_init : Stmt := inClass (top 10) 0
abbrev s_eq : Stmt := inClass (top 10) 11
abbrev s_ne : Stmt := inClass (top 10) 12
abbrev s_lt : Stmt := inClass (top 10) 13
abbrev s_le : Stmt := inClass (top 10) 14
abbrev s_gt : Stmt := inClass (top 10) 15
abbrev s_ge : Stmt := inClass (top 10) 16
abbrev s_asf : Stmt := top 11
abbrev s_isn : Stmt := top 14
abbrev s_ord : Stmt := top 15
abbrev s_cell : Stmt := top 28
abbrev s_iBL : Stmt := inClass (top 8) 0
abbrev s_linit : Stmt := inClass (top 25) 0
abbrev s_lcut : Stmt := inClass (top 25) 1
abbrev s_lshares : Stmt := inClass (top 25) 2
abbrev s_llen : Stmt := inClass (top 25) 3
abbrev s_lget : Stmt := inClass (top 25) 4
abbrev s_leq : Stmt := inClass (top 25) 6
abbrev s_lne : Stmt := inClass (top 25) 7
abbrev s_llast : Stmt := inClass (top 25) 13
abbrev s_check : Stmt := top 26
abbrev s_row : Stmt := top 29
abbrev s_entry : Stmt := top 30
abbrev s_list : Stmt := top 31
abbrev s_inside : Stmt := top 32
abbrev s_atend : Stmt := top 33
abbrev s_place : Stmt := top 34
abbrev s_handed : Stmt := top 35
abbrev s_values : Stmt := top 36
abbrev s_kept : Stmt := top 37
abbrev s_made : Stmt := top 38
abbrev s_cut : Stmt := top 39
abbrev s_equal : Stmt := top 40
abbrev s_law : Stmt := top 41
section
variable {P : Program} {w : World} {K : PySem.W.Frag} {mg : Str → Option Value} {base : Heap} {C : Addr}
theorem sc_init : FnScope ["self", "top", "bottom", "common"] ["self", "top", "bottom"] (defScope s_init) := ⟨rfl, rfl, rfl, by decide +kernel, rfl, by decide +kernel, by decide +kernel⟩
theorem ok_init {f : Addr} {fd : FuncData} {dvs : List V} (F : FunD K "__init__" "Fraction.__init__" (defArgs s_init) (defBody s_init) (defScope s_init) dvs [] f fd) (T : FrTxt K mg C) : FnOk P w K mg base CX0 1 f fd ["self", "top", "bottom"] (spInit C) := by
  refine F.ok sc_init (fun vs H Q E h => ?_) (fun cdv A outer s H vs Q E hr h => ?_)
  · obtain ⟨p, dx, a, b, rfl, _⟩ := h
    rfl
  · obtain ⟨p, dx, a, b, rfl, h0, hz, hp, k⟩ := h
    have hcz : CDivZ a (cmn a b) := cdivZ_of (cmn_ne h0) (Nat.lt_of_le_of_lt (cmn_le h0) hz)
    have hcz2 : CDivZ b (cmn a b) := hcz
    refine ⟨_, PSs.nox (pss_cons (ps_if (pt_cmpR op_eq (pv 2) pe_int (nomark _)) pss_nv pss_nil)
      (pss_cons (ps_set (i := 3) sc_init.nd rfl (Or.inl rfl) (pe_callBfun cr_gcd (by rfl) T.gcd (pa_cons (pv 1) (pa_cons (pv 2) pa_nil))))
      (pss_cons (ps_if (pt_cmpR op_lt (pv 2) pe_int (nomark _)) (pss_one (ps_set (i := 3) sc_init.nd rfl (Or.inl rfl) (pe_un un_neg (pv 3)))) pss_nil)
      (pss_cons (ps_fld (pv 0) (pe_op op_fdivZ (pv 1) (pv 3)) rfl)
      (pss_one (ps_fld (pv 0) (pe_op op_fdivZ (pv 2) (pv 3)) rfl)))))), ?_⟩
    refine ⟨_, rfl, rfl, _, rfl, ?_⟩
    refine ite2 (fun z => absurd (of_decide_eq_true z) (fun q => h0 (V.int.inj q))) (fun _ => ?_)
    refine ⟨_, rfl, _, rfl, a, b, rfl, ?_⟩
    have fin : ∀ c : Int, c = cmn a b → ∀ σ' : L2.St, σ' = [some (.ref p), some (.int a), some (.int b), some (.int c)] → tSeq (sFld K (tVar 0) (tOp (rI CDivZ fun i j => .int (i.fdiv j)) (tVar 1) (tVar 3)) "top") (sFld K (tVar 0) (tOp (rI CDivZ fun i j => .int (i.fdiv j)) (tVar 2) (tVar 3)) "bottom") { nx := fun _ H' => Q .non H', rt := Q } σ' H := by
      rintro c rfl σ' rfl
      refine ⟨_, rfl, _, rfl, a, _, rfl, rfl, hcz, _, rfl, p, C, dx, [], rfl, hp, T.cl, T.nT, (by show 0 < 1000; decide), ?_⟩
      refine ⟨_, rfl, _, rfl, b, _, rfl, rfl, hcz2, _, rfl, p, C, dx, _, rfl, upd_same, T.cl, T.nB, (by show 1 < 1000; decide), ?_⟩
      rw [upd_upd]
      show Q .non (upd H p (.ins C dx (putF "bottom" (.int (b.fdiv (cmn a b))) (putF "top" (.int (a.fdiv (cmn a b))) []))))
      rw [top_eq h0, bottom_eq h0]
      exact k
    refine ⟨_, rfl, b, 0, rfl, rfl, _, rfl, ?_⟩
    refine ite2 (fun z => ?_) (fun z => ?_)
    · refine ⟨_, rfl, _, rfl, ?_⟩
      refine fin _ ?_ _ rfl
      unfold cmn
      rw [if_pos (of_decide_eq_true z)]
    · refine fin _ ?_ _ rfl
      unfold cmn
      rw [if_neg (of_decide_eq_false (by simpa using z))]

theorem sc_isn : FnScope ["thing"] ["thing"] (defScope s_isn) := ⟨rfl, rfl, rfl, by decide +kernel, rfl, by decide +kernel, by decide +kernel⟩
def R_isn (C : Addr) : List D → D → Prop := fun ds d => (∃ y q, ds = [y] ∧ NumV C y q) ∧ d = bD true
theorem kit_int : PySem.W.kitOne K (.type "int") (.type "int") = some true := kit_ty (by decide +kernel)
theorem isn_any (T : FrTxt K mg C) {y : D} {q : Rat} (h : NumV C y q) : ∃ t, TyD K mg y t ∧ PySem.W.kitAny K t [.ref C, .type "int"] = some true := by
  rcases h with rfl | ⟨n, rfl, rfl⟩
  · exact ⟨_, .fr T, kitAny_cons T.kCC (fun z => by cases z) fun _ => rfl⟩
  · exact ⟨_, .int n, kitAny_cons T.kIC (fun _ => kitAny_cons kit_int (fun z => by cases z) fun _ => rfl) fun z => by cases z⟩
theorem ok_isn {f : Addr} {fd : FuncData} (F : Fun K "_is_number" "_is_number" s_isn f fd) (T : FrTxt K mg C) : FnOk P w K mg base CX0 1 f fd ["thing"] (spD K 1 (R_isn C)) := by
  refine fn_D F sc_isn (by decide) fun cdv A outer s H E ds d hr hl hR => ?_
  obtain ⟨⟨y, q, rfl, hy⟩, rfl⟩ := hR
  obtain ⟨t, h1, h2⟩ := isn_any T hy
  exact z_ret (ed_isi2 T.isi (ed_var 0 rfl) (pe_glob (v := .ref C) rfl T.mgC rfl) (pe_bltn (v := .ty "int") rfl T.tInt (by decide +kernel) rfl) (.own C) (.ty "int") h1 h2) (.inl rfl)

theorem sc_asf : FnScope ["number"] ["number"] (defScope s_asf) := ⟨rfl, rfl, rfl, by decide +kernel, rfl, by decide +kernel, by decide +kernel⟩
def R_asf (C : Addr) : List D → D → Prop := fun ds d => ∃ y q, ds = [y] ∧ NumV C y q ∧ d = fr C q
theorem ok_asf {f fI : Addr} {fd fdI : FuncData} {du : List Value} (F : Fun K "as_fraction" "as_fraction" s_asf f fd) (T : FrTxt K mg C) (M : Mk K C fI) (FI : FnOk P w K mg base CX0 1 fI fdI ["self", "top", "bottom"] (spInit C)) (bI : Binds K fdI ["self", "top", "bottom"] du) (hd : Vals [V.int 1] du) :
    FnOk P w K mg base CX0 3 f fd ["number"] (spD K 1 (R_asf C)) := by
  refine fn_D F sc_asf (by decide) fun cdv A outer s H E ds d hr hl hR => ?_
  obtain ⟨y, q, rfl, hy, rfl⟩ := hR
  rcases hy with rfl | ⟨n, rfl, rfl⟩
  · refine z_ifR (b := true) (td_val (ed_isi T.isi (ed_var 0 rfl) (ed_glob (v := .ref C) T.mgC rfl) (.own C) (.fr T) T.kCC)) (fun _ => z_ret (ed_var 0 rfl) ⟨(fun _ z => by cases z), .inl rfl⟩) (fun z => by cases z)
  · refine z_ifF (td_val (ed_isi T.isi (ed_var 0 rfl) (ed_glob (v := .ref C) T.mgC rfl) (.own C) (.int n) T.kIC)) ?_
    exact z_ret (ed_mk1 M FI hr T.mgC bI hd pass0 (ed_var 0 rfl)) (.inl rfl)

theorem sc_ord : FnScope ["fraction", "number", "other"] ["fraction", "number"] (defScope s_ord) := ⟨rfl, rfl, rfl, by decide +kernel, rfl, by decide +kernel, by decide +kernel⟩
def R_ord (C : Addr) : List D → D → Prop := fun ds d => ∃ p y q, ds = [fr C p, y] ∧ NumV C y q ∧ Sz 4000 p ∧ Sz 4000 q ∧ d = iD (p.num * (q.den : Int) - q.num * (p.den : Int))
theorem wm {i j : Int} (hi : i.natAbs < 2 ^ 4000) (hj : j.natAbs < 2 ^ 4000) : CMulW i j := wide_mul hi hj (by decide) (by decide) (by decide)
theorem ok_ord {f fA : Addr} {fd fdA : FuncData} (F : Fun K "_order" "_order" s_ord f fd) (T : FrTxt K mg C) (FA : FnOk P w K mg base CX0 3 fA fdA ["number"] (spD K 1 (R_asf C))) (mA : mg "as_fraction" = some (.ref fA)) (kA : PySem.W.keepIn K (.ref fA) = true) (bA : Binds K fdA ["number"] []) :
    FnOk P w K mg base CX0 4 f fd ["fraction", "number"] (spD K 2 (R_ord C)) := by
  refine fn_D F sc_ord (by decide) fun cdv A outer s H E ds d hr hl hR => ?_
  obtain ⟨p, y, q, rfl, hy, hp, hq, rfl⟩ := hR
  refine z_asg 2 (d := fr C q) (ed_call FA hr mA kA bA pass0 (ad_cons (ed_var 1 rfl) ad_nil) ⟨y, q, rfl, hy, rfl⟩) sc_ord.nd ?_
  refine z_ret (ed_op op_sub (ed_op op_mulW (ed_fld (ed_var 0 rfl) T.cl T.nT rfl) (ed_fld (ed_var 2 rfl) T.cl T.nB rfl) (rd_I (wm hp.num hq.denI))) (ed_op op_mulW (ed_fld (ed_var 2 rfl) T.cl T.nT rfl) (ed_fld (ed_var 0 rfl) T.cl T.nB rfl) (rd_I (wm hq.num hp.denI))) rd_I0) (.inl rfl)

theorem o_lt {p q : Rat} : bD (decide (p.num * (q.den : Int) - q.num * (p.den : Int) < 0)) = bD (decide (p < q)) := by
  refine congrArg bD (decide_eq_decide.mpr ?_)
  rw [Rat.lt_iff]
  omega
theorem o_le {p q : Rat} : bD (decide (p.num * (q.den : Int) - q.num * (p.den : Int) ≤ 0)) = bD (decide (p ≤ q)) := by
  refine congrArg bD (decide_eq_decide.mpr ?_)
  rw [Rat.le_iff]
  omega
theorem o_gt {p q : Rat} : bD (decide (0 < p.num * (q.den : Int) - q.num * (p.den : Int))) = bD (decide (q < p)) := by
  refine congrArg bD (decide_eq_decide.mpr ?_)
  rw [Rat.lt_iff]
  omega
theorem o_ge {p q : Rat} : bD (decide (0 ≤ p.num * (q.den : Int) - q.num * (p.den : Int))) = bD (decide (q ≤ p)) := by
  refine congrArg bD (decide_eq_decide.mpr ?_)
  rw [Rat.le_iff]
  omega
theorem o_eq {p q : Rat} : bD (decide (V.int (p.num * (q.den : Int) - q.num * (p.den : Int)) = V.int 0)) = bD (decide (p = q)) := by
  refine congrArg bD (decide_eq_decide.mpr ⟨fun h => ?_, fun h => ?_⟩)
  · have h' := V.int.inj h
    exact Rat.le_antisymm ((Rat.le_iff p q).mpr (by omega)) ((Rat.le_iff q p).mpr (by omega))
  · subst h
    rw [Int.sub_self]

theorem sc_eq : FnScope ["self", "other"] ["self", "other"] (defScope s_eq) := ⟨rfl, rfl, rfl, by decide +kernel, rfl, by decide +kernel, by decide +kernel⟩
theorem ok_eq {f fA fO : Addr} {fd fdA fdO : FuncData} (F : Fun K "__eq__" "Fraction.__eq__" s_eq f fd) (T : FrTxt K mg C) (FN : FnOk P w K mg base CX0 1 fA fdA ["thing"] (spD K 1 (R_isn C))) (mA : mg "_is_number" = some (.ref fA)) (kA : PySem.W.keepIn K (.ref fA) = true) (bA : Binds K fdA ["thing"] [])
    (FO : FnOk P w K mg base CX0 4 fO fdO ["fraction", "number"] (spD K 2 (R_ord C))) (mO : mg "_order" = some (.ref fO)) (kO : PySem.W.keepIn K (.ref fO) = true) (bO : Binds K fdO ["fraction", "number"] []) :
    FnOk P w K mg base CX0 5 f fd ["self", "other"] (spD K 2 (R_cmp C fun p q => decide (p = q))) := by
  refine fn_D F sc_eq (by decide) fun cdv A outer s H E ds d hr hl hR => ?_
  obtain ⟨p, y, q, rfl, hy, hp, hq, rfl⟩ := hR
  refine z_ifF (td_not (k := true) (td_val (ed_call FN (hr.mono (by decide)) mA kA bA pass0 (ad_cons (ed_var 1 rfl) ad_nil) ⟨⟨y, q, rfl, hy⟩, rfl⟩))) ?_
  exact z_ret (ed_is (ed_cmp op_eq (ed_call FO hr mO kO bO pass0 (ad_cons (ed_var 0 rfl) (ad_cons (ed_var 1 rfl) ad_nil)) ⟨p, y, q, rfl, hy, hp, hq, rfl⟩) ed_int (rd_eq rfl)) o_eq) (.inl rfl)

theorem sc_lt : FnScope ["self", "other"] ["self", "other"] (defScope s_lt) := ⟨rfl, rfl, rfl, by decide +kernel, rfl, by decide +kernel, by decide +kernel⟩
theorem ok_lt {f fA fO : Addr} {fd fdA fdO : FuncData} (F : Fun K "__lt__" "Fraction.__lt__" s_lt f fd) (T : FrTxt K mg C) (FN : FnOk P w K mg base CX0 1 fA fdA ["thing"] (spD K 1 (R_isn C))) (mA : mg "_is_number" = some (.ref fA)) (kA : PySem.W.keepIn K (.ref fA) = true) (bA : Binds K fdA ["thing"] [])
    (FO : FnOk P w K mg base CX0 4 fO fdO ["fraction", "number"] (spD K 2 (R_ord C))) (mO : mg "_order" = some (.ref fO)) (kO : PySem.W.keepIn K (.ref fO) = true) (bO : Binds K fdO ["fraction", "number"] []) :
    FnOk P w K mg base CX0 5 f fd ["self", "other"] (spD K 2 (R_cmp C fun p q => decide (p < q))) := by
  refine fn_D F sc_lt (by decide) fun cdv A outer s H E ds d hr hl hR => ?_
  obtain ⟨p, y, q, rfl, hy, hp, hq, rfl⟩ := hR
  refine z_ifF (td_not (k := true) (td_val (ed_call FN (hr.mono (by decide)) mA kA bA pass0 (ad_cons (ed_var 1 rfl) ad_nil) ⟨⟨y, q, rfl, hy⟩, rfl⟩))) ?_
  exact z_ret (ed_is (ed_cmp op_lt (ed_call FO hr mO kO bO pass0 (ad_cons (ed_var 0 rfl) (ad_cons (ed_var 1 rfl) ad_nil)) ⟨p, y, q, rfl, hy, hp, hq, rfl⟩) ed_int rd_I0) o_lt) (.inl rfl)

theorem sc_le : FnScope ["self", "other"] ["self", "other"] (defScope s_le) := ⟨rfl, rfl, rfl, by decide +kernel, rfl, by decide +kernel, by decide +kernel⟩
theorem ok_le {f fA fO : Addr} {fd fdA fdO : FuncData} (F : Fun K "__le__" "Fraction.__le__" s_le f fd) (T : FrTxt K mg C) (FN : FnOk P w K mg base CX0 1 fA fdA ["thing"] (spD K 1 (R_isn C))) (mA : mg "_is_number" = some (.ref fA)) (kA : PySem.W.keepIn K (.ref fA) = true) (bA : Binds K fdA ["thing"] [])
    (FO : FnOk P w K mg base CX0 4 fO fdO ["fraction", "number"] (spD K 2 (R_ord C))) (mO : mg "_order" = some (.ref fO)) (kO : PySem.W.keepIn K (.ref fO) = true) (bO : Binds K fdO ["fraction", "number"] []) :
    FnOk P w K mg base CX0 5 f fd ["self", "other"] (spD K 2 (R_cmp C fun p q => decide (p ≤ q))) := by
  refine fn_D F sc_le (by decide) fun cdv A outer s H E ds d hr hl hR => ?_
  obtain ⟨p, y, q, rfl, hy, hp, hq, rfl⟩ := hR
  refine z_ifF (td_not (k := true) (td_val (ed_call FN (hr.mono (by decide)) mA kA bA pass0 (ad_cons (ed_var 1 rfl) ad_nil) ⟨⟨y, q, rfl, hy⟩, rfl⟩))) ?_
  exact z_ret (ed_is (ed_cmp op_le (ed_call FO hr mO kO bO pass0 (ad_cons (ed_var 0 rfl) (ad_cons (ed_var 1 rfl) ad_nil)) ⟨p, y, q, rfl, hy, hp, hq, rfl⟩) ed_int rd_I0) o_le) (.inl rfl)

theorem sc_gt : FnScope ["self", "other"] ["self", "other"] (defScope s_gt) := ⟨rfl, rfl, rfl, by decide +kernel, rfl, by decide +kernel, by decide +kernel⟩
theorem ok_gt {f fA fO : Addr} {fd fdA fdO : FuncData} (F : Fun K "__gt__" "Fraction.__gt__" s_gt f fd) (T : FrTxt K mg C) (FN : FnOk P w K mg base CX0 1 fA fdA ["thing"] (spD K 1 (R_isn C))) (mA : mg "_is_number" = some (.ref fA)) (kA : PySem.W.keepIn K (.ref fA) = true) (bA : Binds K fdA ["thing"] [])
    (FO : FnOk P w K mg base CX0 4 fO fdO ["fraction", "number"] (spD K 2 (R_ord C))) (mO : mg "_order" = some (.ref fO)) (kO : PySem.W.keepIn K (.ref fO) = true) (bO : Binds K fdO ["fraction", "number"] []) :
    FnOk P w K mg base CX0 5 f fd ["self", "other"] (spD K 2 (R_cmp C fun p q => decide (q < p))) := by
  refine fn_D F sc_gt (by decide) fun cdv A outer s H E ds d hr hl hR => ?_
  obtain ⟨p, y, q, rfl, hy, hp, hq, rfl⟩ := hR
  refine z_ifF (td_not (k := true) (td_val (ed_call FN (hr.mono (by decide)) mA kA bA pass0 (ad_cons (ed_var 1 rfl) ad_nil) ⟨⟨y, q, rfl, hy⟩, rfl⟩))) ?_
  exact z_ret (ed_is (ed_cmp op_gt (ed_call FO hr mO kO bO pass0 (ad_cons (ed_var 0 rfl) (ad_cons (ed_var 1 rfl) ad_nil)) ⟨p, y, q, rfl, hy, hp, hq, rfl⟩) ed_int rd_I0) o_gt) (.inl rfl)

theorem sc_ge : FnScope ["self", "other"] ["self", "other"] (defScope s_ge) := ⟨rfl, rfl, rfl, by decide +kernel, rfl, by decide +kernel, by decide +kernel⟩
theorem ok_ge {f fA fO : Addr} {fd fdA fdO : FuncData} (F : Fun K "__ge__" "Fraction.__ge__" s_ge f fd) (T : FrTxt K mg C) (FN : FnOk P w K mg base CX0 1 fA fdA ["thing"] (spD K 1 (R_isn C))) (mA : mg "_is_number" = some (.ref fA)) (kA : PySem.W.keepIn K (.ref fA) = true) (bA : Binds K fdA ["thing"] [])
    (FO : FnOk P w K mg base CX0 4 fO fdO ["fraction", "number"] (spD K 2 (R_ord C))) (mO : mg "_order" = some (.ref fO)) (kO : PySem.W.keepIn K (.ref fO) = true) (bO : Binds K fdO ["fraction", "number"] []) :
    FnOk P w K mg base CX0 5 f fd ["self", "other"] (spD K 2 (R_cmp C fun p q => decide (q ≤ p))) := by
  refine fn_D F sc_ge (by decide) fun cdv A outer s H E ds d hr hl hR => ?_
  obtain ⟨p, y, q, rfl, hy, hp, hq, rfl⟩ := hR
  refine z_ifF (td_not (k := true) (td_val (ed_call FN (hr.mono (by decide)) mA kA bA pass0 (ad_cons (ed_var 1 rfl) ad_nil) ⟨⟨y, q, rfl, hy⟩, rfl⟩))) ?_
  exact z_ret (ed_is (ed_cmp op_ge (ed_call FO hr mO kO bO pass0 (ad_cons (ed_var 0 rfl) (ad_cons (ed_var 1 rfl) ad_nil)) ⟨p, y, q, rfl, hy, hp, hq, rfl⟩) ed_int rd_I0) o_ge) (.inl rfl)

theorem sc_ne : FnScope ["self", "other"] ["self", "other"] (defScope s_ne) := ⟨rfl, rfl, rfl, by decide +kernel, rfl, by decide +kernel, by decide +kernel⟩
theorem ok_ne {f fE : Addr} {fd fdE : FuncData} (F : Fun K "__ne__" "Fraction.__ne__" s_ne f fd) (T : FrTxt K mg C) (ME : CmpM K C "__eq__" fE) (FE : FnOk P w K mg base CX0 5 fE fdE ["self", "other"] (spD K 2 (R_cmp C fun p q => decide (p = q)))) (bE : Binds K fdE ["self", "other"] []) :
    FnOk P w K mg base CX0 6 f fd ["self", "other"] (spD K 2 (R_cmp C fun p q => !decide (p = q))) := by
  refine fn_D F sc_ne (by decide) fun cdv A outer s H E ds d hr hl hR => ?_
  obtain ⟨p, y, q, rfl, hy, hp, hq, rfl⟩ := hR
  rcases id hy with rfl | ⟨n, rfl, rfl⟩
  · exact z_ret (ed_not (ed_cmp (cmp_own (fun _ _ => rfl) ME FE hr bE pass0) (ed_var 0 rfl) (ed_var 1 rfl) (rd_own ⟨p, _, q, rfl, hy, hp, hq, rfl⟩))) (.inl rfl)
  · exact z_ret (ed_not (ed_cmp (cmp_ownI (fun _ _ => rfl) ME T.sub1 FE hr bE pass0) (ed_var 0 rfl) (ed_var 1 rfl) (rd_ownI ⟨p, _, _, rfl, hy, hp, hq, rfl⟩))) (.inl rfl)

theorem sc_cell : FnScope ["_law_script", "_law_k"] ["_law_script", "_law_k"] (defScope s_cell) := ⟨rfl, rfl, rfl, by decide +kernel, rfl, by decide +kernel, by decide +kernel⟩
theorem ok_cell {f : Addr} {fd : FuncData} (F : Fun K "_law_cell" "_law_cell" s_cell f fd) (mL : mg "len" = none) : FnOk P w K mg base CX0 1 f fd ["_law_script", "_law_k"] (spD K 2 R_cell) := by
  refine fn_D F sc_cell (by decide) fun cdv A outer s H E ds d hr hl hR => ?_
  obtain ⟨ns, k, rfl, rfl⟩ := hR
  refine z_ifR (b := decide ((k : Int) < (ns.length : Int))) (td_cmp op_lt (ed_var 1 rfl) (ed_lenS mL (ed_var 0 rfl)) rd_I0) (fun hk => ?_) (fun hk => ?_)
  · have hk' : k < ns.length := by
      have := of_decide_eq_true hk
      omega
    refine z_ret (ed_ixC (n := ns.getD k 0) (ed_var 0 rfl) (ed_var 1 rfl) (at_nat ?_)) ⟨(fun _ z => by cases z), .inl rfl⟩
    rw [List.getElem?_eq_getElem hk', List.getD_eq_getElem?_getD, List.getElem?_eq_getElem hk']
    rfl
  · have hk' : ¬ k < ns.length := by
      have := of_decide_eq_false hk
      omega
    rw [show ns.getD k 0 = 0 by rw [List.getD_eq_getElem?_getD, List.getElem?_eq_none (by omega)]; rfl]
    exact z_ret ed_int (.inl rfl)

theorem rd_eqT {K : PySem.W.Frag} {x y : V} {k : Bool} (h : scal x y = true) (hk : decide (x = y) = k) : RD K rEq (.v x) (.v y) (bD k) := by
  subst hk
  exact rd_eq h
theorem rd_neT {K : PySem.W.Frag} {x y : V} {k : Bool} (h : scal x y = true) (hk : (!decide (x = y)) = k) : RD K rNe (.v x) (.v y) (bD k) := by
  subst hk
  exact rd_ne h
def Nums (C : Addr) : List D → List Rat → Prop
  | [], [] => True
  | d :: ds, q :: qs => NumV C d q ∧ Nums C ds qs
  | _, _ => False
theorem Nums.len : ∀ {ds : List D} {cs : List Rat}, Nums C ds cs → ds.length = cs.length
  | [], [], _ => rfl
  | [], _ :: _, h => h.elim
  | _ :: _, [], h => h.elim
  | _ :: _, _ :: _, h => by rw [List.length_cons, List.length_cons, Nums.len h.2]
theorem Nums.get : ∀ {ds : List D} {cs : List Rat} {j : Nat} {d : D}, Nums C ds cs → ds[j]? = some d → ∃ q, cs[j]? = some q ∧ NumV C d q
  | [], _, j, d, _, h => by simp at h
  | _ :: _, [], _, _, h, _ => h.elim
  | x :: ds, q :: cs, 0, d, h, e => by
    simp at e
    subst e
    exact ⟨q, by simp, h.1⟩
  | x :: ds, q :: cs, j + 1, d, h, e => by
    obtain ⟨r, h1, h2⟩ := Nums.get (j := j) h.2 (by simpa using e)
    exact ⟨r, by simpa using h1, h2⟩
theorem nums_fr : ∀ cs : List Rat, Nums C (cs.map (fr C)) cs
  | [] => True.intro
  | c :: cs => ⟨.inl rfl, nums_fr cs⟩
theorem flat_fr (q : Rat) : flat (fr C q) = true := by simp [flat, flatF]
theorem flatL_fr : ∀ cs : List Rat, flatL (cs.map (fr C)) = true
  | [] => by simp [flatL]
  | c :: cs => by
    rw [List.map_cons]
    simp only [flatL, flat_fr, flatL_fr cs, Bool.and_self]
/-! ### lists that are lines -/
theorem sc_iBL : FnScope ["self", "place"] ["self", "place"] (defScope s_iBL) := ⟨rfl, rfl, rfl, by decide +kernel, rfl, by decide +kernel, by decide +kernel⟩
theorem ok_iBL {f : Addr} {fd : FuncData} (F : Fun K "__init__" "BadLine.__init__" s_iBL f fd) (T : OexC K C) (no : PySem.W.findIn K (.ref C) "place" = some none) : FnOk P w K mg base CX0 1 f fd ["self", "place"] (spE1 C "place") := by
  refine F.ok sc_iBL (fun vs H Q E ⟨a, v, h, _⟩ => by rw [h]; rfl) (fun cdv A outer s H vs Q E hr h => ?_)
  obtain ⟨a, v, rfl, ha, k⟩ := h
  refine ⟨_, PSs.nox (pss_one (ps_ost (pv 0) (pv 1))), ?_⟩
  exact ⟨_, rfl, _, rfl, a, C, rfl, T, no, .inl ⟨ha, k⟩⟩
/-- what is known of BadLine -/
structure BLT (P : Program) (w : World) (K : PySem.W.Frag) (mg : Str → Option Value) (base : Heap) (CB TE : Addr) : Prop where
  t : EcT K mg "BadLine" CB TE
  ex : ∃ fI fd, PySem.W.findIn K (.ref CB) "__init__" = some (some (.ref fI)) ∧ PySem.W.typeIn K (.ref fI) = some (.type "function") ∧ FnOk P w K mg base CX0 1 fI fd ["self", "place"] (spE1 CB "place") ∧ Binds K fd ["self", "place"] []
theorem sd_raiseBL {X : Cx} {Γ : Gm} {Φ : Out → Prop} {CB TE : Addr} {e : Expr} {d1 : D} {p p2 pos : Pos} (hc : X.calm = true) (B : BLT X.prog X.w X.K X.mg X.base CB TE) (hr : Room 2 X.A) (ha : ED X e Γ d1) (hp : Φ (.ex (.ref CB) [("place", d1)] Γ)) (hg : Gl X "BadLine" := by rfl)
    (he : starEach (e :: []) X.env = (false, eval e X.env) :: starEach [] X.env := by rfl) (hpl : (backTo pos (starEach [] X.env)).any (·.1) = false := by rfl) : SD X (.Raise (some (.Call (.Name "BadLine" p) [e] [] pos)) none p2) Γ Φ := by
  obtain ⟨fI, fd, h1, h2, h3, h4⟩ := B.ex
  exact sd_raiseE1 hc B.t h1 h2 h3 hr h4 ha hp hg (by decide) he hpl
abbrev co (cs : List Rat) (i : Nat) : Rat := cs.getD i 0
def In (q : Rat) : Prop := 0 < q ∧ q < 1
def Good (cs : List Rat) : Prop := ∃ n, cs.length = n + 1 ∧ (∀ j, j < n → In (co cs j)) ∧ (co cs n = 0 ∨ co cs n = 1)
def Bad (cs : List Rat) (k : Nat) : Prop := (cs = [] ∧ k = 0) ∨ (k + 1 < cs.length ∧ (∀ j, j < k → In (co cs j)) ∧ ¬ In (co cs k)) ∨ (k + 1 = cs.length ∧ (∀ j, j < k → In (co cs j)) ∧ co cs k ≠ 0 ∧ co cs k ≠ 1)
theorem good_bad (cs : List Rat) : Good cs ∨ ∃ k, Bad cs k := by
  have key : ∀ n, (∀ j, j < n → In (co cs j)) ∨ ∃ k, k < n ∧ (∀ j, j < k → In (co cs j)) ∧ ¬ In (co cs k) := by
    intro n
    induction n with
    | zero => exact .inl fun j hj => by omega
    | succ n ih =>
      rcases ih with h | ⟨k, h1, h2, h3⟩
      · by_cases hn : In (co cs n)
        · refine .inl fun j hj => ?_
          by_cases e : j = n
          · rw [e]; exact hn
          · exact h j (by omega)
        · exact .inr ⟨n, by omega, h, hn⟩
      · exact .inr ⟨k, by omega, h2, h3⟩
  rcases Nat.eq_zero_or_pos cs.length with h0 | h0
  · exact .inr ⟨0, .inl ⟨List.length_eq_zero_iff.mp h0, rfl⟩⟩
  · rcases key (cs.length - 1) with h | ⟨k, h1, h2, h3⟩
    · by_cases e0 : co cs (cs.length - 1) = 0
      · exact .inl ⟨cs.length - 1, by omega, h, .inl e0⟩
      · by_cases e1 : co cs (cs.length - 1) = 1
        · exact .inl ⟨cs.length - 1, by omega, h, .inr e1⟩
        · exact .inr ⟨cs.length - 1, .inr (.inr ⟨by omega, h, e0, e1⟩)⟩
    · exact .inr ⟨k, .inr (.inl ⟨by omega, h2, h3⟩)⟩
/-! ### _check_shares -/
def R_check (C : Addr) : List D → D → Prop := fun ds d => ∃ cs : List Rat, ds = [.lst (cs.map (fr C))] ∧ (∀ c ∈ cs, Sz 4000 c) ∧ Good cs ∧ d = .v .non
def RX_check (C CB : Addr) : List D → Value → List (Str × D) → Prop := fun ds cls fs => ∃ (cs : List Rat) (k : Nat), ds = [.lst (cs.map (fr C))] ∧ (∀ c ∈ cs, Sz 4000 c) ∧ Bad cs k ∧ cls = .ref CB ∧ fs = [(("place" : Str), iD (k : Int))]
theorem sc_check : FnScope ["shares", "place", "share"] ["shares"] (defScope s_check) := ⟨rfl, rfl, rfl, by decide +kernel, rfl, by decide +kernel, by decide +kernel⟩
theorem sz0 : Sz 4000 ((0 : Int) : Rat) := ⟨Nat.two_pow_pos _, Nat.one_lt_two_pow (by decide)⟩
theorem sz1 : Sz 4000 ((1 : Int) : Rat) := ⟨Nat.one_lt_two_pow (by decide), Nat.one_lt_two_pow (by decide)⟩
theorem at_frC {cs : List Rat} {j : Nat} (h : j < cs.length) : atI (cs.map (fr C)) (j : Int) = some (fr C (co cs j)) := by
  refine at_nat ?_
  rw [List.getElem?_map, List.getElem?_eq_getElem h]
  show some _ = some (fr C (List.getD _ _ _))
  rw [List.getD_eq_getElem?_getD, List.getElem?_eq_getElem h]
  rfl
theorem at_last {cs : List Rat} {n : Nat} (h : cs.length = n + 1) : atI (cs.map (fr C)) (-1) = some (fr C (co cs n)) := by
  have hl1 : (cs.map (fr C)).length = n + 1 := by rw [List.length_map, h]
  have := at_frC (C := C) (cs := cs) (j := n) (by omega)
  unfold atI ixN at this ⊢
  rw [hl1] at this ⊢
  rw [if_pos (by omega), if_pos (by omega), Int.toNat_natCast] at this
  rw [if_neg (by omega), if_pos (by omega), show ((-1 : Int) + ((n + 1 : Nat) : Int)).toNat = n by omega]
  exact this
theorem co_mem {cs : List Rat} (hz : ∀ c ∈ cs, Sz 4000 c) (j : Nat) : Sz 4000 (co cs j) := by
  show Sz 4000 (List.getD _ _ _)
  rw [List.getD_eq_getElem?_getD]
  cases h : cs[j]? with
  | none => exact sz0
  | some c => exact hz c (List.mem_of_getElem? h)
theorem c_le {X : Cx} {Γ : Gm} {a e : Expr} {pos : Pos} {q : Rat} (T : FrTxt X.K X.mg C) (HC : ∀ op, six op = true → CmpOk X.prog X.w X.K X.mg X.base C op) (hr : Room 6 X.A) (op : CmpOp) (h6 : six op = true) (hro : ∀ a b, compareOp op a b = richCompare op a b) (i : Int) (hi : Sz 4000 (i : Rat)) {bb : Bool} (ha : ED X a Γ (fr C q)) (he : ED X e Γ (iD i)) (hq : Sz 4000 q) (hb : cmpB op q (i : Rat) = bb)
    (hm : behindInMarks op e = false := by exact nomark _) : TD X (.Compare a [op] [e] pos) Γ bb := by
  obtain ⟨f, fd, ps, M, F, B⟩ := (HC op h6).ex
  exact td_cmp (cmp_ownI hro M T.sub1 F hr B pass0) ha he (rd_ownI ⟨q, _, _, rfl, .inr ⟨i, rfl, rfl⟩, hq, hi, by rw [hb]⟩) hm
theorem ok_check {f CB TE : Addr} {fd : FuncData} (F : Fun K "_check_shares" "_check_shares" s_check f fd) (T : FrTxt K mg C) (HC : ∀ op, six op = true → CmpOk P w K mg base C op) (B : BLT P w K mg base CB TE)
    (mL : mg "len" = none) (mE : mg "enumerate" = none) : FnOk P w K mg base (L2.CX P w) 7 f fd ["shares"] (spX K 1 (R_check C) (RX_check C CB)) := by
  refine fn_X F sc_check (by decide) fun cdv A outer s0 H E ds Φ hr hl hh => ?_
  have r2 : Room 2 _ := hr.mono (by decide)
  rcases hh with ⟨d, ⟨cs, rfl, hz, ⟨n, hn, hin, hlast⟩, rfl⟩, rfl⟩ | ⟨cls, fs, ⟨cs, k, rfl, hz, hb, rfl, rfl⟩, rfl⟩
  · have hne : cs.map (fr C) ≠ [] := fun z => by
      have := congrArg List.length z
      rw [List.length_map, hn] at this
      cases this
    refine z_ifF (td_not (k := true) (td_lstT (ed_var 0 rfl) hne)) ?_
    have lt : ((cs.map (fr C)).take ((cs.map (fr C)).length - 1)).length = n := by rw [List.length_take, List.length_map]; omega
    refine z_forE 1 2 (fun j Γ' => ∃ o1 o2, Γ' = [some (.lst (cs.map (fr C))), o1, o2]) rfl mE (fd_cutEnd (ed_var 0 rfl) (ed_un un_neg ed_int ud_neg)).ed sc_check.nd ⟨_, _, rfl⟩ ?_ ?_ (hp := passes_of rfl)
    · rintro j dj Γ' hj ⟨o1, o2, rfl⟩
      have hjn : j < n := by
        have := (List.getElem?_eq_some_iff.mp hj).1
        omega
      have e : dj = fr C (co cs j) := by
        rw [List.getElem?_take, if_pos (by rw [List.length_map]; omega)] at hj
        have := at_frC (C := C) (cs := cs) (j := j) (by omega)
        rw [at_nat hj] at this
        exact Option.some.inj this
      subst e
      have hi := hin j hjn
      exact z_ifF (WD.td (wd_orF (c_le (bb := false) T HC (hr.mono (by decide)) .LtE rfl (fun _ _ => rfl) 0 sz0 (ed_var 2 rfl) ed_int (co_mem hz j) (decide_eq_false (Rat.not_le.mpr hi.1))) (wd_or1 (c_le (bb := false) T HC (hr.mono (by decide)) .GtE rfl (fun _ _ => rfl) 1 sz1 (ed_var 2 rfl) ed_int (co_mem hz j) (decide_eq_false (Rat.not_le.mpr hi.2)))))) (ss_nil (.inl ⟨_, .inl rfl, _, _, rfl⟩))
    · rintro Γ' ⟨o1, o2, rfl⟩
      refine z_ifF ?_ (ss_nil (.inr ⟨rfl, _, rfl⟩))
      rcases hlast with h | h
      · exact WD.td (wd_andF (c_le (bb := false) T HC (hr.mono (by decide)) .NotEq rfl (fun _ _ => rfl) 0 sz0 (ed_ix (ed_var 0 rfl) (ed_un un_neg ed_int ud_neg) (at_last hn)) ed_int (co_mem hz n) (by rw [h]; rfl)))
      · exact WD.td (wd_andT (c_le (bb := true) T HC (hr.mono (by decide)) .NotEq rfl (fun _ _ => rfl) 0 sz0 (ed_ix (ed_var 0 rfl) (ed_un un_neg ed_int ud_neg) (at_last hn)) ed_int (co_mem hz n) (by rw [h]; rfl)) (wd_and1 (c_le (bb := false) T HC (hr.mono (by decide)) .NotEq rfl (fun _ _ => rfl) 1 sz1 (ed_ix (ed_var 0 rfl) (ed_un un_neg ed_int ud_neg) (at_last hn)) ed_int (co_mem hz n) (by rw [h]; rfl))))
  · rcases hb with ⟨rfl, rfl⟩ | ⟨hk, hin, hni⟩ | ⟨hk, hin, h0, h1⟩
    · exact z_ifR (b := true) (td_not (k := false) (td_lst (ds := []) (ed_var 0 rfl))) (fun _ => ss_out (sd_raiseBL rfl B r2 ed_int ⟨(fun _ z => by cases z), _, rfl⟩) (fun Γ' ⟨_, _, z⟩ => by cases z)) (fun z => by cases z)
    · have hne : cs.map (fr C) ≠ [] := fun z => by
        have := congrArg List.length z
        rw [List.length_map] at this
        simp at this
        rw [this] at hk
        simp at hk
      have lt : ((cs.map (fr C)).take ((cs.map (fr C)).length - 1)).length = cs.length - 1 := by rw [List.length_take, List.length_map]; omega
      refine z_ifF (td_not (k := true) (td_lstT (ed_var 0 rfl) hne)) ?_
      refine z_forE 1 2 (fun j Γ' => j ≤ k ∧ ∃ o1 o2, Γ' = [some (.lst (cs.map (fr C))), o1, o2]) rfl mE (fd_cutEnd (ed_var 0 rfl) (ed_un un_neg ed_int ud_neg)).ed sc_check.nd ⟨Nat.zero_le _, _, _, rfl⟩ ?_ ?_ (hp := passes_of rfl)
      · rintro j dj Γ' hj ⟨hjk, o1, o2, rfl⟩
        have hjn : j < cs.length - 1 := by
          have := (List.getElem?_eq_some_iff.mp hj).1
          omega
        have e : dj = fr C (co cs j) := by
          rw [List.getElem?_take, if_pos (by rw [List.length_map]; omega)] at hj
          have := at_frC (C := C) (cs := cs) (j := j) (by omega)
          rw [at_nat hj] at this
          exact Option.some.inj this
        subst e
        by_cases hlt : j < k
        · have hi := hin j hlt
          exact z_ifF (WD.td (wd_orF (id (c_le (bb := false) T HC (hr.mono (by decide)) .LtE rfl (fun _ _ => rfl) 0 sz0 (ed_var 2 rfl) ed_int (co_mem hz j) (decide_eq_false (Rat.not_le.mpr hi.1)))) (wd_or1 (id (c_le (bb := false) T HC (hr.mono (by decide)) .GtE rfl (fun _ _ => rfl) 1 sz1 (ed_var 2 rfl) ed_int (co_mem hz j) (decide_eq_false (Rat.not_le.mpr hi.2))))))) (ss_nil (.inl ⟨_, .inl rfl, by omega, _, _, rfl⟩))
        · have hjk' : j = k := by omega
          subst hjk'
          refine z_ifR (b := true) ?_ (fun _ => ss_out (sd_raiseBL rfl B r2 (ed_var 1 rfl) ⟨(fun _ z => by cases z), .inr (.inr (.inr ⟨_, _, _, rfl, _, rfl⟩))⟩) (fun Γ' z => absurd rfl (z.1 Γ'))) (fun z => by cases z)
          by_cases h0 : co cs j ≤ 0
          · exact WD.td (wd_orT (id (c_le (bb := true) T HC (hr.mono (by decide)) .LtE rfl (fun _ _ => rfl) 0 sz0 (ed_var 2 rfl) ed_int (co_mem hz j) (decide_eq_true h0))))
          · have h1 : (1 : Rat) ≤ co cs j := Rat.not_lt.mp fun z => hni ⟨Rat.not_le.mp h0, z⟩
            exact WD.td (wd_orF (id (c_le (bb := false) T HC (hr.mono (by decide)) .LtE rfl (fun _ _ => rfl) 0 sz0 (ed_var 2 rfl) ed_int (co_mem hz j) (decide_eq_false h0))) (wd_or1 (id (c_le (bb := true) T HC (hr.mono (by decide)) .GtE rfl (fun _ _ => rfl) 1 sz1 (ed_var 2 rfl) ed_int (co_mem hz j) (decide_eq_true h1)))))
      · rintro Γ' ⟨hjk, _⟩
        rw [lt] at hjk
        omega
    · have hn : cs.length = k + 1 := hk.symm
      have hne : cs.map (fr C) ≠ [] := fun z => by
        have := congrArg List.length z
        rw [List.length_map, hn] at this
        cases this
      have lt : ((cs.map (fr C)).take ((cs.map (fr C)).length - 1)).length = k := by rw [List.length_take, List.length_map]; omega
      have ll : (cs.map (fr C)).length = k + 1 := by rw [List.length_map, hn]
      refine z_ifF (td_not (k := true) (td_lstT (ed_var 0 rfl) hne)) ?_
      refine z_forE 1 2 (fun j Γ' => ∃ o1 o2, Γ' = [some (.lst (cs.map (fr C))), o1, o2]) rfl mE (fd_cutEnd (ed_var 0 rfl) (ed_un un_neg ed_int ud_neg)).ed sc_check.nd ⟨_, _, rfl⟩ ?_ ?_ (hp := passes_of rfl)
      · rintro j dj Γ' hj ⟨o1, o2, rfl⟩
        have hjn : j < k := by
          have := (List.getElem?_eq_some_iff.mp hj).1
          omega
        have e : dj = fr C (co cs j) := by
          rw [List.getElem?_take, if_pos (by rw [List.length_map]; omega)] at hj
          have := at_frC (C := C) (cs := cs) (j := j) (by omega)
          rw [at_nat hj] at this
          exact Option.some.inj this
        subst e
        have hi := hin j hjn
        exact z_ifF (WD.td (wd_orF (id (c_le (bb := false) T HC (hr.mono (by decide)) .LtE rfl (fun _ _ => rfl) 0 sz0 (ed_var 2 rfl) ed_int (co_mem hz j) (decide_eq_false (Rat.not_le.mpr hi.1)))) (wd_or1 (id (c_le (bb := false) T HC (hr.mono (by decide)) .GtE rfl (fun _ _ => rfl) 1 sz1 (ed_var 2 rfl) ed_int (co_mem hz j) (decide_eq_false (Rat.not_le.mpr hi.2))))))) (ss_nil (.inl ⟨_, .inl rfl, _, _, rfl⟩))
      · rintro Γ' ⟨o1, o2, rfl⟩
        exact z_ifR (b := true) (WD.td (wd_andT (id (c_le (bb := true) T HC (hr.mono (by decide)) .NotEq rfl (fun _ _ => rfl) 0 sz0 (ed_ix (ed_var 0 rfl) (ed_un un_neg ed_int ud_neg) (at_last hn)) ed_int (co_mem hz k) (congrArg not (decide_eq_false h0)))) (wd_and1 (id (c_le (bb := true) T HC (hr.mono (by decide)) .NotEq rfl (fun _ _ => rfl) 1 sz1 (ed_ix (ed_var 0 rfl) (ed_un un_neg ed_int ud_neg) (at_last hn)) ed_int (co_mem hz k) (congrArg not (decide_eq_false h1))))))) (fun _ => ss_out (sd_raiseBL rfl B r2 (ed_is (ed_op op_sub (ed_len mL (ed_var 0 rfl)) ed_int rd_I0) (by rw [ll]; congr 2; omega)) ⟨(fun _ z => by cases z), _, rfl⟩) (fun Γ' ⟨_, _, z⟩ => by cases z)) (fun z => by cases z)
/-! ### Line -/
def eOf (cs : List Rat) : Int := (co cs (cs.length - 1)).num
abbrev lnF (C : Addr) (cs : List Rat) : List (Str × D) := [("_shares", .lst (cs.map (fr C))), ("end", iD (eOf cs))]
abbrev lnD (LA C : Addr) (cs : List Rat) : D := .obj LA [("_shares", .lst (cs.map (fr C))), ("end", iD (eOf cs)), ("rooms", iD (((cs.length : Int) - 1 + eOf cs) / 2 + 1)), ("passages", iD (((cs.length : Int) - 1 + eOf cs + 1) / 2))]
structure LnTxt (K : PySem.W.Frag) (mg : Str → Option Value) (LA : Addr) : Prop where
  cl : Cls K LA
  nS : NoAttr K LA "_shares"
  nE : NoAttr K LA "end"
  nR : NoAttr K LA "rooms"
  nP : NoAttr K LA "passages"
  mgL : mg "Line" = some (.ref LA)
  ca : PySem.W.findIn K (.ref LA) "__class__" = some (some (.builtin "object.__class__"))
  cm : PySem.W.mroIn K LA (.type "object") = some true
def R_llast (LA C : Addr) : List D → D → Prop := fun ds d => ∃ cs : List Rat, ds = [.obj LA (lnF C cs)] ∧ cs.length < 1000000 ∧ d = iD ((cs.length : Int) - 1 + eOf cs)
theorem sc_llast : FnScope ["self"] ["self"] (defScope s_llast) := ⟨rfl, rfl, rfl, by decide +kernel, rfl, by decide +kernel, by decide +kernel⟩
theorem ok_llast {f LA : Addr} {fd : FuncData} (F : Fun K "_last_node" "Line._last_node" s_llast f fd) (L : LnTxt K mg LA) (mL : mg "len" = none) : FnOk P w K mg base CX0 1 f fd ["self"] (spD K 1 (R_llast LA C)) := by
  refine fn_D F sc_llast (by decide) fun cdv A outer s H E ds d hr hl hR => ?_
  obtain ⟨cs, rfl, hc, rfl⟩ := hR
  exact z_ret (ed_op op_add (ed_op op_sub (ed_is (ed_len mL (ed_fld (ed_var 0 rfl) L.cl L.nS rfl)) (by rw [List.length_map])) ed_int rd_I0) (ed_fld (ed_var 0 rfl) L.cl L.nE rfl) rd_I0) (.inl rfl)
def lnV (a : Addr) (cs : List Rat) : List (Str × V) := [("_shares", .ref a), ("end", .int (eOf cs)), ("rooms", .int (((cs.length : Int) - 1 + eOf cs) / 2 + 1)), ("passages", .int (((cs.length : Int) - 1 + eOf cs + 1) / 2))]
def spLine (K : PySem.W.Frag) (LA C CB : Addr) : Sp := fun vs H Q E => ∃ p dx y ds cs, vs = [.ref p, y] ∧ H p = some (.ins LA dx []) ∧ Den K H (.lst ds) y ∧ Nums C ds cs ∧ (∀ c ∈ cs, Sz 4000 c) ∧ cs.length < 1000000 ∧
  ((Good cs ∧ ∀ H' l ys, Ex H H' → H l = none → H' l = some (.lst ys) → DenL K H' (cs.map (fr C)) ys → Q .non (upd H' p (.ins LA dx (lnV l cs)))) ∨ ∃ k, Bad cs k ∧ ∀ d H', Ex H H' → DenX K H' d [(("place" : Str), iD (k : Int))] → E (.ref CB) d H')
theorem sc_linit : FnScope ["self", "shares", "kept", "last_node", "share"] ["self", "shares"] (defScope s_linit) := ⟨rfl, rfl, rfl, by decide +kernel, rfl, by decide +kernel, by decide +kernel⟩
theorem denL_oth {K : PySem.W.Frag} {H H' : Hp} {x LA dx : Addr} (hx : H x = some (.ins LA dx [])) (ho : ∀ b o, b ≠ x → H b = some o → H' b = some o) : ∀ {cs : List Rat} {ys : List V}, DenL K H (cs.map (fr C)) ys → DenL K H' (cs.map (fr C)) ys
  | [], ys, h => by
    simp only [List.map_nil, DenL] at h ⊢
    exact h
  | c :: cs, ys, h => by
    rw [List.map_cons] at h ⊢
    simp only [DenL] at h
    obtain ⟨z, zs, rfl, hz, hzs⟩ := h
    refine DenL.cons ?_ (denL_oth hx ho hzs)
    obtain ⟨a, da, rfl, ha⟩ := den_fr.mp hz
    refine den_fr.mpr ⟨a, da, rfl, ?_⟩
    exact ho a _ (fun z => by rw [z, hx] at ha; cases ha) ha
end
end Law

set_option exponentiation.threshold 10000
namespace Law
open PySem L2 Evl Trk
section
variable {P : Program} {w : World} {K : PySem.W.Frag} {mg : Str → Option Value} {base : Heap} {C : Addr}
theorem ok_linit {f LA CB fA fK fL : Addr} {fd fdA fdK fdL : FuncData} (F : Fun K "__init__" "Line.__init__" s_linit f fd) (T : FrTxt K mg C) (L : LnTxt K mg LA)
    (FA : FnOk P w K mg base CX0 3 fA fdA ["number"] (spD K 1 (R_asf C))) (mA : mg "as_fraction" = some (.ref fA)) (kA : PySem.W.keepIn K (.ref fA) = true) (bA : Binds K fdA ["number"] [])
    (FK : FnOk P w K mg base (L2.CX P w) 7 fK fdK ["shares"] (spX K 1 (R_check C) (RX_check C CB))) (mK : mg "_check_shares" = some (.ref fK)) (kK : PySem.W.keepIn K (.ref fK) = true) (bK : Binds K fdK ["shares"] [])
    (ML : Meth K LA "_last_node" fL) (FL : FnOk P w K mg base CX0 1 fL fdL ["self"] (spD K 1 (R_llast LA C))) (bL : Binds K fdL ["self"] []) :
    FnOk P w K mg base (L2.CX P w) 8 f fd ["self", "shares"] (spLine K LA C CB) := by
  refine F.okX sc_linit (fun vs H Q E h => ?_) fun cdv A outer s H vs Q E hr h => ?_
  · obtain ⟨p, dx, y, ds, cs, rfl, _⟩ := h
    rfl
  · obtain ⟨p, dx, y, ds, cs, rfl, hp, hy, hn, hz, hl, k⟩ := h
    have hlen := hn.len
    have r7 : Room 7 _ := hr
    have r3 : Room 3 _ := hr.mono (by decide)
    have r1 : Room 1 _ := hr.mono (by decide)
    have emap : (List.range ds.length).map (fun j => fr C (cs.getD j 0)) = cs.map (fr C) := by
      rw [hlen]
      apply List.ext_getElem (by simp)
      intro j h1 h2
      simp at h1 h2
      simp [List.getD_eq_getElem?_getD, List.getElem?_eq_getElem h1]
    have hFS : FS (cxOf (L2.CX P w) P w K mg base ["self", "shares", "kept", "last_node", "share"] "Line.__init__" (defScope s_linit) f cdv A outer s H E) 2 ((defBody s_linit).getD 0 (.Pass ⟨0, 0, 0, 0⟩)) [some (.v (.ref p)), some (.lst ds), none, none, none] (cs.map (fr C)) := by
      rw [← emap]
      refine fs_lcL 4 2 (f := fun j => fr C (cs.getD j 0)) rfl sc_linit (ed_var 1 rfl) (by omega) (fun j dj hj => fun s0 H0 Ca cl fp => ?_) (fun j hj => flat_fr _)
      obtain ⟨q, h1, h2⟩ := hn.get hj
      rw [show cs.getD j 0 = q by rw [List.getD_eq_getElem?_getD, h1]; rfl]
      exact ed_call FA r3 mA kA bA pass0 (ad_cons (ed_var 4 rfl) ad_nil) ⟨dj, q, rfl, h2, rfl⟩
    have hst : Ctx K H [some (.v (.ref p)), some (.lst ds), none, none, none] (L2.start ["self", "shares", "kept", "last_node", "share"] [.ref p, y]) := fun j d g => by
      match j, g with
      | 0, g => cases Option.some.inj (Option.some.inj g); exact ⟨_, rfl, den_v.mpr rfl⟩
      | 1, g => cases Option.some.inj (Option.some.inj g); exact ⟨_, rfl, hy⟩
      | 2, g => cases Option.some.inj g
      | 3, g => cases Option.some.inj g
      | 4, g => cases Option.some.inj g
      | j + 5, g => simp at g
    rcases k with ⟨hg, k⟩ | ⟨j, hb, k⟩
    · obtain ⟨n, hln, hin, hlast⟩ := hg
      have he : eOf cs = (co cs n).num := by
        unfold eOf
        rw [hln]
        rfl
      refine ⟨_, pss_all (st' := defBody s_linit), ?_⟩
      have key : SOk (cxOf (L2.CX P w) P w K mg base ["self", "shares", "kept", "last_node", "share"] "Line.__init__" (defScope s_linit) f cdv A outer s H E) (defBody s_linit) [some (.v (.ref p)), some (.lst ds), none, none, none] [] H { nx := fun _ H' => Q .non H', rt := Q } := by
        refine sok_newS 2 hFS (flatL_fr cs) (fun j es z => by cases z) ?_ (by show 2 < 5; decide)
        intro σ F2 H2 as e0 hl2 Cw
        obtain ⟨tc, pc, qc⟩ : ED (cxOf (L2.CX P w) P w K mg base ["self", "shares", "kept", "last_node", "share"] "Line.__init__" (defScope s_linit) f cdv A outer s H E) (match ((defBody s_linit).getD 1 (.Pass ⟨0, 0, 0, 0⟩)) with | .Expr e _ => e | _ => .Constant .none 0 ⟨0, 0, 0, 0⟩) (pl [(2, cs.map (fr C))] [some (.v (.ref p)), some (.lst ds), none, none, none]) (.v .non) := ed_callX FK r7 mK kK bK (ad_cons (ed_var 2 rfl) ad_nil) ⟨cs, rfl, hz, ⟨n, hln, hin, hlast⟩, rfl⟩
        refine all_cons (ps_expr pc rfl) (qc σ H2 Cw.read _ fun v3 H3 e3 hv3 => ?_)
        obtain ⟨e4, C4, hA⟩ := Cw.grow e3
        obtain ⟨v0, hv0, hd0⟩ := C4.cx 0 _ rfl
        rw [den_v.mp hd0] at hv0
        obtain ⟨a, ys, g0, g1, g2, g3, g4⟩ := C4.own.at (k := 0) rfl
        have hp3 : H3 p = some (.ins LA dx []) := e3 _ _ (Cw.ex _ _ (e0 _ _ hp))
        have ap : a ≠ p := fun z => by
          rw [z, hp3] at g3
          cases g3
        have gL : DenL K H3 (cs.map (fr C)) ys := g4.mono C4.ex
        refine all_cons (ps_fld (pv 0) (pv 2) rfl) ?_
        refine ⟨_, g1, _, hv0, p, LA, dx, [], rfl, hp3, L.cl, L.nS, (by show 0 < 1000; decide), ?_⟩
        -- end
        have oA : ∀ {o : HO} b u, b ≠ p → H3 b = some u → upd H3 p o b = some u := fun {o} b u hb h => by
          rw [upd_ne hb]
          exact h
        obtain ⟨tv, pv3, qv3⟩ : ED (cxOf (L2.CX P w) P w K mg base ["self", "shares", "kept", "last_node", "share"] "Line.__init__" (defScope s_linit) f cdv A outer s H E) (match ((defBody s_linit).getD 3 (.Pass ⟨0, 0, 0, 0⟩)) with | .Assign _ e _ => e | _ => .Constant .none 0 ⟨0, 0, 0, 0⟩) [some (.v (.ref p)), none, some (.lst (cs.map (fr C))), none, none] (iD (co cs n).num) := ed_fld (ed_ix (ed_var 2 rfl) (ed_un un_neg ed_int ud_neg) (at_last hln)) T.cl T.nT rfl
        refine all_cons (ps_fld (pv 0) pv3 rfl) (qv3 σ _ (fun j d g => ?_) _ fun v4 H4 e5 hv4 => ?_)
        · match j, g with
          | 0, g => cases Option.some.inj (Option.some.inj g); exact ⟨_, hv0, den_v.mpr rfl⟩
          | 1, g => cases Option.some.inj g
          | 2, g =>
            cases Option.some.inj (Option.some.inj g)
            refine ⟨_, g1, ?_⟩
            simp only [Den]
            exact ⟨a, ys, rfl, oA _ _ ap g3, denL_oth hp3 (fun b u hb h => oA b u hb h) gL⟩
          | 3, g => cases Option.some.inj g
          | 4, g => cases Option.some.inj g
          | j + 5, g => simp at g
        have p4 := e5 _ _ upd_same
        have o4 : ∀ b u, b ≠ p → H3 b = some u → H4 b = some u := fun b u hb h => e5 _ _ (oA b u hb h)
        rw [den_v.mp hv4, ← he]
        refine ⟨_, hv0, p, LA, dx, _, rfl, p4, L.cl, L.nE, (by show 1 < 1000; decide), ?_⟩
        -- last_node
        have oB : ∀ {o : HO} b u, b ≠ p → H3 b = some u → upd H4 p o b = some u := fun {o} b u hb h => by
          rw [upd_ne hb]
          exact o4 b u hb h
        obtain ⟨tm, pm, qm⟩ : ED (cxOf (L2.CX P w) P w K mg base ["self", "shares", "kept", "last_node", "share"] "Line.__init__" (defScope s_linit) f cdv A outer s H E) (match ((defBody s_linit).getD 4 (.Pass ⟨0, 0, 0, 0⟩)) with | .Assign _ e _ => e | _ => .Constant .none 0 ⟨0, 0, 0, 0⟩) [some (.obj LA (lnF C cs)), none, none, none, none] (iD ((cs.length : Int) - 1 + eOf cs)) := ed_meth0 (ed_var 0 rfl) (fun {H gs} h => by
          simp only [DenF] at h
          obtain ⟨z, zs, rfl, h1, z2, zs2, rfl, h2, rfl⟩ := h
          rfl) L.cl ML FL r1 bL pass0 ⟨cs, rfl, hl, rfl⟩
        refine all_cons (ps_set (i := 3) sc_linit.nd rfl (Or.inl rfl) pm) (qm σ _ (fun j d g => ?_) _ fun v5 H5 e6 hv5 => ?_)
        · match j, g with
          | 0, g =>
            cases Option.some.inj (Option.some.inj g)
            refine ⟨_, hv0, ?_⟩
            simp only [Den]
            refine ⟨p, dx, [("_shares", .ref a), ("end", .int (eOf cs))], rfl, upd_same, denF_cons ?_ (denF_cons (den_v.mpr rfl) denF_nil)⟩
            simp only [Den]
            exact ⟨a, ys, rfl, oB _ _ ap g3, denL_oth hp3 (fun b u hb h => oB b u hb h) gL⟩
          | 1, g => cases Option.some.inj g
          | 2, g => cases Option.some.inj g
          | 3, g => cases Option.some.inj g
          | 4, g => cases Option.some.inj g
          | j + 5, g => simp at g
        have p5 := e6 _ _ upd_same
        have o5 : ∀ b u, b ≠ p → H3 b = some u → H5 b = some u := fun b u hb h => e6 _ _ (oB b u hb h)
        rw [den_v.mp hv5]
        have h3' : 3 < σ.length := by
          rw [hl2]
          show 3 < 5
          decide
        show allS _ _ _ (σ.set 3 (some (.int ((cs.length : Int) - 1 + eOf cs)))) H5
        obtain ⟨σ1, hσ1⟩ : ∃ σ1, σ1 = σ.set 3 (some (.int ((cs.length : Int) - 1 + eOf cs))) := ⟨_, rfl⟩
        have s0 : σ1[0]? = some (some (.ref p)) := by
          rw [hσ1, List.getElem?_set_ne (by decide)]
          exact hv0
        have s3 : σ1[3]? = some (some (.int ((cs.length : Int) - 1 + eOf cs))) := by
          rw [hσ1]
          exact List.getElem?_set_self h3'
        rw [← hσ1]
        have cR : ∀ H0 : Hp, Ctx K H0 [none, none, none, some (iD ((cs.length : Int) - 1 + eOf cs)), none] σ1 := fun H0 j d g => by
          match j, g with
          | 0, g => cases Option.some.inj g
          | 1, g => cases Option.some.inj g
          | 2, g => cases Option.some.inj g
          | 3, g => cases Option.some.inj (Option.some.inj g); exact ⟨_, s3, den_v.mpr rfl⟩
          | 4, g => cases Option.some.inj g
          | j + 5, g => simp at g
        -- rooms
        obtain ⟨tr, pr, qr⟩ : ED (cxOf (L2.CX P w) P w K mg base ["self", "shares", "kept", "last_node", "share"] "Line.__init__" (defScope s_linit) f cdv A outer s H E) (match ((defBody s_linit).getD 5 (.Pass ⟨0, 0, 0, 0⟩)) with | .Assign _ e _ => e | _ => .Constant .none 0 ⟨0, 0, 0, 0⟩) [none, none, none, some (iD ((cs.length : Int) - 1 + eOf cs)), none] (iD (((cs.length : Int) - 1 + eOf cs) / 2 + 1)) := ed_op op_add (ed_op op_fdiv (ed_var 3 rfl) ed_int (rd_I ⟨by decide, by decide⟩)) ed_int rd_I0
        refine all_cons (ps_fld (pv 0) pr rfl) (qr σ1 _ (cR _) _ fun v6 H6 e7 hv6 => ?_)
        rw [den_v.mp hv6]
        refine ⟨_, s0, p, LA, dx, _, rfl, e7 _ _ p5, L.cl, L.nR, (by show 2 < 1000; decide), ?_⟩
        -- passages
        obtain ⟨ts, ps', qs⟩ : ED (cxOf (L2.CX P w) P w K mg base ["self", "shares", "kept", "last_node", "share"] "Line.__init__" (defScope s_linit) f cdv A outer s H E) (match ((defBody s_linit).getD 6 (.Pass ⟨0, 0, 0, 0⟩)) with | .Assign _ e _ => e | _ => .Constant .none 0 ⟨0, 0, 0, 0⟩) [none, none, none, some (iD ((cs.length : Int) - 1 + eOf cs)), none] (iD (((cs.length : Int) - 1 + eOf cs + 1) / 2)) := ed_op op_fdiv (ed_op op_add (ed_var 3 rfl) ed_int rd_I0) ed_int (rd_I ⟨by decide, by decide⟩)
        refine all_cons (ps_fld (pv 0) ps' rfl) (qs σ1 _ (cR _) _ fun v7 H7 e8 hv7 => ?_)
        rw [den_v.mp hv7]
        refine ⟨_, s0, p, LA, dx, _, rfl, e8 _ _ upd_same, L.cl, L.nP, (by show 3 < 1000; decide), ?_⟩
        intro pins s1 I
        refine (pss_nil (X := (cxOf (L2.CX P w) P w K mg base ["self", "shares", "kept", "last_node", "share"] "Line.__init__" (defScope s_linit) f cdv A outer s H E))).run pins s1 σ1 _ _ I ?_
        have o7 : ∀ b u, b ≠ p → H3 b = some u → H7 b = some u := fun b u hb h => e8 _ _ (by
          rw [upd_ne hb]
          exact e7 _ _ (o5 b u hb h))
        have hna : H a = none := by
          cases hq : H a with
          | none => rfl
          | some o =>
            rw [(e0.trans e4) _ _ hq] at g2
            cases g2
        have fin := k (upd H7 p (.ins LA dx [])) a ys (fun b u hb => ?_) hna (by rw [upd_ne ap]; exact o7 _ _ ap g3) (denL_oth hp3 (fun b u hb h => by rw [upd_ne hb]; exact o7 b u hb h) gL)
        · rw [upd_upd] at fin
          exact fin
        · by_cases hbp : b = p
          · rw [hbp] at hb ⊢
            rw [upd_same, ← hb, hp]
          · rw [upd_ne hbp]
            exact o7 b u hbp (e3 _ _ (Cw.ex _ _ (e0 _ _ hb)))
      exact fun pins s1 I => key _ H H [] (Ex.refl H) rfl ⟨Ex.refl H, hst, True.intro⟩ pins s1 I
    · have hss : SsD (cxOf (L2.CX P w) P w K mg base ["self", "shares", "kept", "last_node", "share"] "Line.__init__" (defScope s_linit) f cdv A outer s H E) (defBody s_linit) [some (.v (.ref p)), some (.lst ds), none, none, none] (fun o => ∃ Γ, o = .ex (.ref CB) [(("place" : Str), iD (j : Int))] Γ) :=
        z_asgFS 2 hFS (ss_out (sd_exprX (xd_callX FK r7 mK kK bK (ad_cons (ed_var 2 rfl) ad_nil) ⟨cs, j, rfl, hz, hb, rfl, rfl⟩) ⟨_, rfl⟩) (fun Γ' ⟨_, z⟩ => by cases z))
      obtain ⟨t, pp, r⟩ := hss
      refine ⟨t, pp, r _ H rfl hst _ ⟨fun Γ σ H' ⟨_, z⟩ => (by cases z), fun d' v H' ⟨_, z⟩ => (by cases z), fun Γ σ H' ⟨_, z⟩ => (by cases z), fun Γ σ H' ⟨_, z⟩ => (by cases z), fun c fs' Γ d σ H' ⟨_, z⟩ e1 l1 c1 x1 => ?_⟩⟩
      cases z
      exact w0_of (W := fun cls d _ H => E cls d H) (takes_of rfl rfl rfl rfl) (k d H' e1 x1)
/-! ### Line(..) -/
theorem line_go {K : PySem.W.Frag} {H H1 : Hp} {x dx LA C CB : Addr} {v : V} {ds : List D} {cs : List Rat} {Q : VK} {E : XK} (nx : H1 x = none) (ndx : H1 dx = none) (e1 : Ex H H1) (h1 : Den K H1 (.lst ds) v) (hn : Nums C ds cs) (hz : ∀ c ∈ cs, Sz 4000 c) (hl : cs.length < 1000000) (hg : Good cs)
    (r : ∀ v H', Ex H H' → (∀ as, (∀ b ∈ as, ∃ ys, H b = some (.lst ys)) → Den K (wo H' as) (lnD LA C cs) v) → Q v H') : spLine K LA C CB [.ref x, v] (upd (upd H1 dx (.own x)) x (.ins LA dx [])) (fun v H2 => v = .non ∧ Q (.ref x) H2) E := by
  have up : Ex H1 (upd (upd H1 dx (.own x)) x (.ins LA dx [])) := fun b o hb => by
    rw [upd_ne (ne_of_none hb nx), upd_ne (ne_of_none hb ndx)]
    exact hb
  refine ⟨x, dx, v, ds, cs, rfl, upd_same, h1.mono up, hn, hz, hl, .inl ⟨hg, fun H' l ys e2 nl hl2 hL => ⟨rfl, r _ _ (fun b o hb => ?_) fun as hA => ?_⟩⟩⟩
  · have g := e1 b o hb
    rw [upd_ne (ne_of_none g nx)]
    exact e2 b o (up b o g)
  · have hx : H' x = some (.ins LA dx []) := e2 _ _ upd_same
    have lx : l ≠ x := fun z => by
      rw [z, hx] at hl2
      cases hl2
    have xas : x ∉ as := fun z => by
      obtain ⟨ys, h⟩ := hA x z
      rw [e1 _ _ h] at nx
      cases nx
    have las : l ∉ as := fun z => by
      obtain ⟨ys, h⟩ := hA l z
      rw [up _ _ (e1 _ _ h)] at nl
      cases nl
    simp only [Den]
    refine ⟨x, dx, lnV l cs, rfl, by rw [wo_out xas, upd_same], ?_⟩
    refine denF_cons ?_ (denF_cons (den_v.mpr rfl) (denF_cons (den_v.mpr rfl) (denF_cons (den_v.mpr rfl) denF_nil)))
    simp only [Den]
    refine ⟨l, ys, rfl, by rw [wo_out las, upd_ne lx]; exact hl2, (denL_oth hx (fun b o hb h => by rw [upd_ne hb]; exact h) hL).wo (fun b hb => ?_) (flatL_fr _)⟩
    obtain ⟨ys, h⟩ := hA b hb
    exact ⟨ys, by rw [upd_ne (show b ≠ x from fun z => xas (by rw [← z]; exact hb))]; exact e2 _ _ (up _ _ (e1 _ _ h))⟩
theorem line_no {K : PySem.W.Frag} {H H1 : Hp} {x dx LA C CB : Addr} {v : V} {ds : List D} {cs : List Rat} {k : Nat} {Q : VK} {E : XK} (nx : H1 x = none) (ndx : H1 dx = none) (e1 : Ex H H1) (h1 : Den K H1 (.lst ds) v) (hn : Nums C ds cs) (hz : ∀ c ∈ cs, Sz 4000 c) (hl : cs.length < 1000000) (hb : Bad cs k)
    (r : ∀ d H', Ex H H' → DenX K H' d [(("place" : Str), iD (k : Int))] → E (.ref CB) d H') : spLine K LA C CB [.ref x, v] (upd (upd H1 dx (.own x)) x (.ins LA dx [])) Q E := by
  have up : Ex H1 (upd (upd H1 dx (.own x)) x (.ins LA dx [])) := fun b o hb => by
    rw [upd_ne (ne_of_none hb nx), upd_ne (ne_of_none hb ndx)]
    exact hb
  exact ⟨x, dx, v, ds, cs, rfl, upd_same, h1.mono up, hn, hz, hl, .inr ⟨k, hb, fun d H' e2 hx => r d H' ((e1.trans up).trans e2) hx⟩⟩
section
variable {X : Cx} {Γ : Gm} {a : Expr} {pos p q1 : Pos} {LA CB f : Addr} {fd : FuncData} {ds : List D} {cs : List Rat}
/-- Line(e) -/
theorem nd_mkL (M : Mk X.K LA f) (F : FnOk X.prog X.w X.K X.mg X.base (L2.CX X.prog X.w) 8 f fd ["self", "shares"] (spLine X.K LA C CB)) (hr : Room 9 X.A) (hm : X.mg "Line" = some (.ref LA)) (hb : Binds X.K fd ["self", "shares"] [])
    (ha : ED X a Γ (.lst ds)) (hn : Nums C ds cs) (hz : ∀ c ∈ cs, Sz 4000 c) (hl : cs.length < 1000000) (hg0 : Good cs) (hg : Gl X "Line" := by rfl) (he : starEach (a :: []) X.env = (false, eval a X.env) :: starEach [] X.env := by rfl)
    (hpl : (backTo pos (starEach [] X.env)).any (·.1) = false := by rfl) : ND X (.Call (.Name "Line" p) [a] [] pos) Γ (lnD LA C cs) := by
  obtain ⟨t, pp, q⟩ := ha
  exact ⟨_, pe_makeS M F hr hg hm hb .nil (fun σ => passW) (pa_cons pp pa_nil he) (by decide) he hpl, fun σ H Cc Q r => q σ H Cc _ fun v H1 e1 h1 x dx nx ndx ne => line_go nx ndx e1 h1 hn hz hl hg0 r⟩
/-- cls(e), in a classmethod -/
theorem nd_mkLV (i : Nat) {x : Str} (M : Mk X.K LA f) (F : FnOk X.prog X.w X.K X.mg X.base (L2.CX X.prog X.w) 8 f fd ["self", "shares"] (spLine X.K LA C CB)) (hr : Room 9 X.A) (hb : Binds X.K fd ["self", "shares"] []) (hi : Γ[i]? = some (some (.v (.ref LA))))
    (ha : ED X a Γ (.lst ds)) (hn : Nums C ds cs) (hz : ∀ c ∈ cs, Sz 4000 c) (hl : cs.length < 1000000) (hg0 : Good cs) (hN : X.N[i]? = some x := by rfl) (hv : Vis X.env.scope x := by first | exact Or.inl rfl | exact Or.inr (Or.inl rfl) | exact Or.inr (Or.inr rfl)) (hdb : (x == ("__debug__" : Str)) = false := by decide) (hcd : (x == ("__classdict__" : Str)) = false := by decide)
    (he : starEach (a :: []) X.env = (false, eval a X.env) :: starEach [] X.env := by rfl) (hpl : (backTo pos (starEach [] X.env)).any (·.1) = false := by rfl) : ND X (.Call (.Name x p) [a] [] pos) Γ (lnD LA C cs) := by
  obtain ⟨t, pp, q⟩ := ha
  refine ⟨_, pe_makeSV (i := i) M F hr hb .nil (fun σ => passW) (pa_cons pp pa_nil he) hN hv hdb hcd he hpl, fun σ H Cc Q r => ⟨?_, q σ H Cc _ fun v H1 e1 h1 x dx nx ndx ne => line_go nx ndx e1 h1 hn hz hl hg0 r⟩⟩
  obtain ⟨v, h1, h2⟩ := Cc i _ hi
  rw [den_v.mp h2] at h1
  exact h1
/-- Line(shares=e) -/
theorem nd_mkLK {g : List Value → List Value → List Value} {gV : List V → List V → List V} (M : Mk X.K LA f) (F : FnOk X.prog X.w X.K X.mg X.base (L2.CX X.prog X.w) 8 f fd ["self", "shares"] (spLine X.K LA C CB)) (hr : Room 9 X.A) (hm : X.mg "Line" = some (.ref LA)) (hb : KBn X.K fd ["self", "shares"] 1 ["shares"] g gV) (hgV : ∀ x y, gV [x] [y] = [x, y])
    (ha : ED X a Γ (.lst ds)) (hn : Nums C ds cs) (hz : ∀ c ∈ cs, Sz 4000 c) (hl : cs.length < 1000000) (hg0 : Good cs) (hg : Gl X "Line" := by rfl) (hall : (backToKw pos (keywordEach [⟨some "shares", a, q1⟩] X.env)).all (·.1.isSome) = true := by rfl) (hks : (backToKw pos (keywordEach [⟨some "shares", a, q1⟩] X.env)).filterMap (·.1) = (["shares"] : List Str) := by rfl)
    (hpl : ((backTo pos (starEach [] X.env)).any (·.1) || (backToKw pos (keywordEach [⟨some "shares", a, q1⟩] X.env)).any (·.1.isNone)) = false := by rfl) : ND X (.Call (.Name "Line" p) [] [⟨some "shares", a, q1⟩] pos) Γ (lnD LA C cs) := by
  obtain ⟨t, pp, q⟩ := ha
  refine ⟨_, pe_makeKS M F hr hg hm hb (fun σ => passW) (pk_cons pp pk_nil) hall hks (by decide) hpl, fun σ H Cc Q r => q σ H Cc _ fun v H1 e1 h1 => ⟨rfl, fun x dx nx ndx ne => ?_⟩⟩
  rw [hgV]
  exact line_go nx ndx e1 h1 hn hz hl hg0 r
theorem xd_mkLK {g : List Value → List Value → List Value} {gV : List V → List V → List V} {k : Nat} (M : Mk X.K LA f) (F : FnOk X.prog X.w X.K X.mg X.base (L2.CX X.prog X.w) 8 f fd ["self", "shares"] (spLine X.K LA C CB)) (hr : Room 9 X.A) (hm : X.mg "Line" = some (.ref LA)) (hb : KBn X.K fd ["self", "shares"] 1 ["shares"] g gV) (hgV : ∀ x y, gV [x] [y] = [x, y])
    (ha : ED X a Γ (.lst ds)) (hn : Nums C ds cs) (hz : ∀ c ∈ cs, Sz 4000 c) (hl : cs.length < 1000000) (hb0 : Bad cs k) (hg : Gl X "Line" := by rfl) (hall : (backToKw pos (keywordEach [⟨some "shares", a, q1⟩] X.env)).all (·.1.isSome) = true := by rfl) (hks : (backToKw pos (keywordEach [⟨some "shares", a, q1⟩] X.env)).filterMap (·.1) = (["shares"] : List Str) := by rfl)
    (hpl : ((backTo pos (starEach [] X.env)).any (·.1) || (backToKw pos (keywordEach [⟨some "shares", a, q1⟩] X.env)).any (·.1.isNone)) = false := by rfl) : XD X (.Call (.Name "Line" p) [] [⟨some "shares", a, q1⟩] pos) Γ (.ref CB) [(("place" : Str), iD (k : Int))] := by
  obtain ⟨t, pp, q⟩ := ha
  refine ⟨_, pe_makeKS M F hr hg hm hb (fun σ => passW) (pk_cons pp pk_nil) hall hks (by decide) hpl, fun σ H Cc r Q => q σ H Cc _ fun v H1 e1 h1 => ⟨rfl, fun x dx nx ndx ne => ?_⟩⟩
  rw [hgV]
  exact line_no nx ndx e1 h1 hn hz hl hb0 r
end
end
end Law

set_option exponentiation.threshold 10000
namespace Law
open PySem L2 Evl Trk
section
variable {P : Program} {w : World} {K : PySem.W.Frag} {mg : Str → Option Value} {base : Heap} {C : Addr}
/-! ### what a line tells -/
def R_lsh (LA C : Addr) : List D → D → Prop := fun ds d => ∃ cs : List Rat, ds = [lnD LA C cs] ∧ d = .lst (cs.map (fr C))
def R_lshF (LA C : Addr) : List D → List D → Prop := fun ds xs => ∃ cs : List Rat, ds = [lnD LA C cs] ∧ xs = cs.map (fr C)
def R_llen (LA C : Addr) : List D → D → Prop := fun ds d => ∃ cs : List Rat, ds = [lnD LA C cs] ∧ d = iD (cs.length : Int)
def R_lget (LA C : Addr) : List D → D → Prop := fun ds d => ∃ (cs : List Rat) (k : Nat), ds = [lnD LA C cs, iD (k : Int)] ∧ k < cs.length ∧ d = fr C (co cs k)
def R_leq (LA C : Addr) (neg : Bool) : List D → D → Prop := fun ds d => ∃ cs es : List Rat, ds = [lnD LA C cs, lnD LA C es] ∧ (∀ c ∈ cs, Sz 4000 c) ∧ (∀ c ∈ es, Sz 4000 c) ∧ d = bD (neg ^^ decide (cs = es))
theorem sc_lshares : FnScope ["self"] ["self"] (defScope s_lshares) := ⟨rfl, rfl, rfl, by decide +kernel, rfl, by decide +kernel, by decide +kernel⟩
theorem ok_lshares {f LA : Addr} {fd : FuncData} (F : Fun K "shares" "Line.shares" s_lshares f fd) (L : LnTxt K mg LA) (mL : mg "list" = none) : FnOk P w K mg base CX0 1 f fd ["self"] (spD K 1 (R_lsh LA C)) := by
  refine fn_D F sc_lshares (by decide) fun cdv A outer s H E ds d hr hl hR => ?_
  obtain ⟨cs, rfl, rfl⟩ := hR
  exact z_ret (fd_list mL (ed_fld (ed_var 0 rfl) L.cl L.nS rfl)).ed (.inl rfl)
theorem ok_lsharesF {f LA : Addr} {fd : FuncData} (F : Fun K "shares" "Line.shares" s_lshares f fd) (L : LnTxt K mg LA) (mL : mg "list" = none) : FnOk P w K mg base CX0 1 f fd ["self"] (spF K 1 (R_lshF LA C)) := by
  refine fn_F F sc_lshares (by decide) rfl fun cdv A outer s H E ds xs hr hl hR => ?_
  obtain ⟨cs, rfl, rfl⟩ := hR
  exact fd_list mL (ed_fld (ed_var 0 rfl) L.cl L.nS rfl)
theorem sc_llen : FnScope ["self"] ["self"] (defScope s_llen) := ⟨rfl, rfl, rfl, by decide +kernel, rfl, by decide +kernel, by decide +kernel⟩
theorem ok_llen {f LA : Addr} {fd : FuncData} (F : Fun K "__len__" "Line.__len__" s_llen f fd) (L : LnTxt K mg LA) (mL : mg "len" = none) : FnOk P w K mg base CX0 1 f fd ["self"] (spD K 1 (R_llen LA C)) := by
  refine fn_D F sc_llen (by decide) fun cdv A outer s H E ds d hr hl hR => ?_
  obtain ⟨cs, rfl, rfl⟩ := hR
  exact z_ret (ed_is (ed_len mL (ed_fld (ed_var 0 rfl) L.cl L.nS rfl)) (by rw [List.length_map])) (.inl rfl)
theorem sc_lget : FnScope ["self", "at"] ["self", "at"] (defScope s_lget) := ⟨rfl, rfl, rfl, by decide +kernel, rfl, by decide +kernel, by decide +kernel⟩
theorem ok_lget {f LA : Addr} {fd : FuncData} (F : Fun K "__getitem__" "Line.__getitem__" s_lget f fd) (L : LnTxt K mg LA) : FnOk P w K mg base CX0 1 f fd ["self", "at"] (spD K 2 (R_lget LA C)) := by
  refine fn_D F sc_lget (by decide) fun cdv A outer s H E ds d hr hl hR => ?_
  obtain ⟨cs, k, rfl, hk, rfl⟩ := hR
  exact z_ret (ed_ix (ed_fld (ed_var 0 rfl) L.cl L.nS rfl) (ed_var 1 rfl) (at_frC hk)) (.inl rfl)
theorem sc_leq : FnScope ["self", "other"] ["self", "other"] (defScope s_leq) := ⟨rfl, rfl, rfl, by decide +kernel, rfl, by decide +kernel, by decide +kernel⟩
theorem ok_leq {f LA fE : Addr} {fd fdE : FuncData} (F : Fun K "__eq__" "Line.__eq__" s_leq f fd) (T : FrTxt K mg C) (L : LnTxt K mg LA) (ME : CmpM K C "__eq__" fE) (FE : FnOk P w K mg base CX0 5 fE fdE ["self", "other"] (spD K 2 (R_cmp C fun p q => decide (p = q)))) (bE : Binds K fdE ["self", "other"] []) :
    FnOk P w K mg base CX0 7 f fd ["self", "other"] (spD K 2 (R_leq LA C false)) := by
  refine fn_D F sc_leq (by decide) fun cdv A outer s H E ds d hr hl hR => ?_
  obtain ⟨cs, es, rfl, h1, h2, rfl⟩ := hR
  refine z_ifF (td_not (k := true) (td_val (ed_isi T.isi (ed_var 1 rfl) (ed_glob (v := .ref LA) L.mgL rfl) (.own LA) (.ob L.cl L.ca T.cn T.ct L.cm) kit_self))) ?_
  exact z_ret (ed_is (ed_cmp (op_eqF ME FE bE pass0 hr) (ed_fld (ed_var 0 rfl) L.cl L.nS rfl) (ed_fld (ed_var 1 rfl) L.cl L.nS rfl) (rd_eqF h1 h2)) (by rw [Bool.false_xor])) (.inl rfl)
theorem sc_lne : FnScope ["self", "other"] ["self", "other"] (defScope s_lne) := ⟨rfl, rfl, rfl, by decide +kernel, rfl, by decide +kernel, by decide +kernel⟩
theorem ok_lne {f LA fE : Addr} {fd fdE : FuncData} (F : Fun K "__ne__" "Line.__ne__" s_lne f fd) (ME : CmpM K LA "__eq__" fE) (FE : FnOk P w K mg base CX0 7 fE fdE ["self", "other"] (spD K 2 (R_leq LA C false))) (bE : Binds K fdE ["self", "other"] []) :
    FnOk P w K mg base CX0 8 f fd ["self", "other"] (spD K 2 (R_leq LA C true)) := by
  refine fn_D F sc_lne (by decide) fun cdv A outer s H E ds d hr hl hR => ?_
  obtain ⟨cs, es, rfl, h1, h2, rfl⟩ := hR
  exact z_ret (ed_is (ed_not (ed_cmp (cmp_own (fun _ _ => rfl) ME FE hr bE pass0) (ed_var 0 rfl) (ed_var 1 rfl) (rd_own ⟨cs, es, rfl, h1, h2, rfl⟩))) (by rw [Bool.false_xor, Bool.true_xor])) (.inl rfl)
/-! ### Line.cut -/
theorem c_eqN {X : Cx} {Γ : Gm} {a e : Expr} {pos : Pos} {d : D} {q : Rat} (T : FrTxt X.K X.mg C) (HC : ∀ op, six op = true → CmpOk X.prog X.w X.K X.mg X.base C op) (hr : Room 6 X.A) (i : Int) (hi : Sz 4000 (i : Rat)) {bb : Bool} (ha : ED X a Γ d) (hd : NumV C d q) (he : ED X e Γ (iD i)) (hq : Sz 4000 q) (hb : decide (q = (i : Rat)) = bb)
    (hm : behindInMarks .Eq e = false := by exact nomark _) : TD X (.Compare a [.Eq] [e] pos) Γ bb := by
  rcases hd with rfl | ⟨n, rfl, e1⟩
  · exact c_le T HC hr .Eq rfl (fun _ _ => rfl) i hi ha he hq hb hm
  · refine td_cmp op_eq ha he (rd_eqT rfl ?_) hm
    rw [← hb, decide_eq_decide, V.int.injEq, e1]
    exact Rat.intCast_inj.symm
theorem c_ltN {X : Cx} {Γ : Gm} {a e : Expr} {pos : Pos} {d : D} {q : Rat} (T : FrTxt X.K X.mg C) (HC : ∀ op, six op = true → CmpOk X.prog X.w X.K X.mg X.base C op) (hr : Room 6 X.A) (i : Int) (hi : Sz 4000 (i : Rat)) {bb : Bool} (ha : ED X a Γ d) (hd : NumV C d q) (he : ED X e Γ (iD i)) (hq : Sz 4000 q) (hb : decide (q < (i : Rat)) = bb)
    (hm : behindInMarks .Lt e = false := by exact nomark _) : TD X (.Compare a [.Lt] [e] pos) Γ bb := by
  rcases hd with rfl | ⟨n, rfl, e1⟩
  · exact c_le T HC hr .Lt rfl (fun _ _ => rfl) i hi ha he hq hb hm
  · refine td_cmp op_lt ha he (rd_B ?_) hm
    rw [← hb, decide_eq_decide, e1]
    exact Rat.intCast_lt_intCast.symm
theorem c_gtN {X : Cx} {Γ : Gm} {a e : Expr} {pos : Pos} {d : D} {q : Rat} (T : FrTxt X.K X.mg C) (HC : ∀ op, six op = true → CmpOk X.prog X.w X.K X.mg X.base C op) (hr : Room 6 X.A) (i : Int) (hi : Sz 4000 (i : Rat)) {bb : Bool} (ha : ED X a Γ d) (hd : NumV C d q) (he : ED X e Γ (iD i)) (hq : Sz 4000 q) (hb : decide ((i : Rat) < q) = bb)
    (hm : behindInMarks .Gt e = false := by exact nomark _) : TD X (.Compare a [.Gt] [e] pos) Γ bb := by
  rcases hd with rfl | ⟨n, rfl, e1⟩
  · exact c_le T HC hr .Gt rfl (fun _ _ => rfl) i hi ha he hq hb hm
  · refine td_cmp op_gt ha he (rd_B ?_) hm
    rw [← hb, decide_eq_decide, e1]
    exact Rat.intCast_lt_intCast.symm
def CutG (qs : List Rat) (m : Nat) : Prop := m < qs.length ∧ (∀ j, j < m → In (co qs j)) ∧ (co qs m = 0 ∨ co qs m = 1)
def CutB (qs : List Rat) (k : Nat) : Prop := (k < qs.length ∧ (∀ j, j < k → In (co qs j)) ∧ (co qs k < 0 ∨ 1 < co qs k)) ∨ (k = qs.length ∧ ∀ j, j < k → In (co qs j))
theorem cut_cases (qs : List Rat) : (∃ m, CutG qs m) ∨ ∃ k, CutB qs k := by
  have key : ∀ n, n ≤ qs.length → (∀ j, j < n → In (co qs j)) ∨ (∃ m, CutG qs m) ∨ ∃ k, CutB qs k := by
    intro n
    induction n with
    | zero => exact fun _ => .inl fun j hj => by omega
    | succ n ih =>
      intro hn
      rcases ih (by omega) with h | h
      · by_cases h0 : co qs n = 0
        · exact .inr (.inl ⟨n, by omega, h, .inl h0⟩)
        · by_cases h1 : co qs n = 1
          · exact .inr (.inl ⟨n, by omega, h, .inr h1⟩)
          · by_cases h2 : co qs n < 0
            · exact .inr (.inr ⟨n, .inl ⟨by omega, h, .inl h2⟩⟩)
            · by_cases h3 : 1 < co qs n
              · exact .inr (.inr ⟨n, .inl ⟨by omega, h, .inr h3⟩⟩)
              · refine .inl fun j hj => ?_
                by_cases e : j = n
                · rw [e]
                  exact ⟨by grind, by grind⟩
                · exact h j (by omega)
      · exact .inr h
  rcases key qs.length (Nat.le_refl _) with h | h
  · exact .inr ⟨_, .inr ⟨rfl, h⟩⟩
  · exact h
theorem co_take {qs : List Rat} {n j : Nat} (h : j < n) : co (qs.take n) j = co qs j := by
  show List.getD _ _ _ = List.getD _ _ _
  rw [List.getD_eq_getElem?_getD, List.getD_eq_getElem?_getD, List.getElem?_take, if_pos h]
theorem cutG_good {qs : List Rat} {m : Nat} (h : CutG qs m) : Good (qs.take (m + 1)) := by
  obtain ⟨h1, h2, h3⟩ := h
  refine ⟨m, by rw [List.length_take]; omega, fun j hj => ?_, ?_⟩
  · rw [co_take (by omega)]
    exact h2 j hj
  · rw [co_take (by omega)]
    exact h3
theorem Nums.take : ∀ {n : Nat} {ds : List D} {cs : List Rat}, Nums C ds cs → Nums C (ds.take n) (cs.take n)
  | 0, ds, cs, _ => by
    rw [List.take_zero, List.take_zero]
    exact True.intro
  | n + 1, [], [], _ => True.intro
  | n + 1, [], _ :: _, h => h.elim
  | n + 1, _ :: _, [], h => h.elim
  | n + 1, d :: ds, q :: qs, h => by
    rw [List.take_succ_cons, List.take_succ_cons]
    exact ⟨h.1, Nums.take h.2⟩
theorem Nums.at {ds : List D} {qs : List Rat} {j : Nat} {d : D} (h : Nums C ds qs) (hj : ds[j]? = some d) : NumV C d (co qs j) := by
  obtain ⟨q, h1, h2⟩ := h.get hj
  have e : co qs j = q := by
    show List.getD _ _ _ = _
    rw [List.getD_eq_getElem?_getD, h1]
    rfl
  rw [e]
  exact h2
def spCut (K : PySem.W.Frag) (LA C CB : Addr) : Sp := fun vs H Q E => ∃ y ds qs, vs = [.ref LA, y] ∧ Den K H (.lst ds) y ∧ Nums C ds qs ∧ (∀ c ∈ qs, Sz 4000 c) ∧ qs.length < 1000 ∧
  ((∃ m, CutG qs m ∧ ∀ v H', Ex H H' → (∀ as, (∀ b ∈ as, ∃ ys, H b = some (.lst ys)) → Den K (wo H' as) (lnD LA C (qs.take (m + 1))) v) → Q v H') ∨ ∃ k, CutB qs k ∧ ∀ d H', Ex H H' → DenX K H' d [(("place" : Str), iD (k : Int))] → E (.ref CB) d H')
theorem sc_lcut : FnScope ["cls", "shares", "place", "share"] ["cls", "shares"] (defScope s_lcut) := ⟨rfl, rfl, rfl, by decide +kernel, rfl, by decide +kernel, by decide +kernel⟩
theorem ok_lcut {f LA CB TE fI : Addr} {fd fdI : FuncData} (F : Fun K "cut" "Line.cut" s_lcut f fd) (T : FrTxt K mg C) (L : LnTxt K mg LA) (HC : ∀ op, six op = true → CmpOk P w K mg base C op) (B : BLT P w K mg base CB TE)
    (M : Mk K LA fI) (FI : FnOk P w K mg base (L2.CX P w) 8 fI fdI ["self", "shares"] (spLine K LA C CB)) (bI : Binds K fdI ["self", "shares"] []) (mL : mg "len" = none) (mE : mg "enumerate" = none) :
    FnOk P w K mg base (L2.CX P w) 10 f fd ["cls", "shares"] (spCut K LA C CB) := by
  refine F.okX sc_lcut (fun vs H Q E h => ?_) fun cdv A outer s H vs Q E hr h => ?_
  · obtain ⟨y, ds, qs, rfl, _⟩ := h
    rfl
  · obtain ⟨y, ds, qs, rfl, hy, hn, hz, hl, k⟩ := h
    have hlen := hn.len
    have r2 : Room 2 _ := hr.mono (by decide)
    have r6 : Room 6 _ := hr.mono (by decide)
    have r9 : Room 9 _ := hr
    have hst : Ctx K H [some (.v (.ref LA)), some (.lst ds), none, none] (L2.start ["cls", "shares", "place", "share"] [.ref LA, y]) := fun j d g => by
      match j, g with
      | 0, g => cases Option.some.inj (Option.some.inj g); exact ⟨_, rfl, den_v.mpr rfl⟩
      | 1, g => cases Option.some.inj (Option.some.inj g); exact ⟨_, rfl, hy⟩
      | 2, g => cases Option.some.inj g
      | 3, g => cases Option.some.inj g
      | j + 4, g => simp at g
    rcases k with ⟨m, hg, k⟩ | ⟨j, hb, k⟩
    · refine ⟨_, pss_all (st' := defBody s_lcut), ?_⟩
      obtain ⟨hm1, hin, hend⟩ := id hg
      have key : allS (cxOf (L2.CX P w) P w K mg base ["cls", "shares", "place", "share"] "Line.cut" (defScope s_lcut) f cdv A outer s H E) (defBody s_lcut) { nx := fun _ H' => Q .non H', rt := Q } (L2.start ["cls", "shares", "place", "share"] [.ref LA, y]) H := by
        refine all_forE 2 3 (fun i Γ' => i ≤ m ∧ ∃ o1 o2, Γ' = [some (.v (.ref LA)), some (.lst ds), o1, o2]) rfl mE rfl hst (ed_var 1 rfl) sc_lcut.nd ⟨Nat.zero_le _, _, _, rfl⟩ ?_ ?_ (hp := passes_of rfl)
        · rintro i di Γ' σ' H' hi ⟨him, o1, o2, rfl⟩ hl2 hc he D hD hrt
          have hnum := hn.at hi
          have hiz := co_mem hz i
          by_cases hlt : i < m
          · have hin' := hin i hlt
            have hss : SsD (cxOf (L2.CX P w) P w K mg base ["cls", "shares", "place", "share"] "Line.cut" (defScope s_lcut) f cdv A outer s H E) (match (defBody s_lcut).getD 0 (.Pass ⟨0, 0, 0, 0⟩) with | .For _ _ b _ _ => b | _ => []) [some (.v (.ref LA)), some (.lst ds), some (iD (i : Int)), some di] (fun o => o = .nx [some (.v (.ref LA)), some (.lst ds), some (iD (i : Int)), some di]) := z_ifF (WD.td (wd_orF (c_eqN T HC r6 0 sz0 (ed_var 3 rfl) hnum ed_int hiz (decide_eq_false fun z => by have := hin'.1; rw [z] at this; exact absurd this (by decide))) (wd_or1 (c_eqN T HC r6 1 sz1 (ed_var 3 rfl) hnum ed_int hiz (decide_eq_false fun z => by have := hin'.2; rw [z] at this; exact absurd this (by decide)))))) (z_ifF (WD.td (wd_orF (c_ltN T HC r6 0 sz0 (ed_var 3 rfl) hnum ed_int hiz (decide_eq_false fun z => by
              have z' : co qs i < 0 := z
              have := hin'.1
              grind)) (wd_or1 (c_gtN T HC r6 1 sz1 (ed_var 3 rfl) hnum ed_int hiz (decide_eq_false fun z => by
              have z' : 1 < co qs i := z
              have := hin'.2
              grind))))) (ss_nil rfl))
            refine hss.all hl2 hc ⟨fun Γ2 σ2 H2 z e2 l2 c2 => ?_, (fun d v H2 z => by cases z), (fun Γ2 σ2 H2 z => by cases z), (fun Γ2 σ2 H2 z => by cases z), (fun c fs Γ2 d σ2 H2 z => by cases z)⟩
            cases z
            exact hD _ _ _ ⟨by omega, _, _, rfl⟩ l2 c2 e2
          · have him' : i = m := by omega
            subst him'
            obtain ⟨tc, pc, qc⟩ : TD (cxOf (L2.CX P w) P w K mg base ["cls", "shares", "place", "share"] "Line.cut" (defScope s_lcut) f cdv A outer s H E) (match ((match (defBody s_lcut).getD 0 (.Pass ⟨0, 0, 0, 0⟩) with | .For _ _ b _ _ => b | _ => []).getD 0 (.Pass ⟨0, 0, 0, 0⟩)) with | .If c _ _ _ => c | _ => .Constant .none 0 ⟨0, 0, 0, 0⟩) [some (.v (.ref LA)), some (.lst ds), some (iD (i : Int)), some di] true := WD.td (by
              rcases hend with h | h
              · exact wd_orT (c_eqN T HC r6 0 sz0 (ed_var 3 rfl) hnum ed_int hiz (decide_eq_true h))
              · exact wd_orF (c_eqN T HC r6 0 sz0 (ed_var 3 rfl) hnum ed_int hiz (decide_eq_false fun z => by rw [h] at z; exact absurd z (by decide))) (wd_or1 (c_eqN T HC r6 1 sz1 (ed_var 3 rfl) hnum ed_int hiz (decide_eq_true h))))
            obtain ⟨tr, pr, qr⟩ : ND (cxOf (L2.CX P w) P w K mg base ["cls", "shares", "place", "share"] "Line.cut" (defScope s_lcut) f cdv A outer s H E) (match (match ((match (defBody s_lcut).getD 0 (.Pass ⟨0, 0, 0, 0⟩) with | .For _ _ b _ _ => b | _ => []).getD 0 (.Pass ⟨0, 0, 0, 0⟩)) with | .If _ sa _ _ => sa | _ => []).getD 0 (.Pass ⟨0, 0, 0, 0⟩) with | .Return (some e) _ => e | _ => .Constant .none 0 ⟨0, 0, 0, 0⟩) [some (.v (.ref LA)), some (.lst ds), some (iD (i : Int)), some di] (lnD LA C (qs.take (i + 1))) := nd_mkLV 0 M FI r9 bI rfl (fd_cutTo (n := i + 1) (ed_var 1 rfl) (ed_is (ed_op op_add (ed_var 2 rfl) ed_int rd_I0) (by rw [Int.natCast_add]; rfl))).ed hn.take (fun c hc => hz c (List.mem_of_mem_take hc)) (by rw [List.length_take]; omega) (cutG_good hg)
            refine all_cons (ps_if pc (pss_all (st' := _)) pss_nv) (qc σ' H' hc _ fun H1 e1 => ?_)
            refine all_cons (ps_ret pr) (qr σ' H1 (hc.mono e1) _ fun v H2 e2 hND => ?_)
            show D.rt v H2
            rw [hrt]
            exact k v H2 ((he.trans e1).trans e2) fun as hA => hND as fun b hb => by
              obtain ⟨ys, hy2⟩ := hA b hb
              exact ⟨ys, e1 _ _ (he _ _ hy2)⟩
        · rintro Γ' σ' H' ⟨him, _⟩
          omega
      exact fun pins s1 I => key pins s1 I
    · have hss : SsD (cxOf (L2.CX P w) P w K mg base ["cls", "shares", "place", "share"] "Line.cut" (defScope s_lcut) f cdv A outer s H E) (defBody s_lcut) [some (.v (.ref LA)), some (.lst ds), none, none] (fun o => ∃ Γ, o = .ex (.ref CB) [(("place" : Str), iD (j : Int))] Γ) := by
        have hjin : ∀ i, i < j → In (co qs i) := by
          rcases hb with ⟨_, h, _⟩ | ⟨_, h⟩ <;> exact h
        refine z_forE 2 3 (fun i Γ' => i ≤ j ∧ ∃ o1 o2, Γ' = [some (.v (.ref LA)), some (.lst ds), o1, o2]) rfl mE (ed_var 1 rfl) sc_lcut.nd ⟨Nat.zero_le _, _, _, rfl⟩ ?_ ?_ (hp := passes_of rfl)
        · rintro i di Γ' hi ⟨hij, o1, o2, rfl⟩
          have hnum := hn.at hi
          have hiz := co_mem hz i
          have hil : i < qs.length := by
            have := (List.getElem?_eq_some_iff.mp hi).1
            omega
          by_cases hlt : i < j
          · have hin := hjin i hlt
            refine z_ifF (WD.td (wd_orF (c_eqN T HC r6 0 sz0 (ed_var 3 rfl) hnum ed_int hiz (decide_eq_false fun z => ?_)) (wd_or1 (c_eqN T HC r6 1 sz1 (ed_var 3 rfl) hnum ed_int hiz (decide_eq_false fun z => ?_))))) (z_ifF (WD.td (wd_orF (c_ltN T HC r6 0 sz0 (ed_var 3 rfl) hnum ed_int hiz (decide_eq_false fun z => ?_)) (wd_or1 (c_gtN T HC r6 1 sz1 (ed_var 3 rfl) hnum ed_int hiz (decide_eq_false fun z => ?_))))) (ss_nil (.inl ⟨_, .inl rfl, by omega, _, _, rfl⟩)))
            · have := hin.1; rw [z] at this; exact absurd this (by decide)
            · have := hin.2; rw [z] at this; exact absurd this (by decide)
            · have z' : co qs i < 0 := z
              have := hin.1
              grind
            · have z' : 1 < co qs i := z
              have := hin.2
              grind
          · have hij' : i = j := by omega
            subst hij'
            rcases hb with ⟨_, _, hbad⟩ | ⟨he, _⟩
            · have n0 : ¬ co qs i = ((0 : Int) : Rat) := fun z => by
                rw [z] at hbad
                rcases hbad with h | h <;> exact absurd h (by decide)
              have n1 : ¬ co qs i = ((1 : Int) : Rat) := fun z => by
                rw [z] at hbad
                rcases hbad with h | h <;> exact absurd h (by decide)
              refine z_ifF (WD.td (wd_orF (c_eqN T HC r6 0 sz0 (ed_var 3 rfl) hnum ed_int hiz (decide_eq_false n0)) (wd_or1 (c_eqN T HC r6 1 sz1 (ed_var 3 rfl) hnum ed_int hiz (decide_eq_false n1))))) ?_
              refine z_ifR (b := true) ?_ (fun _ => ss_out (sd_raiseBL rfl B r2 (ed_var 2 rfl) ⟨(fun _ z => by cases z), .inr (.inr (.inr ⟨_, _, _, rfl, _, rfl⟩))⟩) (fun Γ' z => absurd rfl (z.1 Γ'))) (fun z => by cases z)
              by_cases h0 : co qs i < ((0 : Int) : Rat)
              · exact WD.td (wd_orT (c_ltN T HC r6 0 sz0 (ed_var 3 rfl) hnum ed_int hiz (decide_eq_true h0)))
              · have h1 : ((1 : Int) : Rat) < co qs i := by
                  rcases hbad with h | h
                  · exact absurd h h0
                  · exact h
                exact WD.td (wd_orF (c_ltN T HC r6 0 sz0 (ed_var 3 rfl) hnum ed_int hiz (decide_eq_false h0)) (wd_or1 (c_gtN T HC r6 1 sz1 (ed_var 3 rfl) hnum ed_int hiz (decide_eq_true h1))))
            · omega
        · rintro Γ' ⟨hij, o1, o2, rfl⟩
          rcases hb with ⟨he, _⟩ | ⟨he, _⟩
          · omega
          · exact ss_out (sd_raiseBL rfl B r2 (ed_is (ed_len mL (ed_var 1 rfl)) (by rw [hlen, he])) ⟨_, rfl⟩) (fun Γ' ⟨_, z⟩ => by cases z)
      obtain ⟨t, pp, r⟩ := hss
      refine ⟨t, pp, r _ H rfl hst _ ⟨fun Γ σ H' ⟨_, z⟩ => (by cases z), fun d' v H' ⟨_, z⟩ => (by cases z), fun Γ σ H' ⟨_, z⟩ => (by cases z), fun Γ σ H' ⟨_, z⟩ => (by cases z), fun c fs' Γ d σ H' ⟨_, z⟩ e1 l1 c1 x1 => ?_⟩⟩
      cases z
      exact w0_of (W := fun cls d _ H => E cls d H) (takes_of rfl rfl rfl rfl) (k d H' e1 x1)
end
end Law

set_option exponentiation.threshold 10000
namespace Law
open PySem L2 Evl Trk
section
variable {P : Program} {w : World} {K : PySem.W.Frag} {mg : Str → Option Value} {base : Heap} {C : Addr}
/-! ### Line.cut(shares=..) -/
section
variable {X : Cx} {Γ : Gm} {a : Expr} {pos p q1 apos : Pos} {LA CB f pc : Addr} {fd : FuncData} {ds : List D} {qs : List Rat} {pl : Sem Bool} {g : List Value → List Value → List Value} {gV : List V → List V → List V}
theorem nd_cutK {m : Nat} (S : CMetK X.K LA "cut" pc f) (F : FnOk X.prog X.w X.K X.mg X.base (L2.CX X.prog X.w) 10 f fd ["cls", "shares"] (spCut X.K LA C CB)) (hr : Room 10 X.A) (hm : X.mg "Line" = some (.ref LA)) (hb : KBn X.K fd ["cls", "shares"] 1 ["shares"] g gV) (hgV : ∀ x y, gV [x] [y] = [x, y])
    (ha : ED X a Γ (.lst ds)) (hn : Nums C ds qs) (hz : ∀ c ∈ qs, Sz 4000 c) (hl : qs.length < 1000) (hg0 : CutG qs m) (hg : Gl X "Line" := by rfl) (hall : (backToKw pos (keywordEach [⟨some "shares", a, q1⟩] X.env)).all (·.1.isSome) = true := by rfl) (hks : (backToKw pos (keywordEach [⟨some "shares", a, q1⟩] X.env)).filterMap (·.1) = (["shares"] : List Str) := by rfl)
    (hpl : ((backTo pos (starEach [] X.env)).any (·.1) || (backToKw pos (keywordEach [⟨some "shares", a, q1⟩] X.env)).any (·.1.isNone)) = false := by rfl)
    (ht : eval (.Call (.Attribute (.Name "Line" p) "cut" apos) [] [⟨some "shares", a, q1⟩] pos) X.env = (do
      let ov ← eval (.Name "Line" p) X.env
      standAt apos.atName
      let (f, first) ← holding [ov] (getMethod ov "cut" pl)
      callWith pos f first (backTo pos (starEach [] X.env)) (backToKw pos (keywordEach [⟨some "shares", a, q1⟩] X.env))) := by rfl) : ND X (.Call (.Attribute (.Name "Line" p) "cut" apos) [] [⟨some "shares", a, q1⟩] pos) Γ (lnD LA C (qs.take (m + 1))) := by
  obtain ⟨t, pp, q⟩ := ha
  obtain ⟨to, po, qo⟩ := (ed_glob (Γ := Γ) (v := .ref LA) hm rfl hg : ED X (.Name "Line" p) Γ (.v (.ref LA)))
  refine ⟨_, pe_cmethK (pl := pl) po S F hr hb (fun σ => passW) (pk_cons pp pk_nil) hall hks hpl ht, fun σ H Cc Q r => qo σ H Cc _ fun x H1 e1 h1 => ⟨den_v.mp h1, q σ H1 (Cc.mono e1) _ fun v H2 e2 h2 => ⟨rfl, ?_⟩⟩⟩
  rw [hgV]
  exact ⟨v, ds, qs, rfl, h2, hn, hz, hl, .inl ⟨m, hg0, fun w H' e3 hND => r w H' ((e1.trans e2).trans e3) fun as hA => hND as fun b hb => by
    obtain ⟨ys, hy⟩ := hA b hb
    exact ⟨ys, e2 _ _ (e1 _ _ hy)⟩⟩⟩
theorem xd_cutK {k : Nat} (S : CMetK X.K LA "cut" pc f) (F : FnOk X.prog X.w X.K X.mg X.base (L2.CX X.prog X.w) 10 f fd ["cls", "shares"] (spCut X.K LA C CB)) (hr : Room 10 X.A) (hm : X.mg "Line" = some (.ref LA)) (hb : KBn X.K fd ["cls", "shares"] 1 ["shares"] g gV) (hgV : ∀ x y, gV [x] [y] = [x, y])
    (ha : ED X a Γ (.lst ds)) (hn : Nums C ds qs) (hz : ∀ c ∈ qs, Sz 4000 c) (hl : qs.length < 1000) (hg0 : CutB qs k) (hg : Gl X "Line" := by rfl) (hall : (backToKw pos (keywordEach [⟨some "shares", a, q1⟩] X.env)).all (·.1.isSome) = true := by rfl) (hks : (backToKw pos (keywordEach [⟨some "shares", a, q1⟩] X.env)).filterMap (·.1) = (["shares"] : List Str) := by rfl)
    (hpl : ((backTo pos (starEach [] X.env)).any (·.1) || (backToKw pos (keywordEach [⟨some "shares", a, q1⟩] X.env)).any (·.1.isNone)) = false := by rfl)
    (ht : eval (.Call (.Attribute (.Name "Line" p) "cut" apos) [] [⟨some "shares", a, q1⟩] pos) X.env = (do
      let ov ← eval (.Name "Line" p) X.env
      standAt apos.atName
      let (f, first) ← holding [ov] (getMethod ov "cut" pl)
      callWith pos f first (backTo pos (starEach [] X.env)) (backToKw pos (keywordEach [⟨some "shares", a, q1⟩] X.env))) := by rfl) : XD X (.Call (.Attribute (.Name "Line" p) "cut" apos) [] [⟨some "shares", a, q1⟩] pos) Γ (.ref CB) [(("place" : Str), iD (k : Int))] := by
  obtain ⟨t, pp, q⟩ := ha
  obtain ⟨to, po, qo⟩ := (ed_glob (Γ := Γ) (v := .ref LA) hm rfl hg : ED X (.Name "Line" p) Γ (.v (.ref LA)))
  refine ⟨_, pe_cmethK (pl := pl) po S F hr hb (fun σ => passW) (pk_cons pp pk_nil) hall hks hpl ht, fun σ H Cc r Q => qo σ H Cc _ fun x H1 e1 h1 => ⟨den_v.mp h1, q σ H1 (Cc.mono e1) _ fun v H2 e2 h2 => ⟨rfl, ?_⟩⟩⟩
  rw [hgV]
  exact ⟨v, ds, qs, rfl, h2, hn, hz, hl, .inr ⟨k, hg0, fun d H' e3 hx => r d H' ((e1.trans e2).trans e3) hx⟩⟩
end
/-! ### the draws of the laws -/
def blend (n : Int) (k : Nat) : Int := (((n * 7919 + (k : Int) * 104729 + 13) ^ (3 : Int).toNat % 2147483647) * 48271 + n + (k : Int) * 69621) ^ (2 : Int).toNat % 1000003
def rowS (gr : Bool) (span n : Int) : Nat → Int × List Int
  | 0 => (n, [])
  | k + 1 => if gr then ((rowS gr span n k).1 / span, (rowS gr span n k).2 ++ [(rowS gr span n k).1 % span]) else ((rowS gr span n k).1, (rowS gr span n k).2 ++ [blend (rowS gr span n k).1 k % span])
theorem rowS_len {gr : Bool} {span n : Int} : ∀ k, (rowS gr span n k).2.length = k
  | 0 => rfl
  | k + 1 => by
    cases gr <;> simp [rowS, rowS_len k]
theorem rowS_num {span n : Int} : ∀ k, (rowS false span n k).1 = n
  | 0 => rfl
  | k + 1 => by simp [rowS, rowS_num k]
theorem rowS_mem {gr : Bool} {span n : Int} (h : 0 < span) : ∀ k, ∀ v ∈ (rowS gr span n k).2, 0 ≤ v ∧ v < span
  | 0, v, hv => by cases hv
  | k + 1, v, hv => by
    have ih := rowS_mem (gr := gr) (n := n) h k v
    cases gr <;> simp only [rowS, if_true, if_false, Bool.false_eq_true, List.mem_append, List.mem_singleton] at hv <;> rcases hv with hv | hv
    · exact ih hv
    · subst hv
      exact ⟨Int.emod_nonneg _ (by omega), Int.emod_lt_of_pos _ h⟩
    · exact ih hv
    · subst hv
      exact ⟨Int.emod_nonneg _ (by omega), Int.emod_lt_of_pos _ h⟩
def rowG (x : Int) : Bool := decide ((10 : Int) ^ (18 : Int).toNat ≤ (x.natAbs : Int))
def rowF (x span : Int) (m : Nat) : List Int := (rowS (rowG x) span (x.natAbs : Int) m).2
theorem rowF_len {x span : Int} {m : Nat} : (rowF x span m).length = m := rowS_len m
def R_row : List D → D → Prop := fun ds d => ∃ (x span : Int) (m : Nat), ds = [iD x, iD span, iD (m : Int)] ∧ 0 < span ∧ span < 1073741824 ∧ m ≤ 1000 ∧ d = .lst ((rowF x span m).map iD)
theorem sc_row : FnScope ["_law_cell_here", "_law_span", "_law_many", "_law_number", "_law_great", "_law_row_here", "_law_k", "_law_blend"] ["_law_cell_here", "_law_span", "_law_many"] (defScope s_row) := ⟨rfl, rfl, rfl, by decide +kernel, rfl, by decide +kernel, by decide +kernel⟩
theorem flatL_ints : ∀ ns : List Int, flatL (ns.map iD) = true
  | [] => by simp [flatL]
  | n :: ns => by
    rw [List.map_cons]
    simp only [flatL, flat, flatL_ints ns, Bool.and_self]
theorem ok_row {f : Addr} {fd : FuncData} (F : Fun K "_law_row" "_law_row" s_row f fd) (tI : mg "int" = none) (mA : mg "abs" = none) (mR : mg "range" = none) : FnOk P w K mg base CX0 1 f fd ["_law_cell_here", "_law_span", "_law_many"] (spD K 3 R_row) := by
  refine fn_D F sc_row (by decide) fun cdv A outer s H E ds d hr hl hR => ?_
  obtain ⟨x, span, m, rfl, h0, h1, hm, rfl⟩ := hR
  have e18 : (10 : Int) ^ (18 : Int).toNat = 1000000000000000000 := by decide
  refine z_asg 3 (d := iD (x.natAbs : Int)) (ed_is (ed_abs mA (ed_toInt tI (ed_var 0 rfl))) (by rw [ab_eq])) sc_row.nd ?_
  refine z_asg 4 (d := bD (rowG x)) (ed_cmp op_ge (ed_var 3 rfl) (ed_op op_pow ed_int ed_int (rd_I ⟨by decide, by decide, by decide⟩)) rd_I0) sc_row.nd ?_
  refine so_top (Φ := fun o => o = .rt (.lst ((rowF x span m).map iD))) ?_ (fun d z => by cases z; exact .inl rfl) (fun Γ Ω z => by cases z) (fun Γ Ω z => by cases z) (fun Γ Ω z => by cases z) (fun c fs Γ Ω z => by cases z)
  refine so_new 5 (ds := []) (fd_lst ad_nil (by decide)) (by simp [flatL]) (fun j es z => by cases z) sc_row.nd ?_
  generalize hgr : rowG x = gr
  have hnum : gr = false → (x.natAbs : Int) < 1000000000000000000 := fun z => by
    subst z
    have := of_decide_eq_false hgr
    rw [e18] at this
    omega
  have hF : rowF x span m = (rowS gr span (x.natAbs : Int) m).2 := by
    unfold rowF
    rw [hgr]
  rw [hF]
  refine so_forR 6 (fun k Γ' Ω' => ∃ o1 o2, Γ' = [some (iD x), some (iD span), some (iD (m : Int)), some (iD (rowS gr span (x.natAbs : Int) k).1), some (bD gr), none, o1, o2] ∧ Ω' = [(5, (rowS gr span (x.natAbs : Int) k).2.map iD)]) rfl mR (ed_var 2 rfl) sc_row.nd (by omega) ⟨none, none, rfl, rfl⟩ (fun k Γ' Ω' ⟨_, _, _, h⟩ j es hj => by
    subst h
    simp at hj
    omega) ?_ ?_
  · rintro k Γ' Ω' hk ⟨o1, o2, rfl, rfl⟩
    have hlen : ((rowS gr span (x.natAbs : Int) k).2.map iD).length < 1000000 := by rw [List.length_map, rowS_len]; omega
    refine so_if (k := gr) (fun Γ2 Ω2 => ∃ o1 o2, Γ2 = [some (iD x), some (iD span), some (iD (m : Int)), some (iD (rowS gr span (x.natAbs : Int) (k + 1)).1), some (bD gr), none, o1, o2] ∧ Ω2 = [(5, (rowS gr span (x.natAbs : Int) (k + 1)).2.map iD)]) (td_val (ed_var 4 rfl)) (fun hg => ?_) (fun hg => ?_) (fun Γ2 Ω2 h => so_nil (.inl ⟨_, _, .inl rfl, h⟩))
    · subst hg
      refine so_app 0 5 rfl (ed_op op_mod (ed_var 3 rfl) (ed_var 1 rfl) (rd_I h0)) (by simp [flat]) hlen ?_
      refine so_asg 3 (ed_op op_fdiv (ed_var 3 rfl) (ed_var 1 rfl) (rd_I ⟨h0, h1⟩)) (by simp [flat]) (fun j es hj => by simp at hj; omega) sc_row.nd (so_nil ⟨_, _, rfl, _, _, rfl, ?_⟩)
      simp [rowS]
    · subst hg
      have hn := hnum rfl
      have hnn := rowS_num (span := span) (n := (x.natAbs : Int)) k
      have hb3 : CPowW ((rowS false span (x.natAbs : Int) k).1 * 7919 + (k : Int) * 104729 + 13) 3 := ⟨by decide, by decide, Nat.lt_of_lt_of_le (show _ < 2 ^ 80 by rw [hnn]; omega) (Nat.pow_le_pow_right (by decide) (by decide))⟩
      have hm1 := Int.emod_nonneg (((rowS false span (x.natAbs : Int) k).1 * 7919 + (k : Int) * 104729 + 13) ^ (3 : Int).toNat) (show (2147483647 : Int) ≠ 0 by decide)
      have hm2 := Int.emod_lt_of_pos (((rowS false span (x.natAbs : Int) k).1 * 7919 + (k : Int) * 104729 + 13) ^ (3 : Int).toNat) (show (0 : Int) < 2147483647 by decide)
      refine so_asg 7 (ed_op op_mod (ed_op op_powW (ed_op op_add (ed_op op_add (ed_op op_mul (ed_var 3 rfl) ed_int (rd_I (.inr ⟨by decide, by decide⟩))) (ed_op op_mul (ed_var 6 rfl) ed_int (rd_I (.inr ⟨by decide, by decide⟩))) rd_I0) ed_int rd_I0) ed_int (rd_I hb3)) ed_int (rd_I (by decide))) (by simp [flat]) (fun j es hj => by simp at hj; omega) sc_row.nd ?_
      generalize hB : ((rowS false span (x.natAbs : Int) k).1 * 7919 + (k : Int) * 104729 + 13) ^ (3 : Int).toNat % 2147483647 = B at hm1 hm2 ⊢
      have hb2 : CPowW (B * 48271 + (rowS false span (x.natAbs : Int) k).1 + (k : Int) * 69621) 2 := ⟨by decide, by decide, Nat.lt_of_lt_of_le (show _ < 2 ^ 80 by rw [hnn]; omega) (Nat.pow_le_pow_right (by decide) (by decide))⟩
      refine so_asg 7 (ed_op op_mod (ed_op op_powW (ed_op op_add (ed_op op_add (ed_op op_mul (ed_var 7 rfl) ed_int (rd_I (.inr ⟨by decide, by decide⟩))) (ed_var 3 rfl) rd_I0) (ed_op op_mul (ed_var 6 rfl) ed_int (rd_I (.inr ⟨by decide, by decide⟩))) rd_I0) ed_int (rd_I hb2)) ed_int (rd_I (by decide))) (by simp [flat]) (fun j es hj => by simp at hj; omega) sc_row.nd ?_
      refine so_app 0 5 rfl (ed_op op_mod (ed_var 7 rfl) (ed_var 1 rfl) (rd_I h0)) (by simp [flat]) hlen (so_nil ⟨_, _, rfl, some (iD (k : Int)), some (iD (blend (rowS false span (x.natAbs : Int) k).1 k)), ?_, ?_⟩)
      · subst hB
        rw [show (rowS false span (x.natAbs : Int) (k + 1)).1 = (rowS false span (x.natAbs : Int) k).1 by simp [rowS]]
        rfl
      · subst hB
        simp [rowS, blend]
  · rintro Γ' Ω' ⟨o1, o2, rfl, rfl⟩
    exact so_ret (ed_var 5 rfl) rfl
/-- pairs: what is drawn for fractions -/
abbrev pD (p : Int × Int) : D := .tup [iD p.1, iD p.2]
abbrev psD (ps : List (Int × Int)) : D := .lst (ps.map pD)
theorem flat_pD (p : Int × Int) : flat (pD p) = true := by simp [flat, flatL]
theorem flatL_pD : ∀ ps : List (Int × Int), flatL (ps.map pD) = true
  | [] => by simp [flatL]
  | p :: ps => by
    rw [List.map_cons]
    simp only [flatL, flat_pD, flatL_pD ps, Bool.and_self]
/-- sizes of ints -/
def Bd (n : Nat) (i : Int) : Prop := i.natAbs < 2 ^ n
theorem Bd.up {n m : Nat} {i : Int} (h : Bd n i) (hm : n ≤ m) : Bd m i := Nat.lt_of_lt_of_le h (Nat.pow_le_pow_right (by decide) hm)
theorem Bd.mul {n m : Nat} {i j : Int} (h : Bd n i) (h2 : Bd m j) : Bd (n + m) (i * j) := wide_lt h h2
theorem Bd.add {n m : Nat} {i j : Int} (h : Bd n i) (h2 : Bd m j) : Bd (max n m + 1) (i + j) := by
  have a := h.up (Nat.le_max_left n m)
  have b := h2.up (Nat.le_max_right n m)
  unfold Bd at *
  have := Nat.pow_succ (n := 2) (m := max n m)
  omega
theorem Bd.neg {n : Nat} {i : Int} (h : Bd n i) : Bd n (-i) := by
  unfold Bd at *
  rw [Int.natAbs_neg]
  exact h
theorem Bd.sub {n m : Nat} {i j : Int} (h : Bd n i) (h2 : Bd m j) : Bd (max n m + 1) (i - j) := by
  rw [Int.sub_eq_add_neg]
  exact h.add h2.neg
theorem Bd.wm {n m : Nat} {i j : Int} (h : Bd n i) (h2 : Bd m j) (hn : n ≤ 4000) (hm : m ≤ 4000) : CMulW i j := wide_mul (h.up hn) (h2.up hm) (by decide) (by decide) (by decide)
theorem Bd.sz {n m : Nat} {i j : Int} (h : Bd n i) (h2 : Bd m j) (h0 : j ≠ 0) (hn : n ≤ 4000) (hm : m ≤ 4000) : Sz 4000 (Rat.divInt i j) := ⟨Nat.lt_of_le_of_lt (num_le i j) (h.up hn), Nat.lt_of_le_of_lt (den_le h0) (h2.up hm)⟩
/-- a quotient is known by what it is times the bottom -/
theorem eq_q {q : Rat} {n m : Int} (hm : m ≠ 0) (h : q * (m : Rat) = (n : Rat)) : q = Rat.divInt n m := by
  rw [Rat.divInt_eq_div, ← h, Rat.mul_div_cancel (by simpa using hm)]
/-! ### pairs and the fractions that they write -/
theorem cross {a b : Int} (hb : b ≠ 0) : (Rat.divInt a b).num * b = a * ((Rat.divInt a b).den : Int) := by
  have h := Rat.num_divInt_den (Rat.divInt a b)
  exact (Rat.divInt_eq_divInt_iff (by have := (Rat.divInt a b).den_nz; omega) hb).mp h
def qv (p : Int × Int) : Rat := Rat.divInt p.1 p.2
/-- a pair with bounds -/
def PB (n : Nat) (p : Int × Int) : Prop := p.2 ≠ 0 ∧ Bd n p.1 ∧ Bd n p.2
theorem PB.up {n m : Nat} {p : Int × Int} (h : PB n p) (hm : n ≤ m) : PB m p := ⟨h.1, h.2.1.up hm, h.2.2.up hm⟩
theorem PB.sz {n : Nat} {p : Int × Int} (h : PB n p) (hn : n ≤ 4000) : Sz 4000 (qv p) := h.2.1.sz h.2.2 h.1 hn hn
theorem PB.sz2 {n : Nat} {p : Int × Int} (h : PB n p) (hn : n ≤ 2000) : Sz 2000 (qv p) := ⟨Nat.lt_of_le_of_lt (num_le p.1 p.2) (h.2.1.up hn), Nat.lt_of_le_of_lt (den_le h.1) (h.2.2.up hn)⟩
theorem qv_zero {p : Int × Int} (h : p.2 ≠ 0) : qv p = 0 ↔ p.1 = 0 := by
  unfold qv
  constructor
  · intro z
    have e := q_mul (a := p.1) (b := p.2) h
    rw [z, Rat.zero_mul] at e
    exact (Rat.intCast_eq_zero_iff.mp e.symm)
  · intro z
    rw [z, Rat.zero_divInt]
theorem qv_mul {p q : Int × Int} (hp : p.2 ≠ 0) (hq : q.2 ≠ 0) : qv p * qv q = qv (p.1 * q.1, p.2 * q.2) := by
  unfold qv
  rw [Rat.divInt_mul_divInt]
theorem qv_add {p q : Int × Int} (hp : p.2 ≠ 0) (hq : q.2 ≠ 0) : qv p + qv q = qv (p.1 * q.2 + q.1 * p.2, p.2 * q.2) := by
  unfold qv
  rw [Rat.divInt_add_divInt _ _ hp hq]
theorem qv_neg {p : Int × Int} : -qv p = qv (-p.1, p.2) := by
  unfold qv
  rw [Rat.neg_divInt]
theorem map_getD {α β : Type} {g : α → β} {d0 : α} : ∀ l : List α, (List.range l.length).map (fun j => g (l.getD j d0)) = l.map g := fun l => by
  apply List.ext_getElem (by simp)
  intro j h1 h2
  simp at h1 h2
  simp [List.getD_eq_getElem?_getD, List.getElem?_eq_getElem h1]
theorem at_pD {ps : List (Int × Int)} {j : Nat} (h : j < ps.length) : atI (ps.map pD) (j : Int) = some (pD ps[j]) := by
  refine at_nat ?_
  rw [List.getElem?_map, List.getElem?_eq_getElem h]
  rfl
theorem qv_int (p : Int × Int) (n : Int) : qv p * (n : Rat) = qv (p.1 * n, p.2) := by
  rw [q_int n]
  by_cases hp : p.2 = 0
  · unfold qv
    rw [hp, Rat.divInt_zero, Rat.zero_mul, Rat.divInt_zero]
  · have := qv_mul (p := p) (q := (n, 1)) hp (by show (1 : Int) ≠ 0; decide)
    rw [Int.mul_one] at this
    exact this
theorem Nums.set : ∀ {ds : List D} {cs : List Rat} {j : Nat} {d : D} {q : Rat}, Nums C ds cs → NumV C d q → Nums C (ds.set j d) (cs.set j q)
  | [], [], _, _, _, _, _ => True.intro
  | [], _ :: _, _, _, _, h, _ => h.elim
  | _ :: _, [], _, _, _, h, _ => h.elim
  | _ :: _, _ :: _, 0, _, _, h, hd => ⟨hd, h.2⟩
  | _ :: _, _ :: _, j + 1, _, _, h, hd => ⟨h.1, Nums.set (j := j) h.2 hd⟩
theorem flat_num {d : D} {q : Rat} (h : NumV C d q) : flat d = true := by
  rcases h with rfl | ⟨n, rfl, _⟩
  · exact flat_fr q
  · simp [flat]
/-- _law_handed -/
def handD (C : Addr) (b : Bool) (p : Int × Int) : D := if b && decide (p.2 = 1) then iD p.1 else fr C (qv p)
theorem hand_num {b : Bool} {p : Int × Int} : NumV C (handD C b p) (qv p) := by
  unfold handD
  split
  · rename_i h
    rw [Bool.and_eq_true] at h
    exact .inr ⟨p.1, rfl, by unfold qv; rw [of_decide_eq_true h.2]; exact (q_int p.1).symm⟩
  · exact .inl rfl
theorem flat_hand {b : Bool} {p : Int × Int} : flat (handD C b p) = true := flat_num hand_num
theorem flatL_hand {b : Bool} : ∀ ps : List (Int × Int), flatL (ps.map (handD C b)) = true
  | [] => by simp [flatL]
  | p :: ps => by
    rw [List.map_cons]
    simp only [flatL, flat_hand, flatL_hand ps, Bool.and_self]
theorem nums_hand {b : Bool} : ∀ ps : List (Int × Int), Nums C (ps.map (handD C b)) (ps.map qv)
  | [] => True.intro
  | p :: ps => ⟨hand_num, nums_hand ps⟩
theorem map_getD2 {α β γ : Type} {g : α → γ} {h : α → β} {d0 : α} (l : List α) : (List.range (l.map g).length).map (fun j => h (l.getD j d0)) = l.map h := by
  rw [List.length_map]
  exact map_getD l
theorem get_pD {ps : List (Int × Int)} {j : Nat} {dj : D} (h : (ps.map pD)[j]? = some dj) : ∃ hj : j < ps.length, dj = pD ps[j] ∧ ps.getD j (0, 1) = ps[j] := by
  rw [List.getElem?_map] at h
  rcases Nat.lt_or_ge j ps.length with z | z
  · rw [List.getElem?_eq_getElem z] at h
    cases h
    exact ⟨z, rfl, by rw [List.getD_eq_getElem?_getD, List.getElem?_eq_getElem z]; rfl⟩
  · rw [List.getElem?_eq_none z] at h
    cases h
theorem pbs_fr {n : Nat} {ps : List (Int × Int)} (h : ∀ p ∈ ps, PB n p) (hn : n ≤ 4000) : ∀ c ∈ ps.map qv, Sz 4000 c := fun c hc => by
  obtain ⟨p, hp, rfl⟩ := List.mem_map.mp hc
  exact (h p hp).sz hn
theorem pbs_fr2 {n : Nat} {ps : List (Int × Int)} (h : ∀ p ∈ ps, PB n p) (hn : n ≤ 2000) : ∀ c ∈ ps.map qv, Sz 2000 c := fun c hc => by
  obtain ⟨p, hp, rfl⟩ := List.mem_map.mp hc
  exact (h p hp).sz2 hn
theorem co_ge {cs : List Rat} {i : Nat} (h : cs.length ≤ i) : co cs i = 0 := by
  show List.getD _ _ _ = _
  rw [List.getD_eq_getElem?_getD, List.getElem?_eq_none h]
  rfl
abbrev gp (ps : List (Int × Int)) (i : Nat) : Int × Int := ps.getD i (0, 1)
theorem gp_lt {ps : List (Int × Int)} {i : Nat} (h : i < ps.length) : gp ps i = ps[i] := by
  show List.getD _ _ _ = _
  rw [List.getD_eq_getElem?_getD, List.getElem?_eq_getElem h]
  rfl
theorem at_gp {ps : List (Int × Int)} {i : Nat} (h : i < ps.length) : atI (ps.map pD) (i : Int) = some (pD (gp ps i)) := by
  rw [gp_lt h]
  exact at_pD h
theorem co_qv (ps : List (Int × Int)) (i : Nat) : co (ps.map qv) i = qv (gp ps i) := by
  by_cases h : i < ps.length
  · rw [gp_lt h]
    show List.getD _ _ _ = _
    rw [List.getD_eq_getElem?_getD, List.getElem?_map, List.getElem?_eq_getElem h]
    rfl
  · rw [co_ge (by rw [List.length_map]; omega)]
    show 0 = qv (ps.getD i (0, 1))
    rw [List.getD_eq_getElem?_getD, List.getElem?_eq_none (by omega)]
    exact (Rat.zero_divInt 1).symm
theorem pb_gp {n : Nat} {ps : List (Int × Int)} (hn : 1 ≤ n) (h : ∀ p ∈ ps, PB n p) (i : Nat) : PB n (gp ps i) := by
  by_cases hi : i < ps.length
  · rw [gp_lt hi]
    exact h _ (List.getElem_mem hi)
  · show PB n (ps.getD i (0, 1))
    rw [List.getD_eq_getElem?_getD, List.getElem?_eq_none (by omega)]
    exact ⟨by show (1 : Int) ≠ 0; decide, Nat.two_pow_pos _, Nat.one_lt_two_pow (by omega)⟩
def R_handed (C : Addr) : List D → D → Prop := fun ds d => ∃ p : Int × Int, ds = [pD p] ∧ PB 4000 p ∧ d = handD C true p
theorem sc_handed : FnScope ["_law_pair"] ["_law_pair"] (defScope s_handed) := ⟨rfl, rfl, rfl, by decide +kernel, rfl, by decide +kernel, by decide +kernel⟩
theorem ok_handed {f fI : Addr} {fd fdI : FuncData} (F : Fun K "_law_handed" "_law_handed" s_handed f fd) (T : FrTxt K mg C) (M : Mk K C fI) (FI : FnOk P w K mg base CX0 1 fI fdI ["self", "top", "bottom"] (spInit C)) (bI : Binds K fdI ["self", "top", "bottom"] []) : FnOk P w K mg base CX0 3 f fd ["_law_pair"] (spD K 1 (R_handed C)) := by
  refine fn_D F sc_handed (by decide) fun cdv A outer s H E ds d hr hl hR => ?_
  obtain ⟨p, rfl, hp, rfl⟩ := hR
  refine z_ifR (b := decide (V.int p.2 = V.int 1)) (td_cmp op_eq (ed_ixT (ed_var 0 rfl) ed_int rfl) ed_int (rd_eq rfl)) (fun hk => ?_) (fun hk => ?_)
  · have h1 : p.2 = 1 := V.int.inj (of_decide_eq_true hk)
    have e : handD C true p = iD p.1 := by simp [handD, h1]
    rw [e]
    exact z_ret (ed_ixT (ed_var 0 rfl) ed_int rfl) ⟨(fun _ z => by cases z), .inl rfl⟩
  · have h1 : ¬ p.2 = 1 := fun z => of_decide_eq_false hk (by rw [z])
    have e : handD C true p = fr C (qv p) := by simp [handD, h1]
    rw [e]
    exact z_ret (ed_mk M FI hr T.mgC bI pass0 (ad_cons (ed_ixT (ed_var 0 rfl) ed_int rfl) (ad_cons (ed_ixT (ed_var 0 rfl) ed_int rfl) ad_nil)) hp.1 (hp.2.2.up (by decide))) (.inl rfl)
theorem kit_bi {K : PySem.W.Frag} {t : String} : PySem.W.kitOne K (.type t) (.type t) = some true := by
  unfold PySem.W.kitOne
  rw [if_pos (by simp)]
/-! ### the law's own defs -/
def PS (p : Int × Int) : Prop := 1 ≤ p.2 ∧ PB 9 p
theorem in_qv {p : Int × Int} (h : 1 ≤ p.2) : In (qv p) ↔ 0 < p.1 ∧ p.1 < p.2 := by
  have h2 : (0 : Rat) < (p.2 : Rat) := by
    have := Rat.intCast_lt_intCast.mpr (show (0 : Int) < p.2 by omega)
    simpa using this
  have e : qv p = (p.1 : Rat) / (p.2 : Rat) := by
    unfold qv
    exact Rat.divInt_eq_div ..
  unfold In
  rw [e]
  constructor
  · rintro ⟨a, b⟩
    refine ⟨?_, ?_⟩
    · have := (Rat.lt_div_iff h2).mp a
      rw [Rat.zero_mul] at this
      exact Rat.intCast_lt_intCast.mp (by simpa using this)
    · have := (Rat.div_lt_iff h2).mp b
      rw [Rat.one_mul] at this
      exact Rat.intCast_lt_intCast.mp this
  · rintro ⟨a, b⟩
    refine ⟨(Rat.lt_div_iff h2).mpr ?_, (Rat.div_lt_iff h2).mpr ?_⟩
    · rw [Rat.zero_mul]
      have := Rat.intCast_lt_intCast.mpr a
      simpa using this
    · rw [Rat.one_mul]
      exact Rat.intCast_lt_intCast.mpr b
theorem z_qv {p : Int × Int} (h : 1 ≤ p.2) : qv p = 0 ↔ p.1 = 0 := qv_zero (by omega)
theorem o_qv {p : Int × Int} (h : 1 ≤ p.2) : qv p = 1 ↔ p.1 = p.2 := by
  have e : (1 : Rat) = Rat.divInt 1 1 := rfl
  unfold qv
  rw [e, Rat.divInt_eq_divInt_iff (by omega) (by decide)]
  omega
theorem lt_qv {p : Int × Int} (h : 1 ≤ p.2) : (qv p < 0 ∨ 1 < qv p) ↔ (p.1 < 0 ∨ p.2 < p.1) := by
  have h1 := in_qv h
  have h2 := z_qv h
  have h3 := o_qv h
  unfold In at h1
  constructor
  · intro z
    by_cases a : p.1 = 0
    · have := h2.mpr a; rw [this] at z; rcases z with z | z <;> exact absurd z (by decide)
    · by_cases b : p.1 = p.2
      · have := h3.mpr b; rw [this] at z; rcases z with z | z <;> exact absurd z (by decide)
      · by_cases c : 0 < p.1 ∧ p.1 < p.2
        · have := h1.mpr c
          rcases z with z | z <;> grind
        · omega
  · intro z
    by_cases c : qv p < 0
    · exact .inl c
    · right
      have n0 : qv p ≠ 0 := fun w => by have := h2.mp w; omega
      have n1 : qv p ≠ 1 := fun w => by have := h3.mp w; omega
      have n2 : ¬ (0 < qv p ∧ qv p < 1) := fun w => by have := h1.mp w; omega
      grind
def entF (k t b : Int) : Int × Int := if k < 9 then (1 + t % (1 + b), 2 + b) else if k < 11 then (k - 9, 1) else if k = 11 then (-1 - t % 3, 1 + b % 3) else (2 + b + t % 3, 1 + b % 2)
theorem entF_ps {k t b : Int} (h0 : 0 ≤ k) (h1 : k < 13) (h2 : 0 ≤ t) (h4 : 0 ≤ b) (h5 : b < 11) : PS (entF k t b) := by
  have m1 := Int.emod_nonneg t (show 1 + b ≠ 0 by omega)
  have m2 := Int.emod_lt_of_pos t (show 0 < 1 + b by omega)
  unfold entF
  split
  · refine ⟨by show 1 ≤ 2 + b; omega, by show 2 + b ≠ 0; omega, by show Int.natAbs (1 + t % (1 + b)) < 512; omega, by show Int.natAbs (2 + b) < 512; omega⟩
  · split
    · refine ⟨by show (1 : Int) ≤ 1; decide, by show (1 : Int) ≠ 0; decide, by show Int.natAbs (k - 9) < 512; omega, by show Int.natAbs 1 < 512; decide⟩
    · split
      · refine ⟨by show 1 ≤ 1 + b % 3; omega, by show 1 + b % 3 ≠ 0; omega, by show Int.natAbs (-1 - t % 3) < 512; omega, by show Int.natAbs (1 + b % 3) < 512; omega⟩
      · refine ⟨by show 1 ≤ 1 + b % 2; omega, by show 1 + b % 2 ≠ 0; omega, by show Int.natAbs (2 + b + t % 3) < 512; omega, by show Int.natAbs (1 + b % 2) < 512; omega⟩
def R_ent : List D → D → Prop := fun ds d => ∃ k t b : Int, ds = [iD k, iD t, iD b] ∧ 0 ≤ k ∧ k < 13 ∧ 0 ≤ t ∧ t < 1000 ∧ 0 ≤ b ∧ b < 11 ∧ d = pD (entF k t b)
theorem sc_entry : FnScope ["_law_kind", "_law_top", "_law_bottom"] ["_law_kind", "_law_top", "_law_bottom"] (defScope s_entry) := ⟨rfl, rfl, rfl, by decide +kernel, rfl, by decide +kernel, by decide +kernel⟩
theorem ok_entry {f : Addr} {fd : FuncData} (F : Fun K "_law_entry" "_law_entry" s_entry f fd) : FnOk P w K mg base CX0 1 f fd ["_law_kind", "_law_top", "_law_bottom"] (spD K 3 R_ent) := by
  refine fn_D F sc_entry (by decide) fun cdv A outer s0 H E ds d hr hl hR => ?_
  obtain ⟨k, t, b, rfl, h0, h1, h2, h3, h4, h5, rfl⟩ := hR
  refine z_ifR (b := decide (k < 9)) (td_cmp op_lt (ed_var 0 rfl) ed_int rd_I0) (fun hk => ?_) (fun hk => ?_)
  · have e : entF k t b = (1 + t % (1 + b), 2 + b) := if_pos (of_decide_eq_true hk)
    rw [e]
    exact z_ret (ed_tup (ad_cons (ed_op op_add ed_int (ed_op op_mod (ed_var 1 rfl) (ed_op op_add ed_int (ed_var 2 rfl) rd_I0) (rd_I (show 0 < 1 + b by omega))) rd_I0) (ad_cons (ed_op op_add ed_int (ed_var 2 rfl) rd_I0) ad_nil))) ⟨(fun _ z => by cases z), .inl rfl⟩
  have hk' : ¬ k < 9 := of_decide_eq_false hk
  refine z_ifR (b := decide (k < 11)) (td_cmp op_lt (ed_var 0 rfl) ed_int rd_I0) (fun hk2 => ?_) (fun hk2 => ?_)
  · have e : entF k t b = (k - 9, 1) := by unfold entF; rw [if_neg hk', if_pos (of_decide_eq_true hk2)]
    rw [e]
    exact z_ret (ed_tup (ad_cons (ed_op op_sub (ed_var 0 rfl) ed_int rd_I0) (ad_cons ed_int ad_nil))) ⟨(fun _ z => by cases z), .inl rfl⟩
  have hk2' : ¬ k < 11 := of_decide_eq_false hk2
  refine z_ifR (b := decide (V.int k = V.int 11)) (td_cmp op_eq (ed_var 0 rfl) ed_int (rd_eq rfl)) (fun hk3 => ?_) (fun hk3 => ?_)
  · have e : entF k t b = (-1 - t % 3, 1 + b % 3) := by unfold entF; rw [if_neg hk', if_neg hk2', if_pos (V.int.inj (of_decide_eq_true hk3))]
    rw [e]
    exact z_ret (ed_tup (ad_cons (ed_op op_sub (ed_un un_neg ed_int ud_neg) (ed_op op_mod (ed_var 1 rfl) ed_int (rd_I (by decide))) rd_I0) (ad_cons (ed_op op_add ed_int (ed_op op_mod (ed_var 2 rfl) ed_int (rd_I (by decide))) rd_I0) ad_nil))) ⟨(fun _ z => by cases z), .inl rfl⟩
  · have e : entF k t b = (2 + b + t % 3, 1 + b % 2) := by unfold entF; rw [if_neg hk', if_neg hk2', if_neg fun z => of_decide_eq_false hk3 (by rw [z])]
    rw [e]
    exact z_ret (ed_tup (ad_cons (ed_op op_add (ed_op op_add ed_int (ed_var 2 rfl) rd_I0) (ed_op op_mod (ed_var 1 rfl) ed_int (rd_I (by decide))) rd_I0) (ad_cons (ed_op op_add ed_int (ed_op op_mod (ed_var 2 rfl) ed_int (rd_I (by decide))) rd_I0) ad_nil))) (.inl rfl)
/-! ### _law_inside, _law_at_end, _law_place, _law_values, _law_equal -/
def insB (p : Int × Int) : Bool := decide (0 < p.1) && decide (p.1 < p.2)
def endB (p : Int × Int) : Bool := decide (p.1 = 0) || decide (p.1 = p.2)
def R_ins : List D → D → Prop := fun ds d => ∃ p : Int × Int, ds = [pD p] ∧ d = bD (insB p)
def R_aten : List D → D → Prop := fun ds d => ∃ p : Int × Int, ds = [pD p] ∧ d = bD (endB p)
theorem ed_orTb {X : Cx} {Γ : Gm} {a b : Expr} {es : List Expr} {pos : Pos} (h : ED X a Γ (bD true)) : ED X (.BoolOp .Or (a :: b :: es) pos) Γ (bD true) := by
  obtain ⟨t, p, q⟩ := h
  exact ⟨_, pe_or p pe_never, fun σ H C Q r => q σ H C _ fun v H1 e1 h1 => ⟨true, den_v.mp h1, r _ H1 e1 (den_v.mpr rfl)⟩⟩
theorem sc_inside : FnScope ["_law_pair"] ["_law_pair"] (defScope s_inside) := ⟨rfl, rfl, rfl, by decide +kernel, rfl, by decide +kernel, by decide +kernel⟩
theorem ok_inside {f : Addr} {fd : FuncData} (F : Fun K "_law_inside" "_law_inside" s_inside f fd) : FnOk P w K mg base CX0 1 f fd ["_law_pair"] (spD K 1 R_ins) := by
  refine fn_D F sc_inside (by decide) fun cdv A outer s0 H E ds d hr hl hR => ?_
  obtain ⟨p, rfl, rfl⟩ := hR
  refine z_ret (d := bD (insB p)) ?_ (.inl rfl)
  unfold insB
  by_cases h : 0 < p.1
  · rw [decide_eq_true h, Bool.true_and]
    exact ed_andT (ed_cmp op_lt ed_int (ed_ixT (ed_var 0 rfl) ed_int rfl) (rd_B (decide_eq_true h))) (ed_one (ed_cmp op_lt (ed_ixT (ed_var 0 rfl) ed_int rfl) (ed_ixT (ed_var 0 rfl) ed_int rfl) rd_I0))
  · rw [decide_eq_false h, Bool.false_and]
    exact ed_andF (ed_cmp op_lt ed_int (ed_ixT (ed_var 0 rfl) ed_int rfl) (rd_B (decide_eq_false h)))
theorem sc_atend : FnScope ["_law_pair"] ["_law_pair"] (defScope s_atend) := ⟨rfl, rfl, rfl, by decide +kernel, rfl, by decide +kernel, by decide +kernel⟩
theorem dec_int {i j : Int} : decide (V.int i = V.int j) = decide (i = j) := by
  rw [decide_eq_decide, V.int.injEq]
theorem ok_atend {f : Addr} {fd : FuncData} (F : Fun K "_law_at_end" "_law_at_end" s_atend f fd) : FnOk P w K mg base CX0 1 f fd ["_law_pair"] (spD K 1 R_aten) := by
  refine fn_D F sc_atend (by decide) fun cdv A outer s0 H E ds d hr hl hR => ?_
  obtain ⟨p, rfl, rfl⟩ := hR
  refine z_ret (d := bD (endB p)) ?_ (.inl rfl)
  unfold endB
  by_cases h : p.1 = 0
  · rw [decide_eq_true h, Bool.true_or]
    exact ed_orTb (ed_cmp op_eq (ed_ixT (ed_var 0 rfl) ed_int rfl) ed_int (rd_eqT rfl (by rw [dec_int, decide_eq_true h])))
  · rw [decide_eq_false h, Bool.false_or]
    exact ed_orF (ed_cmp op_eq (ed_ixT (ed_var 0 rfl) ed_int rfl) ed_int (rd_eqT rfl (by rw [dec_int, decide_eq_false h]))) (ed_one (ed_cmp op_eq (ed_ixT (ed_var 0 rfl) ed_int rfl) (ed_ixT (ed_var 0 rfl) ed_int rfl) (rd_eqT rfl dec_int)))
theorem ins_iff {p : Int × Int} (h : 1 ≤ p.2) : insB p = true ↔ In (qv p) := by
  rw [in_qv h]
  unfold insB
  rw [Bool.and_eq_true, decide_eq_true_iff, decide_eq_true_iff]
theorem end_iff {p : Int × Int} (h : 1 ≤ p.2) : endB p = true ↔ (qv p = 0 ∨ qv p = 1) := by
  unfold endB
  rw [Bool.or_eq_true, decide_eq_true_iff, decide_eq_true_iff, z_qv h, o_qv h]
def R_place : List D → D → Prop := fun ds d => ∃ ps : List (Int × Int), ds = [psD ps] ∧ (∀ p ∈ ps, PS p) ∧ ps.length ≤ 100 ∧ ((Good (ps.map qv) ∧ d = iD (-1)) ∨ ∃ k : Nat, Bad (ps.map qv) k ∧ d = iD (k : Int))
theorem ps_gp {ps : List (Int × Int)} (h : ∀ p ∈ ps, PS p) (i : Nat) : 1 ≤ (gp ps i).2 := by
  by_cases hi : i < ps.length
  · rw [gp_lt hi]
    exact (h _ (List.getElem_mem hi)).1
  · show 1 ≤ (ps.getD i (0, 1)).2
    rw [List.getD_eq_getElem?_getD, List.getElem?_eq_none (by omega)]
    decide
theorem sc_place : FnScope ["_law_pairs", "_law_k"] ["_law_pairs"] (defScope s_place) := ⟨rfl, rfl, rfl, by decide +kernel, rfl, by decide +kernel, by decide +kernel⟩
theorem ok_place {f fI fE : Addr} {fd fdI fdE : FuncData} (F : Fun K "_law_place" "_law_place" s_place f fd)
    (FI : FnOk P w K mg base CX0 1 fI fdI ["_law_pair"] (spD K 1 R_ins)) (mI : mg "_law_inside" = some (.ref fI)) (kI : PySem.W.keepIn K (.ref fI) = true) (bI : Binds K fdI ["_law_pair"] [])
    (FE : FnOk P w K mg base CX0 1 fE fdE ["_law_pair"] (spD K 1 R_aten)) (mE : mg "_law_at_end" = some (.ref fE)) (kE : PySem.W.keepIn K (.ref fE) = true) (bE : Binds K fdE ["_law_pair"] [])
    (mL : mg "len" = none) (mR : mg "range" = none) : FnOk P w K mg base CX0 2 f fd ["_law_pairs"] (spD K 1 R_place) := by
  refine fn_D F sc_place (by decide) fun cdv A outer s0 H E ds d hr hl hR => ?_
  obtain ⟨ps, rfl, hps, l100, hcase⟩ := hR
  have p1 : (ps.map pD).length = ps.length := List.length_map _
  have q1 : (ps.map qv).length = ps.length := List.length_map _
  rcases Nat.eq_zero_or_pos ps.length with h0 | h0
  · have e : ps = [] := List.length_eq_zero_iff.mp h0
    subst e
    have hd : d = iD 0 := by
      rcases hcase with ⟨⟨n, hn, _⟩, _⟩ | ⟨k, hb, hd⟩
      · cases hn
      · rcases hb with ⟨_, rfl⟩ | ⟨h, _⟩ | ⟨h, _⟩
        · exact hd
        · simp at h
        · simp at h
    subst hd
    refine z_forRI 1 (n := 0) (fun _ Γ' => Γ' = [some (psD []), none]) rfl mR (ed_op op_sub (ed_len mL (ed_var 0 rfl)) ed_int rd_I0) sc_place.nd rfl (by decide) (by decide) rfl (fun j Γ' hj _ => by omega) ?_
    rintro Γ' rfl
    exact z_ifR (b := true) (td_cmp op_eq (ed_len mL (ed_var 0 rfl)) ed_int (rd_eqT rfl (decide_eq_true rfl))) (fun _ => z_ret ed_int ⟨(fun _ z => by cases z), .inl rfl⟩) (fun z => by cases z)
  · have lm : (ps.length : Int) - 1 = ((ps.length - 1 : Nat) : Int) := by omega
    have noEmp : ps.map qv ≠ [] := fun z => by
      rw [z] at q1
      simp at q1
      omega
    -- how far all is inside
    obtain ⟨m, hm1, hin, hout⟩ : ∃ m, m ≤ ps.length - 1 ∧ (∀ j, j < m → In (co (ps.map qv) j)) ∧ ((m < ps.length - 1 ∧ ¬ In (co (ps.map qv) m) ∧ d = iD (m : Int)) ∨ (m = ps.length - 1 ∧ (((co (ps.map qv) m = 0 ∨ co (ps.map qv) m = 1) ∧ d = iD (-1)) ∨ (co (ps.map qv) m ≠ 0 ∧ co (ps.map qv) m ≠ 1 ∧ d = iD (m : Int))))) := by
      rcases hcase with ⟨⟨n, hn, h1, h2⟩, hd⟩ | ⟨k, hb, hd⟩
      · rw [q1] at hn
        exact ⟨n, by omega, h1, .inr ⟨by omega, .inl ⟨h2, hd⟩⟩⟩
      · rcases hb with ⟨h, _⟩ | ⟨h1, h2, h3⟩ | ⟨h1, h2, h3, h4⟩
        · exact absurd h noEmp
        · rw [q1] at h1
          exact ⟨k, by omega, h2, .inl ⟨by omega, h3, hd⟩⟩
        · rw [q1] at h1
          exact ⟨k, by omega, h2, .inr ⟨by omega, .inr ⟨h3, h4, hd⟩⟩⟩
    have insT : ∀ j, j < m → insB (gp ps j) = true := fun j hj => (ins_iff (ps_gp hps j)).mpr (by rw [← co_qv]; exact hin j hj)
    refine z_forRI 1 (n := ps.length - 1) (fun j Γ' => j ≤ m ∧ ∃ o, Γ' = [some (psD ps), o]) rfl mR (ed_op op_sub (ed_is (ed_len mL (ed_var 0 rfl)) (by rw [p1])) ed_int rd_I0) sc_place.nd (by omega) (by omega) (by omega) ⟨Nat.zero_le _, _, rfl⟩ ?_ ?_
    · rintro j Γ' hj ⟨hjm, o, rfl⟩
      by_cases hlt : j < m
      · exact z_ifF (td_not (k := true) (td_val (ed_is (ed_call FI hr mI kI bI pass0 (ad_cons (ed_ix (ed_var 0 rfl) (ed_var 1 rfl) (at_gp (by omega))) ad_nil) ⟨gp ps j, rfl, rfl⟩) (by rw [insT j hlt])))) (ss_nil (.inl ⟨_, .inl rfl, by omega, _, rfl⟩))
      · have hjm' : j = m := by omega
        subst hjm'
        rcases hout with ⟨_, hni, hd⟩ | ⟨he, _⟩
        · have hf : insB (gp ps j) = false := by
            cases hq : insB (gp ps j) with
            | false => rfl
            | true => exact absurd (by rw [co_qv]; exact (ins_iff (ps_gp hps j)).mp hq) hni
          exact z_ifR (b := true) (td_not (k := false) (td_val (ed_is (ed_call FI hr mI kI bI pass0 (ad_cons (ed_ix (ed_var 0 rfl) (ed_var 1 rfl) (at_gp (by omega))) ad_nil) ⟨gp ps j, rfl, rfl⟩) (by rw [hf])))) (fun _ => z_ret (ed_var 1 rfl) ⟨(fun _ z => by cases z), .inr (.inl ⟨_, rfl, .inl (by rw [hd])⟩)⟩) (fun z => by cases z)
        · omega
    · rintro Γ' ⟨hjm, o, rfl⟩
      have hme : m = ps.length - 1 := by omega
      rcases hout with ⟨h, _⟩ | ⟨_, hl2⟩
      · omega
      refine z_ifF (td_cmp op_eq (ed_is (ed_len mL (ed_var 0 rfl)) (by rw [p1])) ed_int (rd_eqT rfl (decide_eq_false fun z => by have := V.int.inj z; omega))) ?_
      have lastAt : atI (ps.map pD) ((ps.length : Int) - 1) = some (pD (gp ps m)) := by
        rw [lm, ← hme]
        exact at_gp (by omega)
      have lastE : ∀ {k : Bool}, endB (gp ps m) = k → R_aten [pD (gp ps m)] (bD k) := fun h => ⟨_, rfl, by rw [h]⟩
      rcases hl2 with ⟨h, hd⟩ | ⟨h1, h2, hd⟩
      · have ht : endB (gp ps m) = true := (end_iff (ps_gp hps m)).mpr (by rw [← co_qv]; exact h)
        refine z_ifF (td_not (k := true) (td_val (ed_call FE hr mE kE bE pass0 (ad_cons (ed_ix (ed_var 0 rfl) (ed_op op_sub (ed_is (ed_len mL (ed_var 0 rfl)) (by rw [p1])) ed_int rd_I0) lastAt) ad_nil) (lastE ht)))) ?_
        exact z_ret (ed_un un_neg ed_int ud_neg) (.inl (by rw [hd]))
      · have hf : endB (gp ps m) = false := by
          cases hq : endB (gp ps m) with
          | false => rfl
          | true =>
            rcases (end_iff (ps_gp hps m)).mp hq with h | h
            · exact absurd (by rw [co_qv]; exact h) h1
            · exact absurd (by rw [co_qv]; exact h) h2
        exact z_ifR (b := true) (td_not (k := false) (td_val (ed_call FE hr mE kE bE pass0 (ad_cons (ed_ix (ed_var 0 rfl) (ed_op op_sub (ed_is (ed_len mL (ed_var 0 rfl)) (by rw [p1])) ed_int rd_I0) lastAt) ad_nil) (lastE hf)))) (fun _ => z_ret (ed_is (ed_op op_sub (ed_is (ed_len mL (ed_var 0 rfl)) (by rw [p1])) ed_int rd_I0) (by rw [hd, hme, lm])) ⟨(fun _ z => by cases z), .inl rfl⟩) (fun z => by cases z)
theorem wm8 {i j : Int} (hi : i.natAbs < 2 ^ 4000) (hj : j.natAbs < 2 ^ 4000) : CMulW i j := wide_mul hi hj (by decide) (by decide) (by decide)
def R_vals (C : Addr) : List D → D → Prop := fun ds d => ∃ ps : List (Int × Int), ds = [.lst ((ps.map qv).map (fr C)), psD ps] ∧ (∀ p ∈ ps, PS p) ∧ ps.length ≤ 100 ∧ d = bD true
theorem sc_values : FnScope ["_law_values_here", "_law_pairs", "_law_k", "_law_told"] ["_law_values_here", "_law_pairs"] (defScope s_values) := ⟨rfl, rfl, rfl, by decide +kernel, rfl, by decide +kernel, by decide +kernel⟩
theorem ok_values {f : Addr} {fd : FuncData} (F : Fun K "_law_values" "_law_values" s_values f fd) (T : FrTxt K mg C) (mL : mg "len" = none) (mR : mg "range" = none) (mLi : mg "list" = none) : FnOk P w K mg base CX0 1 f fd ["_law_values_here", "_law_pairs"] (spD K 2 (R_vals C)) := by
  refine fn_D F sc_values (by decide) fun cdv A outer s0 H E ds d hr hl hR => ?_
  obtain ⟨ps, rfl, hps, l100, rfl⟩ := hR
  have t1 : ((ps.map qv).map (fr C)).length = ps.length := by rw [List.length_map, List.length_map]
  have t2 : (ps.map pD).length = ps.length := List.length_map _
  have hb : ∀ p ∈ ps, PB 9 p := fun p hp => (hps p hp).2
  refine z_ifF (WD.td (wd_orF (td_not (k := true) (td_val (ed_isiX T.isi (ed_var 0 rfl) (ed_bltn (v := .ty "list") mLi (by decide +kernel) rfl) (.ty "list") ty_lst kit_bi))) (wd_or1 (td_cmp op_ne (ed_len mL (ed_var 0 rfl)) (ed_len mL (ed_var 1 rfl)) (rd_neT rfl (by rw [t1, t2]; simp)))))) ?_
  refine z_forR 2 (n := ps.length) (fun _ Γ' => ∃ o1 o2, Γ' = [some (.lst ((ps.map qv).map (fr C))), some (psD ps), o1, o2]) rfl mR (ed_is (ed_len mL (ed_var 1 rfl)) (by rw [t2])) sc_values.nd (by omega) ⟨_, _, rfl⟩ ?_ ?_
  · rintro k Γ' hk ⟨o1, o2, rfl⟩
    have bp := pb_gp (by decide) hb k
    have hs := bp.sz (by decide)
    refine z_asg 3 (d := fr C (qv (gp ps k))) (ed_ix (ed_var 0 rfl) (ed_var 2 rfl) (by rw [← co_qv]; exact at_frC (by rw [List.length_map]; exact hk))) sc_values.nd ?_
    exact z_ifF (WD.td (wd_orF (td_not (k := true) (td_val (ed_isi T.isi (ed_var 3 rfl) (ed_glob (v := .ref C) T.mgC rfl) (.own C) (.fr T) kit_self))) (wd_or1 (td_cmp op_ne (ed_op op_mulW (ed_fld (ed_var 3 rfl) T.cl T.nT rfl) (ed_ixT (ed_ix (ed_var 1 rfl) (ed_var 2 rfl) (at_gp hk)) ed_int rfl) (rd_I (wm8 hs.num (bp.2.2.up (by decide))))) (ed_op op_mulW (ed_ixT (ed_ix (ed_var 1 rfl) (ed_var 2 rfl) (at_gp hk)) ed_int rfl) (ed_fld (ed_var 3 rfl) T.cl T.nB rfl) (rd_I (wm8 (bp.2.1.up (by decide)) hs.denI)))
      (rd_neT rfl (by rw [show (qv (gp ps k)).num * (gp ps k).2 = (gp ps k).1 * ((qv (gp ps k)).den : Int) from cross bp.1, decide_eq_true rfl]; rfl)))))) (ss_nil (.inl ⟨_, .inl rfl, _, _, rfl⟩))
  · rintro Γ' ⟨o1, o2, rfl⟩
    exact z_ret ed_bl (.inl rfl)
def R_eql : List D → D → Prop := fun ds d => ∃ f s : List (Int × Int), ds = [psD f, psD s] ∧ (∀ p ∈ f, PS p) ∧ (∀ p ∈ s, PS p) ∧ f.length ≤ 100 ∧ d = bD (decide (f.map qv = s.map qv))
theorem sc_equal : FnScope ["_law_first", "_law_second", "_law_k"] ["_law_first", "_law_second"] (defScope s_equal) := ⟨rfl, rfl, rfl, by decide +kernel, rfl, by decide +kernel, by decide +kernel⟩
theorem map_qv_eq {f s : List (Int × Int)} (hl : f.length = s.length) (h : ∀ i, i < f.length → qv (gp f i) = qv (gp s i)) : f.map qv = s.map qv := by
  apply List.ext_getElem (by rw [List.length_map, List.length_map, hl])
  intro i h1 h2
  rw [List.length_map] at h1 h2
  rw [List.getElem_map, List.getElem_map, ← gp_lt h1, ← gp_lt h2]
  exact h i h1
theorem ok_equal {f0 : Addr} {fd : FuncData} (F : Fun K "_law_equal" "_law_equal" s_equal f0 fd) (mL : mg "len" = none) (mR : mg "range" = none) : FnOk P w K mg base CX0 1 f0 fd ["_law_first", "_law_second"] (spD K 2 R_eql) := by
  refine fn_D F sc_equal (by decide) fun cdv A outer s0 H E ds d hr hl hR => ?_
  obtain ⟨f, s, rfl, h1, h2, l100, rfl⟩ := hR
  have f1 : (f.map pD).length = f.length := List.length_map _
  have s1 : (s.map pD).length = s.length := List.length_map _
  have b1 : ∀ p ∈ f, PB 9 p := fun p hp => (h1 p hp).2
  have b2 : ∀ p ∈ s, PB 9 p := fun p hp => (h2 p hp).2
  refine z_ifR (b := !decide (f.length = s.length)) (td_cmp op_ne (ed_is (ed_len mL (ed_var 0 rfl)) (by rw [f1])) (ed_is (ed_len mL (ed_var 1 rfl)) (by rw [s1])) (rd_neT rfl (by rw [dec_int]; congr 1; rw [decide_eq_decide]; omega))) (fun h => ?_) (fun h => ?_)
  · have hne : ¬ f.length = s.length := fun z => by rw [decide_eq_true z] at h; cases h
    have e : decide (f.map qv = s.map qv) = false := decide_eq_false fun z => hne (by
      have := congrArg List.length z
      rw [List.length_map, List.length_map] at this
      exact this)
    rw [e]
    exact z_ret ed_bl ⟨(fun _ z => by cases z), .inl rfl⟩
  · have hls : f.length = s.length := by
      have : decide (f.length = s.length) = true := by simpa using h
      exact of_decide_eq_true this
    refine z_forR 2 (n := f.length) (fun j Γ' => (∀ i, i < j → qv (gp f i) = qv (gp s i)) ∧ ∃ o, Γ' = [some (psD f), some (psD s), o]) rfl mR (ed_is (ed_len mL (ed_var 0 rfl)) (by rw [f1])) sc_equal.nd (by omega) ⟨fun i hi => by omega, _, rfl⟩ ?_ ?_
    · rintro j Γ' hj ⟨hall, o, rfl⟩
      have p1 := pb_gp (by decide) b1 j
      have p2 := pb_gp (by decide) b2 j
      have he : qv (gp f j) = qv (gp s j) ↔ (gp f j).1 * (gp s j).2 = (gp s j).1 * (gp f j).2 := Rat.divInt_eq_divInt_iff p1.1 p2.1
      have tst : ∀ k, (!decide ((gp f j).1 * (gp s j).2 = (gp s j).1 * (gp f j).2)) = k → (!decide (V.int ((gp f j).1 * (gp s j).2) = V.int ((gp s j).1 * (gp f j).2))) = k := fun k hk => by rw [dec_int]; exact hk
      by_cases hq : qv (gp f j) = qv (gp s j)
      · exact z_ifF (td_cmp op_ne (ed_op op_mulW (ed_ixT (ed_ix (ed_var 0 rfl) (ed_var 2 rfl) (at_gp hj)) ed_int rfl) (ed_ixT (ed_ix (ed_var 1 rfl) (ed_var 2 rfl) (at_gp (by omega))) ed_int rfl) (rd_I (p1.2.1.wm p2.2.2 (by decide) (by decide)))) (ed_op op_mulW (ed_ixT (ed_ix (ed_var 1 rfl) (ed_var 2 rfl) (at_gp (by omega))) ed_int rfl) (ed_ixT (ed_ix (ed_var 0 rfl) (ed_var 2 rfl) (at_gp hj)) ed_int rfl) (rd_I (p2.2.1.wm p1.2.2 (by decide) (by decide)))) (rd_neT rfl (tst _ (by rw [decide_eq_true (he.mp hq)]; rfl)))) (ss_nil (.inl ⟨_, .inl rfl, fun i hi => by
          by_cases e : i = j
          · rw [e]; exact hq
          · exact hall i (by omega), _, rfl⟩))
      · have e : decide (f.map qv = s.map qv) = false := decide_eq_false fun z => hq (by rw [← co_qv, ← co_qv, z])
        exact z_ifR (b := true) (td_cmp op_ne (ed_op op_mulW (ed_ixT (ed_ix (ed_var 0 rfl) (ed_var 2 rfl) (at_gp hj)) ed_int rfl) (ed_ixT (ed_ix (ed_var 1 rfl) (ed_var 2 rfl) (at_gp (by omega))) ed_int rfl) (rd_I (p1.2.1.wm p2.2.2 (by decide) (by decide)))) (ed_op op_mulW (ed_ixT (ed_ix (ed_var 1 rfl) (ed_var 2 rfl) (at_gp (by omega))) ed_int rfl) (ed_ixT (ed_ix (ed_var 0 rfl) (ed_var 2 rfl) (at_gp hj)) ed_int rfl) (rd_I (p2.2.1.wm p1.2.2 (by decide) (by decide)))) (rd_neT rfl (tst _ (by rw [decide_eq_false fun z => hq (he.mpr z)]; rfl)))) (fun _ => z_ret ed_bl ⟨(fun _ z => by cases z), .inr (.inl ⟨_, rfl, .inl (by rw [e])⟩)⟩) (fun z => by cases z)
    · rintro Γ' ⟨hall, o, rfl⟩
      have e : decide (f.map qv = s.map qv) = true := decide_eq_true (map_qv_eq hls hall)
      rw [e]
      exact z_ret ed_bl (.inl rfl)
end
end Law

set_option exponentiation.threshold 10000
namespace Law
open PySem L2 Evl Trk
section
variable {P : Program} {w : World} {K : PySem.W.Frag} {mg : Str → Option Value} {base : Heap} {C : Addr}
/-! ### _law_list -/
def shpF (xs : List Int) (t : Nat) : List Int := rowF (xs.getD t 0) 5040 2
def manF (xs : List Int) (t : Nat) : Nat := ((shpF xs t).getD 0 0 % 7).toNat
def kinF (xs : List Int) (t : Nat) : List Int := if (shpF xs t).getD 1 0 % 3 = 0 then (rowF (xs.getD (t + 1) 0) 13 (manF xs t)).map (· % 9) else rowF (xs.getD (t + 1) 0) 13 (manF xs t)
def preF (xs : List Int) (t : Nat) : List (Int × Int) := (List.range (manF xs t)).map fun k => entF ((kinF xs t).getD k 0) ((rowF (xs.getD (t + 2) 0) 1000 (manF xs t)).getD k 0) ((rowF (xs.getD (t + 3) 0) 11 (manF xs t)).getD k 0)
def lisF (xs : List Int) (t : Nat) : List (Int × Int) := if 0 < (shpF xs t).getD 1 0 / 3 % 3 then preF xs t ++ [((shpF xs t).getD 1 0 / 9 % 2, 1)] else preF xs t
theorem row_at (x span : Int) {m j : Nat} (hj : j < m) : atI ((rowF x span m).map iD) (j : Int) = some (iD ((rowF x span m).getD j 0)) := by
  have hl : j < (rowF x span m).length := by rw [rowF_len]; exact hj
  refine at_nat ?_
  rw [List.getElem?_map, List.getD_eq_getElem?_getD, List.getElem?_eq_getElem hl]
  rfl
theorem row_mem (x : Int) {span : Int} (hs : 0 < span) {m j : Nat} (hj : j < m) : 0 ≤ (rowF x span m).getD j 0 ∧ (rowF x span m).getD j 0 < span := by
  have hl : j < (rowF x span m).length := by rw [rowF_len]; exact hj
  rw [List.getD_eq_getElem?_getD, List.getElem?_eq_getElem hl]
  exact rowS_mem hs _ _ (List.getElem_mem hl)
theorem man_lt (xs : List Int) (t : Nat) : manF xs t < 7 := by
  unfold manF
  omega
theorem kin_len (xs : List Int) (t : Nat) : (kinF xs t).length = manF xs t := by
  unfold kinF
  split
  · rw [List.length_map, rowF_len]
  · exact rowF_len
theorem kin_mem (xs : List Int) (t : Nat) {j : Nat} (hj : j < manF xs t) : 0 ≤ (kinF xs t).getD j 0 ∧ (kinF xs t).getD j 0 < 13 := by
  have h := row_mem (xs.getD (t + 1) 0) (show (0 : Int) < 13 by decide) hj
  unfold kinF
  split
  · have hl : j < (rowF (xs.getD (t + 1) 0) 13 (manF xs t)).length := by rw [rowF_len]; exact hj
    rw [List.getD_eq_getElem?_getD, List.getElem?_map, List.getElem?_eq_getElem hl]
    show 0 ≤ _ % 9 ∧ _ % 9 < 13
    omega
  · exact h
theorem lis_ps (xs : List Int) (t : Nat) : (∀ p ∈ lisF xs t, PS p) ∧ (lisF xs t).length ≤ 7 := by
  have hm := man_lt xs t
  have hp : ∀ p ∈ preF xs t, PS p := fun p hp => by
    obtain ⟨k, hk, rfl⟩ := List.mem_map.mp hp
    have hk' := List.mem_range.mp hk
    have h1 := kin_mem xs t hk'
    have h2 := row_mem (xs.getD (t + 2) 0) (show (0 : Int) < 1000 by decide) hk'
    have h3 := row_mem (xs.getD (t + 3) 0) (show (0 : Int) < 11 by decide) hk'
    exact entF_ps h1.1 h1.2 h2.1 h3.1 h3.2
  have hl : (preF xs t).length = manF xs t := by unfold preF; rw [List.length_map, List.length_range]
  unfold lisF
  split
  · refine ⟨fun p h => ?_, by rw [List.length_append, hl]; show _ + 1 ≤ 7; omega⟩
    rcases List.mem_append.mp h with h | h
    · exact hp p h
    · rw [List.mem_singleton.mp h]
      refine ⟨by show (1 : Int) ≤ 1; decide, by show (1 : Int) ≠ 0; decide, ?_, by show Int.natAbs 1 < 512; decide⟩
      show Int.natAbs (_ % 2) < 512
      omega
  · exact ⟨hp, by omega⟩
def R_lis : List D → D → Prop := fun ds d => ∃ (xs : List Int) (t : Nat), ds = [.scr xs, iD (t : Int)] ∧ d = psD (lisF xs t)
theorem sc_list : FnScope ["_law_script", "_law_at", "_law_shape", "_law_many", "_law_kinds", "_law_tops", "_law_bottoms", "_law_pairs", "_law_kind", "_law_k"] ["_law_script", "_law_at"] (defScope s_list) := ⟨rfl, rfl, rfl, by decide +kernel, rfl, by decide +kernel, by decide +kernel⟩
theorem flat_iD (n : Int) : flat (iD n) = true := by simp [flat]
theorem ok_list {f fC fR fE : Addr} {fd fdC fdR fdE : FuncData} (F : Fun K "_law_list" "_law_list" s_list f fd)
    (FC : FnOk P w K mg base CX0 1 fC fdC ["_law_script", "_law_k"] (spD K 2 R_cell)) (mC : mg "_law_cell" = some (.ref fC)) (kC : PySem.W.keepIn K (.ref fC) = true) (bC : Binds K fdC ["_law_script", "_law_k"] [])
    (FR : FnOk P w K mg base CX0 1 fR fdR ["_law_cell_here", "_law_span", "_law_many"] (spD K 3 R_row)) (mRw : mg "_law_row" = some (.ref fR)) (kR : PySem.W.keepIn K (.ref fR) = true) (bR : Binds K fdR ["_law_cell_here", "_law_span", "_law_many"] [])
    (FE : FnOk P w K mg base CX0 1 fE fdE ["_law_kind", "_law_top", "_law_bottom"] (spD K 3 R_ent)) (mE : mg "_law_entry" = some (.ref fE)) (kE : PySem.W.keepIn K (.ref fE) = true) (bE : Binds K fdE ["_law_kind", "_law_top", "_law_bottom"] [])
    (mR : mg "range" = none) : FnOk P w K mg base CX0 2 f fd ["_law_script", "_law_at"] (spD K 2 R_lis) := by
  refine fn_D F sc_list (by decide) fun cdv A outer s0 H E ds d hr hl hR => ?_
  obtain ⟨xs, t, rfl, rfl⟩ := hR
  have hm := man_lt xs t
  have s0' := row_mem (xs.getD t 0) (show (0 : Int) < 5040 by decide) (show 0 < 2 by decide)
  have s1' := row_mem (xs.getD t 0) (show (0 : Int) < 5040 by decide) (show 1 < 2 by decide)
  obtain ⟨s1, hs1⟩ : ∃ s1, s1 = (shpF xs t).getD 1 0 := ⟨_, rfl⟩
  have at0 : atI ((shpF xs t).map iD) ((0 : Nat) : Int) = some (iD ((shpF xs t).getD 0 0)) := row_at _ _ (by decide)
  have at1 : atI ((shpF xs t).map iD) ((1 : Nat) : Int) = some (iD s1) := by rw [hs1]; exact row_at _ _ (by decide)
  have hman : (manF xs t : Int) = (shpF xs t).getD 0 0 % 7 := by unfold manF; omega
  have sh : ∀ k : Nat, iD ((t : Int) + (k : Int)) = iD ((t + k : Nat) : Int) := fun k => by rw [Int.natCast_add]
  refine z_asg 2 (d := .lst ((shpF xs t).map iD)) (ed_call FR hr mRw kR bR pass0 (ad_cons (ed_call FC hr mC kC bC pass0 (ad_cons (ed_var 0 rfl) (ad_cons (ed_var 1 rfl) ad_nil)) ⟨xs, t, rfl, rfl⟩) (ad_cons ed_int (ad_cons ed_int ad_nil))) ⟨_, _, 2, rfl, by decide, by decide, by decide, rfl⟩) sc_list.nd ?_
  refine z_asg 3 (d := iD (manF xs t : Int)) (ed_is (ed_op op_mod (ed_ix (ed_var 2 rfl) ed_int at0) ed_int (rd_I (by decide))) (by rw [hman])) sc_list.nd ?_
  refine z_asg 4 (d := .lst ((rowF (xs.getD (t + 1) 0) 13 (manF xs t)).map iD)) (ed_call FR hr mRw kR bR pass0 (ad_cons (ed_call FC hr mC kC bC pass0 (ad_cons (ed_var 0 rfl) (ad_cons (ed_is (ed_op op_add (ed_var 1 rfl) ed_int rd_I0) (sh 1)) ad_nil)) ⟨xs, t + 1, rfl, rfl⟩) (ad_cons ed_int (ad_cons (ed_var 3 rfl) ad_nil))) ⟨_, _, manF xs t, rfl, by decide, by decide, by omega, rfl⟩) sc_list.nd ?_
  refine z_asg 5 (d := .lst ((rowF (xs.getD (t + 2) 0) 1000 (manF xs t)).map iD)) (ed_call FR hr mRw kR bR pass0 (ad_cons (ed_call FC hr mC kC bC pass0 (ad_cons (ed_var 0 rfl) (ad_cons (ed_is (ed_op op_add (ed_var 1 rfl) ed_int rd_I0) (sh 2)) ad_nil)) ⟨xs, t + 2, rfl, rfl⟩) (ad_cons ed_int (ad_cons (ed_var 3 rfl) ad_nil))) ⟨_, _, manF xs t, rfl, by decide, by decide, by omega, rfl⟩) sc_list.nd ?_
  refine z_asg 6 (d := .lst ((rowF (xs.getD (t + 3) 0) 11 (manF xs t)).map iD)) (ed_call FR hr mRw kR bR pass0 (ad_cons (ed_call FC hr mC kC bC pass0 (ad_cons (ed_var 0 rfl) (ad_cons (ed_is (ed_op op_add (ed_var 1 rfl) ed_int rd_I0) (sh 3)) ad_nil)) ⟨xs, t + 3, rfl, rfl⟩) (ad_cons ed_int (ad_cons (ed_var 3 rfl) ad_nil))) ⟨_, _, manF xs t, rfl, by decide, by decide, by omega, rfl⟩) sc_list.nd ?_
  refine z_if (k := decide (V.int (s1 % 3) = V.int 0)) (fun Γ' => Γ' = [some (.scr xs), some (iD (t : Int)), some (.lst ((shpF xs t).map iD)), some (iD (manF xs t : Int)), some (.lst ((kinF xs t).map iD)), some (.lst ((rowF (xs.getD (t + 2) 0) 1000 (manF xs t)).map iD)), some (.lst ((rowF (xs.getD (t + 3) 0) 11 (manF xs t)).map iD)), none, none, none])
    (td_cmp op_eq (ed_op op_mod (ed_ix (ed_var 2 rfl) ed_int at1) ed_int (rd_I (by decide))) ed_int (rd_eq rfl)) (fun h => ?_) (fun h => ?_) ?_
  · have hk : kinF xs t = (rowF (xs.getD (t + 1) 0) 13 (manF xs t)).map (· % 9) := if_pos (by rw [← hs1]; exact V.int.inj (of_decide_eq_true h))
    have ll : ((rowF (xs.getD (t + 1) 0) 13 (manF xs t)).map iD).length = manF xs t := by rw [List.length_map, rowF_len]
    refine z_asg 4 (d := .lst ((kinF xs t).map iD)) (ed_is (fd_lcL 8 (f := fun j => iD ((rowF (xs.getD (t + 1) 0) 13 (manF xs t)).getD j 0 % 9)) rfl sc_list (ed_var 4 rfl) (by omega) (fun j dj hj => fun s0 H0 Ca cl fp => ?_) (fun j hj => flat_iD _)).ed ?_) sc_list.nd (ss_nil ⟨_, rfl, rfl⟩)
    · have hjm : j < manF xs t := by
        have := (List.getElem?_eq_some_iff.mp hj).1
        omega
      have e : dj = iD ((rowF (xs.getD (t + 1) 0) 13 (manF xs t)).getD j 0) := by
        have h1 := row_at (xs.getD (t + 1) 0) 13 hjm
        rw [at_nat hj] at h1
        exact Option.some.inj h1
      subst e
      exact ed_op op_mod (ed_var 8 rfl) ed_int (rd_I (by decide))
    · rw [map_getD2 (h := fun v => iD (v % 9)), hk, List.map_map]
      rfl
  · have hk : kinF xs t = rowF (xs.getD (t + 1) 0) 13 (manF xs t) := if_neg (by rw [← hs1]; exact fun z => of_decide_eq_false h (by rw [z]))
    exact ss_nil ⟨_, rfl, by rw [hk]; rfl⟩
  rintro Γ' rfl
  refine so_top (Φ := fun o => o = .rt (psD (lisF xs t))) ?_ (fun d z => by cases z; exact .inl rfl) (fun Γ Ω z => by cases z) (fun Γ Ω z => by cases z) (fun Γ Ω z => by cases z) (fun c fs Γ Ω z => by cases z)
  have atk : ∀ j, j < manF xs t → atI ((kinF xs t).map iD) (j : Int) = some (iD ((kinF xs t).getD j 0)) := fun j hj => by
    have hl : j < (kinF xs t).length := by rw [kin_len]; exact hj
    refine at_nat ?_
    rw [List.getElem?_map, List.getD_eq_getElem?_getD, List.getElem?_eq_getElem hl]
    rfl
  refine so_newS 7 (ds := (preF xs t).map pD) (fs_is (fs_lcR 9 7 (n := manF xs t) (f := fun k => pD (entF ((kinF xs t).getD k 0) ((rowF (xs.getD (t + 2) 0) 1000 (manF xs t)).getD k 0) ((rowF (xs.getD (t + 3) 0) 11 (manF xs t)).getD k 0))) rfl sc_list mR (ed_var 3 rfl) (by omega) (fun j hj => fun s0 H0 Ca cl fp => ?_) (fun j hj => flat_pD _)) (by unfold preF; rw [List.map_map]; rfl)) (flatL_pD _) (fun j es z => by cases z) ?_ (hi0 := by show 7 < 10; decide)
  · have h1 := kin_mem xs t hj
    have h2 := row_mem (xs.getD (t + 2) 0) (show (0 : Int) < 1000 by decide) hj
    have h3 := row_mem (xs.getD (t + 3) 0) (show (0 : Int) < 11 by decide) hj
    exact ed_call FE hr mE kE bE pass0 (ad_cons (ed_ix (ed_var 4 rfl) (ed_var 9 rfl) (atk j hj)) (ad_cons (ed_ix (ed_var 5 rfl) (ed_var 9 rfl) (row_at _ _ hj)) (ad_cons (ed_ix (ed_var 6 rfl) (ed_var 9 rfl) (row_at _ _ hj)) ad_nil))) ⟨_, _, _, rfl, h1.1, h1.2, h2.1, h2.2, h3.1, h3.2, rfl⟩
  refine so_if (k := decide (0 < s1 / 3 % 3)) (fun Γ2 Ω2 => Γ2 = [some (.scr xs), some (iD (t : Int)), some (.lst ((shpF xs t).map iD)), some (iD (manF xs t : Int)), some (.lst ((kinF xs t).map iD)), some (.lst ((rowF (xs.getD (t + 2) 0) 1000 (manF xs t)).map iD)), some (.lst ((rowF (xs.getD (t + 3) 0) 11 (manF xs t)).map iD)), none, none, none] ∧ Ω2 = [(7, (lisF xs t).map pD)])
    (td_cmp op_gt (ed_op op_mod (ed_op op_fdiv (ed_ix (ed_var 2 rfl) ed_int at1) ed_int (rd_I ⟨by decide, by decide⟩)) ed_int (rd_I (by decide))) ed_int rd_I0) (fun h => ?_) (fun h => ?_) ?_
  · have e : lisF xs t = preF xs t ++ [(s1 / 9 % 2, 1)] := by
      unfold lisF
      rw [← hs1, if_pos (of_decide_eq_true h)]
    rw [e]
    exact so_app 0 7 (d := pD (s1 / 9 % 2, 1)) rfl (ed_tup (ad_cons (ed_op op_mod (ed_op op_fdiv (ed_ix (ed_var 2 rfl) ed_int at1) ed_int (rd_I ⟨by decide, by decide⟩)) ed_int (rd_I (by decide))) (ad_cons ed_int ad_nil))) (flat_pD _) (by
      have : (preF xs t).length = manF xs t := by unfold preF; rw [List.length_map, List.length_range]
      rw [List.length_map]
      omega) (so_nil ⟨_, _, rfl, rfl, by rw [List.map_append]; rfl⟩)
  · have e : lisF xs t = preF xs t := by
      unfold lisF
      rw [← hs1, if_neg (of_decide_eq_false h)]
    rw [e]
    exact so_nil ⟨_, _, rfl, rfl, rfl⟩
  rintro Γ2 Ω2 ⟨rfl, rfl⟩
  exact so_ret (ed_var 7 rfl) rfl
/-! ### _law_kept -/
theorem last_e {ps : List (Int × Int)} {n : Nat} (hps : ∀ p ∈ ps, PS p) (hn : ps.length = n + 1) (hlast : co (ps.map qv) n = 0 ∨ co (ps.map qv) n = 1) : eOf (ps.map qv) = if (gp ps n).1 ≠ 0 then 1 else 0 := by
  have h1 := ps_gp hps n
  unfold eOf
  rw [List.length_map, hn, show n + 1 - 1 = n by omega]
  rcases hlast with h | h
  · rw [h]
    rw [co_qv] at h
    rw [if_neg (fun z => z ((z_qv h1).mp h))]
    rfl
  · rw [h]
    rw [co_qv] at h
    have : (gp ps n).1 ≠ 0 := fun z => by
      rw [(z_qv h1).mpr z] at h
      exact absurd h (by decide)
    rw [if_pos this]
    rfl
def R_kept (LA C : Addr) : List D → D → Prop := fun ds d => ∃ ps : List (Int × Int), ds = [lnD LA C (ps.map qv), psD ps] ∧ (∀ p ∈ ps, PS p) ∧ Good (ps.map qv) ∧ ps.length ≤ 100 ∧ d = bD true
theorem sc_kept : FnScope ["_law_line", "_law_pairs", "_law_told", "_law_nodes", "_law_k"] ["_law_line", "_law_pairs"] (defScope s_kept) := ⟨rfl, rfl, rfl, by decide +kernel, rfl, by decide +kernel, by decide +kernel⟩
theorem nl_ln {m : Str} {H : Hp} {gs : List (Str × V)} {LA : Addr} {cs : List Rat} (hm : (m == ("_shares" : Str)) = false) (h2 : (m == ("end" : Str)) = false) (h3 : (m == ("rooms" : Str)) = false) (h4 : (m == ("passages" : Str)) = false) (h : DenF K H [("_shares", .lst (cs.map (fr C))), ("end", iD (eOf cs)), ("rooms", iD (((cs.length : Int) - 1 + eOf cs) / 2 + 1)), ("passages", iD (((cs.length : Int) - 1 + eOf cs + 1) / 2))] gs) : gs.lookup m = none := by
  simp only [DenF] at h
  obtain ⟨z, zs, rfl, h1, z2, zs2, rfl, _, z3, zs3, rfl, _, z4, zs4, rfl, _, rfl⟩ := h
  simp [List.lookup, hm, h2, h3, h4]
theorem ok_kept {f LA fSh fLn fG fV fI : Addr} {fd fdSh fdLn fdG fdV fdI : FuncData} (F : Fun K "_law_kept" "_law_kept" s_kept f fd) (T : FrTxt K mg C) (L : LnTxt K mg LA)
    (MSh : Meth K LA "shares" fSh) (FSh : FnOk P w K mg base CX0 1 fSh fdSh ["self"] (spD K 1 (R_lsh LA C))) (FShF : FnOk P w K mg base CX0 1 fSh fdSh ["self"] (spF K 1 (R_lshF LA C))) (bSh : Binds K fdSh ["self"] [])
    (MLn : CmpM K LA "__len__" fLn) (FLn : FnOk P w K mg base CX0 1 fLn fdLn ["self"] (spD K 1 (R_llen LA C))) (bLn : Binds K fdLn ["self"] [])
    (MG : CmpM K LA "__getitem__" fG) (hfn : PySem.W.fnIn K fG = true) (FG : FnOk P w K mg base CX0 1 fG fdG ["self", "at"] (spD K 2 (R_lget LA C))) (bG : Binds K fdG ["self", "at"] [])
    (FV : FnOk P w K mg base CX0 1 fV fdV ["_law_values_here", "_law_pairs"] (spD K 2 (R_vals C))) (mV : mg "_law_values" = some (.ref fV)) (kV : PySem.W.keepIn K (.ref fV) = true) (bV : Binds K fdV ["_law_values_here", "_law_pairs"] [])
    (M : Mk K C fI) (FI : FnOk P w K mg base CX0 1 fI fdI ["self", "top", "bottom"] (spInit C)) (bI : Binds K fdI ["self", "top", "bottom"] [])
    (mL : mg "len" = none) (mR : mg "range" = none) (mB : mg "bool" = none) : FnOk P w K mg base CX0 3 f fd ["_law_line", "_law_pairs"] (spD K 2 (R_kept LA C)) := by
  refine fn_D F sc_kept (by decide) fun cdv A outer s0 H E ds d hr hl hR => ?_
  obtain ⟨ps, rfl, hps, hgood, l100, rfl⟩ := hR
  have r1 : Room 1 _ := hr.mono (by decide)
  have r2 : Room 2 _ := hr
  obtain ⟨n, hn, hin, hlast⟩ := hgood
  have q1 : (ps.map qv).length = ps.length := List.length_map _
  have t1 : ((ps.map qv).map (fr C)).length = ps.length := by rw [List.length_map, List.length_map]
  have p1 : (ps.map pD).length = ps.length := List.length_map _
  rw [q1] at hn
  have he := last_e hps hn hlast
  obtain ⟨e, hee⟩ : ∃ e, e = eOf (ps.map qv) := ⟨_, rfl⟩
  have two : (2 : Int).natAbs < 2 ^ 8900 := Nat.lt_of_lt_of_le (show (2 : Int).natAbs < 2 ^ 2 by decide) (Nat.pow_le_pow_right (by decide) (by decide))
  have thr : (3 : Int).natAbs < 2 ^ 8900 := Nat.lt_of_lt_of_le (show (3 : Int).natAbs < 2 ^ 2 by decide) (Nat.pow_le_pow_right (by decide) (by decide))
  refine so_top (Φ := fun o => o = .rt (bD true)) ?_ (fun d z => by cases z; exact .inl rfl) (fun Γ Ω z => by cases z) (fun Γ Ω z => by cases z) (fun Γ Ω z => by cases z) (fun c fs Γ Ω z => by cases z)
  refine so_new 2 (ds := (ps.map qv).map (fr C)) (fd_meth0 (ed_var 0 rfl) (nl_ln (LA := LA) (by decide) (by decide) (by decide) (by decide)) L.cl MSh FShF r1 bSh pass0 ⟨_, rfl, rfl⟩) (flatL_fr _) (fun j es z => by cases z) sc_kept.nd ?_
  refine so_app 0 2 rfl (ed_mk M FI r2 T.mgC bI pass0 (ad_cons ed_int (ad_cons ed_int ad_nil)) (by decide) two) (flat_fr _) (by omega) ?_
  refine so_set 0 2 (j := 0) rfl ed_int (ed_mk M FI r2 T.mgC bI pass0 (ad_cons ed_int (ad_cons ed_int ad_nil)) (by decide) thr) (flat_fr _) (by
    unfold ixN
    rw [if_pos (by omega), if_pos (by rw [List.length_append, t1, List.length_singleton]; omega)]
    rfl) ?_
  refine so_end (Φ0 := fun o => o = .rt (bD true)) ?_ (fun d z => by cases z; rfl) (fun _ z => by cases z) (fun _ z => by cases z) (fun _ z => by cases z) (fun _ _ _ z => by cases z)
  have gt0 : ∀ j, j < ps.length → R_lget LA C [lnD LA C (ps.map qv), iD (j : Int)] (fr C (co (ps.map qv) j)) := fun j hj => ⟨_, j, rfl, by rw [q1]; exact hj, rfl⟩
  refine z_ifF (WD.td (wd_orF (td_not (k := true) (td_val (ed_call FV r1 mV kV bV pass0 (ad_cons (ed_meth0 (ed_var 0 rfl) (nl_ln (LA := LA) (by decide) (by decide) (by decide) (by decide)) L.cl MSh FSh r1 bSh pass0 ⟨_, rfl, rfl⟩) (ad_cons (ed_var 1 rfl) ad_nil)) ⟨ps, rfl, hps, l100, rfl⟩)))
    (wd_or1 (td_cmp op_ne (ed_is (ed_lenO MLn FLn r2 bLn pass0 mL (ed_var 0 rfl) ⟨_, rfl, rfl⟩ (by omega) (by omega)) (by rw [q1])) (ed_is (ed_len mL (ed_var 1 rfl)) (by rw [p1])) (rd_neT rfl (by rw [decide_eq_true rfl]; rfl)))))) ?_
  refine z_ifF (td_not (k := true) (td_val (ed_call FV r1 mV kV bV pass0 (ad_cons (ed_is (fd_lcR 4 (n := ps.length) (f := fun j => fr C (co (ps.map qv) j)) rfl sc_kept mR (ed_is (ed_len mL (ed_var 1 rfl)) (by rw [p1])) (by omega) (fun j hj => fun s0 H0 Ca cl fp => ?_) (fun j hj => flat_fr _)).ed (show _ = D.lst ((ps.map qv).map (fr C)) by
      congr 1
      apply List.ext_getElem (by simp)
      intro j h1 h2
      simp at h1
      simp [List.getD_eq_getElem?_getD, h1])) (ad_cons (ed_var 1 rfl) ad_nil)) ⟨ps, rfl, hps, l100, rfl⟩))) ?_
  · exact ed_subO MG hfn FG r2 bG pass0 (ed_var 0 rfl) (ed_var 4 rfl) (gt0 j hj) (by intro _ _; with_unfolding_all rfl) (by exact fun _ _ => rfl)
  have lastAt : atI (ps.map pD) ((ps.length : Int) - 1) = some (pD (gp ps n)) := by
    rw [show (ps.length : Int) - 1 = (n : Int) by omega]
    exact at_gp (by omega)
  have hbit : (if (!decide (V.int (gp ps n).1 = V.int 0)) = true then (1 : Int) else 0) = e := by
    rw [hee, he, dec_int]
    by_cases h : (gp ps n).1 = 0
    · rw [decide_eq_true h, if_neg (by decide), if_neg (fun z => z h)]
    · rw [decide_eq_false h, if_pos (by decide), if_pos h]
  have eF : eOf (ps.map qv) = e := hee.symm
  refine z_asg 3 (d := iD ((ps.length : Int) + e)) (ed_op op_add (ed_is (ed_len mL (ed_var 1 rfl)) (by rw [p1])) (ed_is (ed_toIntB T.tInt (ed_cmp op_ne (ed_ixT (ed_ix (ed_var 1 rfl) (ed_op op_sub (ed_is (ed_len mL (ed_var 1 rfl)) (by rw [p1])) ed_int rd_I0) lastAt) ed_int rfl) ed_int (rd_ne rfl))) (by rw [hbit])) rd_I0) sc_kept.nd ?_
  refine z_ifF (WD.td (wd_orF (td_not (k := true) (td_val (ed_isi T.isi (ed_fld (ed_var 0 rfl) L.cl L.nE rfl) (ed_bltn (v := .ty "int") T.tInt (by decide +kernel) rfl) (.ty "int") (.int _) kit_bi))) (wd_or1 (td_val (ed_isi T.isi (ed_fld (ed_var 0 rfl) L.cl L.nE rfl) (ed_bltn (v := .ty "bool") mB (by decide +kernel) rfl) (.ty "bool") (.int _) (by unfold PySem.W.kitOne; rw [if_neg (by decide)]; kernel_rfl)))))) ?_
  refine z_ifF (WD.td (wd_orF (td_cmp op_ne (ed_fld (ed_var 0 rfl) L.cl L.nR rfl) (ed_op op_fdiv (ed_op op_add (ed_var 3 rfl) ed_int rd_I0) ed_int (rd_I ⟨by decide, by decide⟩)) (rd_neT rfl ?_)) (wd_or1 (td_cmp op_ne (ed_fld (ed_var 0 rfl) L.cl L.nP rfl) (ed_op op_fdiv (ed_var 3 rfl) ed_int (rd_I ⟨by decide, by decide⟩)) (rd_neT rfl ?_))))) ?_
  · rw [eF, q1, dec_int, decide_eq_true (by omega)]
    rfl
  · rw [eF, q1, dec_int, decide_eq_true (by omega)]
    rfl
  exact z_ret (d := bD true) (ed_cmp op_eq (ed_is (ed_fld (ed_var 0 rfl) L.cl L.nE rfl) (by rw [eF])) (ed_is (ed_toIntB T.tInt (ed_cmp op_ne (ed_ixT (ed_ix (ed_var 1 rfl) (ed_op op_sub (ed_is (ed_len mL (ed_var 1 rfl)) (by rw [p1])) ed_int rd_I0) lastAt) ed_int rfl) ed_int (rd_ne rfl))) (by rw [hbit])) (rd_eqT rfl (decide_eq_true rfl))) rfl
end
end Law

set_option exponentiation.threshold 10000
namespace Law
open PySem L2 Evl Trk
section
variable {P : Program} {w : World} {K : PySem.W.Frag} {mg : Str → Option Value} {base : Heap} {C : Addr}
theorem td_neH {X : Cx} {Γ : Gm} {a b : Expr} {pos : Pos} {C f : Addr} {fd : FuncData} {ps : List Str} {w : Bool} {p : Int × Int} (M : CmpM X.K C "__ne__" f) (F : FnOk X.prog X.w X.K X.mg X.base CX0 6 f fd ps (spD X.K 2 (R_cmp C fun p q => !decide (p = q)))) (hr : Room 6 X.A) (hb : Binds X.K fd ps [])
    (ha : ED X a Γ (handD C w p)) (hB : ED X b Γ (handD C w p)) (hp : PB 4000 p) (hm : behindInMarks .NotEq b = false := by exact nomark _) : TD X (.Compare a [.NotEq] [b] pos) Γ false := by
  unfold handD at ha hB
  by_cases h : (w && decide (p.2 = 1)) = true
  · rw [if_pos h] at ha hB
    exact td_cmp op_ne ha hB (rd_neT rfl (by rw [decide_eq_true rfl]; rfl)) hm
  · rw [if_neg h] at ha hB
    exact td_cmp (cmp_own (fun _ _ => rfl) M F hr hb pass0) ha hB (rd_own ⟨qv p, _, qv p, rfl, .inl rfl, hp.sz (by decide), hp.sz (by decide), by show _ = bD (!decide (qv p = qv p)); rw [decide_eq_true rfl]; rfl⟩) hm
/-! ### _law_made -/
def R_mad : List D → D → Prop := fun ds d => ∃ ps : List (Int × Int), ds = [psD ps] ∧ (∀ p ∈ ps, PS p) ∧ ps.length ≤ 20 ∧ d = bD true
theorem sc_made : FnScope ["_law_pairs", "_law_given", "_law_kept_here", "_law_place_here", "_law_line", "e", "_law_k", "_law_pair"] ["_law_pairs"] (defScope s_made) := ⟨rfl, rfl, rfl, by decide +kernel, rfl, by decide +kernel, by decide +kernel⟩
theorem at_hand {ps : List (Int × Int)} {j : Nat} (hj : j < ps.length) : atI (ps.map (handD C true)) (j : Int) = some (handD C true (gp ps j)) := by
  refine at_nat ?_
  rw [List.getElem?_map, gp_lt hj, List.getElem?_eq_getElem hj]
  rfl
/-- the parts of _law_made and _law_cut that are alike: handing the pairs over -/
theorem ok_made {f LA CB TE fH fP fL fK fN fI : Addr} {fd fdH fdP fdL fdK fdN fdI : FuncData} {g : List Value → List Value → List Value} {gV : List V → List V → List V} (F : Fun K "_law_made" "_law_made" s_made f fd) (T : FrTxt K mg C) (L : LnTxt K mg LA) (B : BLT P w K mg base CB TE)
    (FH : FnOk P w K mg base CX0 3 fH fdH ["_law_pair"] (spD K 1 (R_handed C))) (mH : mg "_law_handed" = some (.ref fH)) (kH : PySem.W.keepIn K (.ref fH) = true) (bH : Binds K fdH ["_law_pair"] [])
    (FP : FnOk P w K mg base CX0 2 fP fdP ["_law_pairs"] (spD K 1 R_place)) (mP : mg "_law_place" = some (.ref fP)) (kP : PySem.W.keepIn K (.ref fP) = true) (bP : Binds K fdP ["_law_pairs"] [])
    (ML : Mk K LA fL) (FL : FnOk P w K mg base (L2.CX P w) 8 fL fdL ["self", "shares"] (spLine K LA C CB)) (bL : KBn K fdL ["self", "shares"] 1 ["shares"] g gV) (hgV : ∀ x y, gV [x] [y] = [x, y])
    (FK : FnOk P w K mg base CX0 3 fK fdK ["_law_line", "_law_pairs"] (spD K 2 (R_kept LA C))) (mK : mg "_law_kept" = some (.ref fK)) (kK : PySem.W.keepIn K (.ref fK) = true) (bK : Binds K fdK ["_law_line", "_law_pairs"] [])
    (MN : CmpM K C "__ne__" fN) (FN : FnOk P w K mg base CX0 6 fN fdN ["self", "other"] (spD K 2 (R_cmp C fun p q => !decide (p = q)))) (bN : Binds K fdN ["self", "other"] [])
    (M : Mk K C fI) (FI : FnOk P w K mg base CX0 1 fI fdI ["self", "top", "bottom"] (spInit C)) (bI : Binds K fdI ["self", "top", "bottom"] [])
    (pl : PySem.W.findIn K (.ref CB) "place" = some none) (mTE : mg "TracerError" = some (.ref TE)) (icT : PySem.W.isClsIn K TE = true) (tyT : PySem.W.typeIn K (.ref TE) = some (.type "type")) (hne : CB ≠ TE)
    (mL : mg "len" = none) (mR : mg "range" = none) (mLi : mg "list" = none) : FnOk P w K mg base CX0 10 f fd ["_law_pairs"] (spD K 1 R_mad) := by
  refine fn_D F sc_made (by decide) fun cdv A outer s0 H E ds d hr hl hR => ?_
  obtain ⟨ps, rfl, hps, l20, rfl⟩ := hR
  have r2 : Room 2 _ := hr.mono (by decide)
  have r3 : Room 3 _ := hr.mono (by decide)
  have r6 : Room 6 _ := hr.mono (by decide)
  have r9 : Room 9 _ := hr
  have p1 : (ps.map pD).length = ps.length := List.length_map _
  have q1 : (ps.map qv).length = ps.length := List.length_map _
  have g1 : (ps.map (handD C true)).length = ps.length := List.length_map _
  have hb : ∀ p ∈ ps, PB 9 p := fun p hp => (hps p hp).2
  have hb4 : ∀ p ∈ ps, PB 4000 p := fun p hp => (hb p hp).up (by decide)
  have hz := pbs_fr hb (by decide)
  have hself : PySem.W.subIn K (.ref CB) (.ref CB) = some true := by
    rw [B.t.sub]
    simp
  rcases good_bad (ps.map qv) with hg | ⟨k, hbad⟩
  · obtain ⟨n, hn, _, _⟩ := id hg
    rw [q1] at hn
    refine so_top (Φ := fun o => o = .rt (bD true)) ?_ (fun d z => by cases z; exact .inl rfl) (fun Γ Ω z => by cases z) (fun Γ Ω z => by cases z) (fun Γ Ω z => by cases z) (fun c fs Γ Ω z => by cases z)
    refine so_newS 1 (ds := ps.map (handD C true)) (fs_is (fs_lcL 7 1 (f := fun j => handD C true (ps.getD j (0, 1))) rfl sc_made (ed_var 0 rfl) (by omega) (fun j dj hj => fun s0 H0 Ca cl fp => ?_) (fun j hj => flat_hand)) (by rw [map_getD2 (h := handD C true)])) (flatL_hand ps) (fun j es z => by cases z) ?_ (hi0 := by show 1 < 8; decide)
    · obtain ⟨hj1, rfl, e1⟩ := get_pD hj
      rw [e1]
      exact ed_call FH r3 mH kH bH pass0 (ad_cons (ed_var 7 rfl) ad_nil) ⟨ps[j], rfl, hb4 _ (List.getElem_mem hj1), rfl⟩
    refine so_new 2 (ds := ps.map (handD C true)) (fd_list mLi (ed_var 1 rfl)) (flatL_hand ps) (fun j es hj => by simp at hj; omega) sc_made.nd ?_
    refine so_asg 3 (d := iD (-1)) (ed_call FP r2 mP kP bP pass0 (ad_cons (ed_var 0 rfl) ad_nil) ⟨ps, rfl, hps, by omega, .inl ⟨hg, rfl⟩⟩) (flat_iD _) (fun j es hj => by simp at hj; omega) sc_made.nd ?_
    refine so_tryN 5 rfl rfl sc_made.nd (names_own B.t.mg) (Ψ := fun o => o = .nx [some (psD ps), none, none, some (iD (-1)), some (lnD LA C (ps.map qv)), none, none, none] [(2, ps.map (handD C true)), (1, ps.map (handD C true))]) (fun pn xe _ => so_asgN (X := Cx.tr _ pn xe) 4 (nd_mkLK (X := Cx.tr _ pn xe) ML FL r9 L.mgL bL hgV (ed_var 1 rfl) (nums_hand ps) hz (by omega) hg) (fun j es hj => by simp at hj; omega) sc_made.nd (so_nil rfl)) (fun Γ' Ω' z => ?_) (fun o h z => absurd z (h _ _))
    cases z
    refine so_ifF (td_cmp op_ne (ed_is (ed_len mL (ed_var 1 rfl)) (by rw [g1])) (ed_is (ed_len mL (ed_var 2 rfl)) (by rw [g1])) (rd_neT rfl (by rw [decide_eq_true rfl]; rfl))) ?_
    refine so_forR 6 (n := ps.length) (fun _ Γ' Ω' => ∃ o, Γ' = [some (psD ps), none, none, some (iD (-1)), some (lnD LA C (ps.map qv)), none, o, none] ∧ Ω' = [(2, ps.map (handD C true)), (1, ps.map (handD C true))]) rfl mR (ed_is (ed_len mL (ed_var 2 rfl)) (by rw [g1])) sc_made.nd (by omega) ⟨_, rfl, rfl⟩ (fun k Γ' Ω' ⟨_, _, h⟩ j es hj => by
      subst h
      simp at hj
      omega) ?_ ?_
    · rintro j Γ' Ω' hj ⟨o, rfl, rfl⟩
      exact so_ifF (td_neH MN FN r6 bN (ed_ix (ed_var 1 rfl) (ed_var 6 rfl) (at_hand hj)) (ed_ix (ed_var 2 rfl) (ed_var 6 rfl) (at_hand hj)) (pb_gp (by decide) hb4 j)) (so_nil (.inl ⟨_, _, .inl rfl, _, rfl, rfl⟩))
    · rintro Γ' Ω' ⟨o, rfl, rfl⟩
      refine so_app 1 1 rfl ed_int (flat_iD _) (by rw [g1]; omega) ?_
      refine so_set 1 1 (j := 0) rfl ed_int (ed_mk M FI r2 T.mgC bI pass0 (ad_cons ed_int (ad_cons ed_int ad_nil)) (by decide) (Nat.lt_of_lt_of_le (show (7 : Int).natAbs < 2 ^ 3 by decide) (Nat.pow_le_pow_right (by decide) (by decide)))) (flat_fr _) (by
        unfold ixN
        rw [if_pos (by omega), if_pos (by rw [List.length_append, g1, List.length_singleton]; omega)]
        rfl) ?_
      refine so_end (Φ0 := fun o => o = .rt (bD true)) ?_ (fun d z => by cases z; rfl) (fun _ z => by cases z) (fun _ z => by cases z) (fun _ z => by cases z) (fun _ _ _ z => by cases z)
      exact z_ret (d := bD true) (ed_andT (ed_cmp op_lt (ed_var 3 rfl) ed_int (rd_B (decide_eq_true (by decide)))) (ed_one (ed_call FK r3 mK kK bK pass0 (ad_cons (ed_var 4 rfl) (ad_cons (ed_var 0 rfl) ad_nil)) ⟨ps, rfl, hps, hg, by omega, rfl⟩))) rfl
  · refine z_asgFS 1 (fs_is (fs_lcL 7 1 (f := fun j => handD C true (ps.getD j (0, 1))) rfl sc_made (ed_var 0 rfl) (by omega) (fun j dj hj => fun s0 H0 Ca cl fp => ?_) (fun j hj => flat_hand)) (show _ = ps.map (handD C true) by rw [map_getD2 (h := handD C true)])) ?_
    · obtain ⟨hj1, rfl, e1⟩ := get_pD hj
      rw [e1]
      exact ed_call FH r3 mH kH bH pass0 (ad_cons (ed_var 7 rfl) ad_nil) ⟨ps[j], rfl, hb4 _ (List.getElem_mem hj1), rfl⟩
    refine z_asg 2 (d := .lst (ps.map (handD C true))) (fd_list mLi (ed_var 1 rfl)).ed sc_made.nd ?_
    refine z_asg 3 (d := iD (k : Int)) (ed_call FP r2 mP kP bP pass0 (ad_cons (ed_var 0 rfl) ad_nil) ⟨ps, rfl, hps, by omega, .inr ⟨k, hbad, rfl⟩⟩) sc_made.nd ?_
    refine ss_out (sd_tryAsC 5 rfl rfl sc_made.nd (names_own B.t.mg) (Ψ := fun o => ∃ Γ, o = .ex (.ref CB) [(("place" : Str), iD (k : Int))] Γ ∧ Γ = [some (psD ps), some (.lst (ps.map (handD C true))), some (.lst (ps.map (handD C true))), some (iD (k : Int)), none, none, none, none]) (fun pn xe _ => ss_out (sd_asgX 4 (xd_mkLK (X := Cx.tr _ pn xe) ML FL r9 L.mgL bL hgV (ed_var 1 rfl) (nums_hand ps) hz (by omega) hbad) sc_made.nd ⟨_, rfl, rfl⟩) (fun Γ' ⟨_, z, _⟩ => by cases z)) (fun o h ⟨_, z, _⟩ => absurd z (h _ _ _)) (fun c fs Γ' ⟨Γ, z, e⟩ => by
      cases z
      subst e
      refine ⟨true, PySem.W.exm_ref B.t.be (ec_hd B.t.ec) (ec_ty B.t.ec) hself, fun _ a0 oe d pn hz2 hf => ?_, fun z => by cases z⟩
      obtain ⟨vs, hvs⟩ := hf
      have hS : ∀ {X : Cx}, SeenX (Cx.suite X a0 ((a0, oe) :: pn)) CB (.ced a0 d [(("place" : Str), iD (k : Int))]) [(("place" : Str), iD (k : Int))] := fun {X} => .inr ⟨a0, oe, d, vs, rfl, List.mem_cons_self, hz2, hvs⟩
      exact z_ret (X := Cx.suite _ a0 ((a0, oe) :: pn)) (d := bD true) (ed_andT (ed_cmp op_ge (ed_var 3 rfl) ed_int (rd_B (decide_eq_true (by omega)))) (ed_andT (ed_cmp op_eq (ed_xf (X := Cx.suite _ a0 ((a0, oe) :: pn)) B.t (ed_var 5 rfl) hS pl rfl) (ed_var 3 rfl) (rd_eqT rfl (decide_eq_true rfl))) (ed_one (ed_isX (X := Cx.suite _ a0 ((a0, oe) :: pn)) B.t T.isi (ed_var 5 rfl) hS (ed_glob (v := .ref TE) mTE rfl) (.own TE) (B.t.kitT icT tyT hne))))) (.inl rfl))) (fun Γ' z => ?_)
    rcases z with z | ⟨hd, _⟩
    · cases z
    · cases hd
end
end Law

set_option exponentiation.threshold 10000
namespace Law
open PySem L2 Evl Trk
section
variable {P : Program} {w : World} {K : PySem.W.Frag} {mg : Str → Option Value} {base : Heap} {C : Addr}
theorem z_ifL {X : Cx} {Γ : Gm} {c : Expr} {sa sb : List Stmt} {pos : Pos} {Φ : Out → Prop} {k : Bool} (hc : TD X c Γ k) (ha : k = true → SsD X sa Γ Φ) (hb : k = false → SsD X sb Γ Φ) : SsD X [.If c sa sb pos] Γ Φ :=
  ss_seq (Ψ := Φ) (sd_if hc ha hb) (fun Γ' z => ss_nil z) fun o _ z => z
theorem z_ifTE {X : Cx} {Γ : Gm} {c : Expr} {sa sb : List Stmt} {pos : Pos} {Φ : Out → Prop} (hc : TD X c Γ true) (ha : SsD X sa Γ Φ) : SsD X [.If c sa sb pos] Γ Φ := z_ifL hc (fun _ => ha) fun z => by cases z
theorem z_ifEE {X : Cx} {Γ : Gm} {c : Expr} {sa sb : List Stmt} {pos : Pos} {Φ : Out → Prop} (hc : TD X c Γ false) (hb : SsD X sb Γ Φ) : SsD X [.If c sa sb pos] Γ Φ := z_ifL hc (fun z => by cases z) fun _ => hb
/-! ### _law_cut -/
theorem sc_cut : FnScope ["_law_pairs", "_law_expected", "_law_place_here", "_law_k", "_law_given", "_law_line", "e", "_law_pair"] ["_law_pairs"] (defScope s_cut) := ⟨rfl, rfl, rfl, by decide +kernel, rfl, by decide +kernel, by decide +kernel⟩
/-- what the loop has found behind j turns -/
def cutS (ps : List (Int × Int)) (j : Nat) (e : Int) (pl : Nat) : Prop :=
  (∃ m, CutG (ps.map qv) m ∧ pl = ps.length ∧ ((j ≤ m ∧ e = -1) ∨ (m < j ∧ e = (m : Int)))) ∨ (∃ k, CutB (ps.map qv) k ∧ e = -1 ∧ ((j ≤ k ∧ pl = ps.length) ∨ (k < j ∧ pl = k)))
theorem hand_n1 {n : Nat} {p : Int × Int} (h : PB n p) (hn : n ≤ 4000) : Num1 C (handD C true p) := by
  rcases hand_num (C := C) (b := true) (p := p) with h1 | ⟨i, h1, _⟩
  · exact .inr ⟨qv p, h1, h.sz hn⟩
  · exact .inl ⟨i, h1⟩
theorem ok_cut {f LA CB TE fH fE fL fK fQ fI pc : Addr} {fd fdH fdE fdL fdK fdQ fdI : FuncData} {g : List Value → List Value → List Value} {gV : List V → List V → List V} (F : Fun K "_law_cut" "_law_cut" s_cut f fd) (T : FrTxt K mg C) (L : LnTxt K mg LA) (B : BLT P w K mg base CB TE)
    (FH : FnOk P w K mg base CX0 3 fH fdH ["_law_pair"] (spD K 1 (R_handed C))) (mH : mg "_law_handed" = some (.ref fH)) (kH : PySem.W.keepIn K (.ref fH) = true) (bH : Binds K fdH ["_law_pair"] [])
    (FE : FnOk P w K mg base CX0 1 fE fdE ["_law_pair"] (spD K 1 R_aten)) (mE : mg "_law_at_end" = some (.ref fE)) (kE : PySem.W.keepIn K (.ref fE) = true) (bE : Binds K fdE ["_law_pair"] [])
    (S : CMetK K LA "cut" pc fL) (FL : FnOk P w K mg base (L2.CX P w) 10 fL fdL ["cls", "shares"] (spCut K LA C CB)) (bL : KBn K fdL ["cls", "shares"] 1 ["shares"] g gV) (hgV : ∀ x y, gV [x] [y] = [x, y])
    (FK : FnOk P w K mg base CX0 3 fK fdK ["_law_line", "_law_pairs"] (spD K 2 (R_kept LA C))) (mK : mg "_law_kept" = some (.ref fK)) (kK : PySem.W.keepIn K (.ref fK) = true) (bK : Binds K fdK ["_law_line", "_law_pairs"] [])
    (MQ : CmpM K C "__eq__" fQ) (FQ : FnOk P w K mg base CX0 5 fQ fdQ ["self", "other"] (spD K 2 (R_cmp C fun p q => decide (p = q)))) (bQ : Binds K fdQ ["self", "other"] [])
    (M : Mk K C fI) (FI : FnOk P w K mg base CX0 1 fI fdI ["self", "top", "bottom"] (spInit C)) (bI : Binds K fdI ["self", "top", "bottom"] [])
    (pl : PySem.W.findIn K (.ref CB) "place" = some none)
    (mL : mg "len" = none) (mR : mg "range" = none) : FnOk P w K mg base CX0 11 f fd ["_law_pairs"] (spD K 1 R_mad) := by
  refine fn_D F sc_cut (by decide) fun cdv A outer s0 H E ds d hr hl hR => ?_
  obtain ⟨ps, rfl, hps, l20, rfl⟩ := hR
  have r1 : Room 1 _ := hr.mono (by decide)
  have r2 : Room 2 _ := hr.mono (by decide)
  have r3 : Room 3 _ := hr.mono (by decide)
  have r6 : Room 6 _ := hr.mono (by decide)
  have r10 : Room 10 _ := hr
  have p1 : (ps.map pD).length = ps.length := List.length_map _
  have q1 : (ps.map qv).length = ps.length := List.length_map _
  have g1 : (ps.map (handD C true)).length = ps.length := List.length_map _
  have hb : ∀ p ∈ ps, PB 9 p := fun p hp => (hps p hp).2
  have hb4 : ∀ p ∈ ps, PB 4000 p := fun p hp => (hb p hp).up (by decide)
  have hz := pbs_fr hb (by decide)
  have hself : PySem.W.subIn K (.ref CB) (.ref CB) = some true := by
    rw [B.t.sub]
    simp
  refine z_asg 1 (d := iD (-1)) (ed_un un_neg ed_int ud_neg) sc_cut.nd ?_
  refine z_asg 2 (d := iD (ps.length : Int)) (ed_is (ed_len mL (ed_var 0 rfl)) (by rw [p1])) sc_cut.nd ?_
  refine z_forR 3 (n := ps.length) (fun j Γ' => ∃ (e : Int) (pl : Nat) (o : Option D), cutS ps j e pl ∧ Γ' = [some (psD ps), some (iD e), some (iD (pl : Int)), o, none, none, none, none]) rfl mR (ed_is (ed_len mL (ed_var 0 rfl)) (by rw [p1])) sc_cut.nd (by omega) ⟨-1, ps.length, none, by
    rcases cut_cases (ps.map qv) with ⟨m, h⟩ | ⟨k, h⟩
    · exact .inl ⟨m, h, rfl, .inl ⟨Nat.zero_le _, rfl⟩⟩
    · exact .inr ⟨k, h, rfl, .inl ⟨Nat.zero_le _, rfl⟩⟩, rfl⟩ ?_ ?_
  · rintro j Γ' hj ⟨e, pl', o, hS, rfl⟩
    have hps1 := ps_gp hps j
    -- is it still looking?
    by_cases hlook : pl' = ps.length ∧ e < 0
    · have hj' : cutS ps j (-1) ps.length := by
        obtain ⟨h1, h2⟩ := hlook
        subst h1
        rcases hS with ⟨m, h, _, h3 | h3⟩ | ⟨k, h, he, h3⟩
        · rw [← h3.2]; exact .inl ⟨m, h, rfl, .inl h3⟩
        · omega
        · rw [← he]; exact .inr ⟨k, h, he, h3⟩
      obtain ⟨h1, h2⟩ := hlook
      have cond : ∀ {Γ : Gm}, True := fun {_} => trivial
      refine z_if (k := true) (fun Γ2 => ∃ (e : Int) (pl : Nat), cutS ps (j + 1) e pl ∧ Γ2 = [some (psD ps), some (iD e), some (iD (pl : Int)), some (iD (j : Int)), none, none, none, none]) (WD.td (wd_andT (td_cmp op_eq (ed_var 2 rfl) (ed_is (ed_len mL (ed_var 0 rfl)) (by rw [p1])) (rd_eqT rfl (by rw [h1]; exact decide_eq_true rfl))) (wd_and1 (td_cmp op_lt (ed_var 1 rfl) ed_int (rd_B (decide_eq_true h2)))))) (fun _ => ?_) (fun z => by cases z) (fun Γ2 ⟨e', pl2, h, z⟩ => ss_nil (.inl ⟨_, .inl rfl, e', pl2, _, h, z⟩))
      by_cases hbad : (gp ps j).1 < 0 ∨ (gp ps j).2 < (gp ps j).1
      · have hq : co (ps.map qv) j < 0 ∨ 1 < co (ps.map qv) j := by rw [co_qv]; exact (lt_qv hps1).mpr hbad
        have hnew : cutS ps (j + 1) e j := by
          subst h1
          rcases hS with ⟨m, hm, _, h3⟩ | ⟨k, hk, he, h3⟩
          · exfalso
            rcases h3 with h3 | h3
            · obtain ⟨g1, g2, g3⟩ := hm
              by_cases hjm : j < m
              · have := g2 j hjm
                unfold In at this
                rcases hq with h | h <;> grind
              · have hjm' : j = m := by omega
                subst hjm'
                rcases g3 with g | g <;> rw [g] at hq <;> rcases hq with h | h <;> exact absurd h (by decide)
            · omega
          · have hjk : j = k := by
              rcases h3 with h3 | h3
              · by_cases hlt : j < k
                · exfalso
                  have hin : In (co (ps.map qv) j) := by rcases hk with ⟨_, g, _⟩ | ⟨_, g⟩ <;> exact g j hlt
                  unfold In at hin
                  rcases hq with h | h <;> grind
                · omega
              · omega
            subst hjk
            exact .inr ⟨j, hk, he, .inr ⟨by omega, rfl⟩⟩
        refine z_ifTE (WD.td ?_) (z_asg 2 (ed_var 3 rfl) sc_cut.nd (ss_nil ⟨_, rfl, e, j, hnew, rfl⟩))
        by_cases hn : (gp ps j).1 < 0
        · exact wd_orT (td_cmp op_lt (ed_ixT (ed_ix (ed_var 0 rfl) (ed_var 3 rfl) (at_gp hj)) ed_int rfl) ed_int (rd_B (decide_eq_true hn)))
        · have hg2 : (gp ps j).2 < (gp ps j).1 := by
            rcases hbad with h | h
            · exact absurd h hn
            · exact h
          exact wd_orF (td_cmp op_lt (ed_ixT (ed_ix (ed_var 0 rfl) (ed_var 3 rfl) (at_gp hj)) ed_int rfl) ed_int (rd_B (decide_eq_false hn))) (wd_or1 (td_cmp op_gt (ed_ixT (ed_ix (ed_var 0 rfl) (ed_var 3 rfl) (at_gp hj)) ed_int rfl) (ed_ixT (ed_ix (ed_var 0 rfl) (ed_var 3 rfl) (at_gp hj)) ed_int rfl) (rd_B (decide_eq_true hg2))))
      · have hnb : ¬ (co (ps.map qv) j < 0 ∨ 1 < co (ps.map qv) j) := fun z => hbad ((lt_qv hps1).mp (by rw [← co_qv]; exact z))
        have nb1 : ¬ (gp ps j).1 < 0 := fun z => hbad (.inl z)
        have nb2 : ¬ (gp ps j).2 < (gp ps j).1 := fun z => hbad (.inr z)
        refine z_ifEE (WD.td (wd_orF (td_cmp op_lt (ed_ixT (ed_ix (ed_var 0 rfl) (ed_var 3 rfl) (at_gp hj)) ed_int rfl) ed_int (rd_B (decide_eq_false nb1))) (wd_or1 (td_cmp op_gt (ed_ixT (ed_ix (ed_var 0 rfl) (ed_var 3 rfl) (at_gp hj)) ed_int rfl) (ed_ixT (ed_ix (ed_var 0 rfl) (ed_var 3 rfl) (at_gp hj)) ed_int rfl) (rd_B (decide_eq_false nb2)))))) ?_
        cases hen : endB (gp ps j) with
        | true =>
          have hq : co (ps.map qv) j = 0 ∨ co (ps.map qv) j = 1 := by rw [co_qv]; exact (end_iff hps1).mp hen
          have hnew : cutS ps (j + 1) (j : Int) ps.length := by
            subst h1
            rcases hS with ⟨m, hm, _, h3⟩ | ⟨k, hk, he, h3⟩
            · have hjm : j = m := by
                rcases h3 with h3 | h3
                · by_cases hlt : j < m
                  · exfalso
                    have := hm.2.1 j hlt
                    unfold In at this
                    rcases hq with h | h <;> grind
                  · omega
                · omega
              subst hjm
              exact .inl ⟨j, hm, rfl, .inr ⟨by omega, rfl⟩⟩
            · exfalso
              rcases h3 with h3 | h3
              · by_cases hlt : j < k
                · have hin : In (co (ps.map qv) j) := by rcases hk with ⟨_, g, _⟩ | ⟨_, g⟩ <;> exact g j hlt
                  unfold In at hin
                  rcases hq with h | h <;> grind
                · have hjk : j = k := by omega
                  subst hjk
                  rcases hk with ⟨_, _, g⟩ | ⟨g, _⟩
                  · rcases hq with h | h <;> rw [h] at g <;> rcases g with g | g <;> exact absurd g (by decide)
                  · omega
              · omega
          exact z_ifTE (td_val (ed_is (ed_call FE r1 mE kE bE pass0 (ad_cons (ed_ix (ed_var 0 rfl) (ed_var 3 rfl) (at_gp hj)) ad_nil) ⟨gp ps j, rfl, rfl⟩) (by rw [hen]))) (z_asg 1 (ed_var 3 rfl) sc_cut.nd (ss_nil ⟨_, rfl, _, _, hnew, by rw [h1]; rfl⟩))
        | false =>
          have hq : ¬ (co (ps.map qv) j = 0 ∨ co (ps.map qv) j = 1) := fun z => by
            rw [co_qv] at z
            rw [(end_iff hps1).mpr z] at hen
            cases hen
          have hin : In (co (ps.map qv) j) := by
            unfold In
            constructor <;> grind
          have hnew : cutS ps (j + 1) e ps.length := by
            subst h1
            rcases hS with ⟨m, hm, _, h3⟩ | ⟨k, hk, he, h3⟩
            · rcases h3 with h3 | h3
              · have : j ≠ m := fun z => by subst z; exact hq hm.2.2
                exact .inl ⟨m, hm, rfl, .inl ⟨by omega, h3.2⟩⟩
              · omega
            · rcases h3 with h3 | h3
              · have : j ≠ k := fun z => by
                  subst z
                  rcases hk with ⟨_, _, g⟩ | ⟨g, _⟩
                  · exact hnb g
                  · omega
                exact .inr ⟨k, hk, he, .inl ⟨by omega, h3.2⟩⟩
              · omega
          exact z_ifF (td_val (ed_is (ed_call FE r1 mE kE bE pass0 (ad_cons (ed_ix (ed_var 0 rfl) (ed_var 3 rfl) (at_gp hj)) ad_nil) ⟨gp ps j, rfl, rfl⟩) (by rw [hen]))) (ss_nil ⟨_, rfl, e, _, hnew, by rw [h1]; rfl⟩)
    · have hnew : cutS ps (j + 1) e pl' := by
        rcases hS with ⟨m, hm, hpl, h3⟩ | ⟨k, hk, he, h3⟩
        · rcases h3 with h3 | h3
          · exact absurd ⟨hpl, by omega⟩ hlook
          · exact .inl ⟨m, hm, hpl, .inr ⟨by omega, h3.2⟩⟩
        · rcases h3 with h3 | h3
          · exact absurd ⟨h3.2, by omega⟩ hlook
          · exact .inr ⟨k, hk, he, .inr ⟨by omega, h3.2⟩⟩
      refine z_ifF (WD.td ?_) (ss_nil (.inl ⟨_, .inl rfl, e, pl', _, hnew, rfl⟩))
      by_cases hp : pl' = ps.length
      · have : ¬ e < 0 := fun z => hlook ⟨hp, z⟩
        exact wd_andT (td_cmp op_eq (ed_var 2 rfl) (ed_is (ed_len mL (ed_var 0 rfl)) (by rw [p1])) (rd_eqT rfl (by rw [hp]; exact decide_eq_true rfl))) (wd_and1 (td_cmp op_lt (ed_var 1 rfl) ed_int (rd_B (decide_eq_false this))))
      · exact wd_andF (td_cmp op_eq (ed_var 2 rfl) (ed_is (ed_len mL (ed_var 0 rfl)) (by rw [p1])) (rd_eqT rfl (by rw [dec_int]; exact decide_eq_false (by omega))))
  · rintro Γ' ⟨e, pl', o, hS, rfl⟩
    rcases hS with ⟨m, hm, hpl, h3⟩ | ⟨k, hk, he, h3⟩
    · have hml : m < ps.length := by have := hm.1; rw [q1] at this; exact this
      have hem : e = (m : Int) := by
        rcases h3 with h3 | h3
        · omega
        · exact h3.2
      subst hem
      have hgood : Good ((ps.take (m + 1)).map qv) := by
        rw [List.map_take]
        exact cutG_good hm
      refine so_top (Φ := fun o => o = .rt (bD true)) ?_ (fun d z => by cases z; exact .inl rfl) (fun Γ Ω z => by cases z) (fun Γ Ω z => by cases z) (fun Γ Ω z => by cases z) (fun c fs Γ Ω z => by cases z)
      refine so_newS 4 (ds := ps.map (handD C true)) (fs_is (fs_lcL 7 4 (f := fun j => handD C true (ps.getD j (0, 1))) rfl sc_cut (ed_var 0 rfl) (by omega) (fun j dj hj => fun s0 H0 Ca cl fp => ?_) (fun j hj => flat_hand)) (by rw [map_getD2 (h := handD C true)])) (flatL_hand ps) (fun j es z => by cases z) ?_ (hi0 := by show 4 < 8; decide)
      · obtain ⟨hj1, rfl, e1⟩ := get_pD hj
        rw [e1]
        exact ed_call FH r3 mH kH bH pass0 (ad_cons (ed_var 7 rfl) ad_nil) ⟨ps[j], rfl, hb4 _ (List.getElem_mem hj1), rfl⟩
      refine so_tryN 6 rfl rfl sc_cut.nd (names_own B.t.mg) (Ψ := fun o2 => o2 = .nx [some (psD ps), some (iD (m : Int)), some (iD (pl' : Int)), o, none, some (lnD LA C ((ps.map qv).take (m + 1))), none, none] [(4, ps.map (handD C true))]) (fun pn xe _ => so_asgN (X := Cx.tr _ pn xe) 5 (nd_cutK (X := Cx.tr _ pn xe) S FL r10 L.mgL bL hgV (ed_var 4 rfl) (nums_hand ps) hz (by omega) hm) (fun j es hj => by simp at hj; omega) sc_cut.nd (so_nil rfl)) (fun Γ' Ω' z => ?_) (fun o h z => absurd z (h _ _))
      cases z
      refine so_ifF (WD.td (wd_orF (td_cmp op_ne (ed_is (ed_len mL (ed_var 4 rfl)) (by rw [g1])) (ed_is (ed_len mL (ed_var 0 rfl)) (by rw [p1])) (rd_neT rfl (by rw [decide_eq_true rfl]; rfl))) (wd_or1 (td_cmp (op_neH MQ FQ bQ pass0 r6) (ed_var 4 rfl) (ed_is (fd_lcL 7 (f := fun j => handD C true (ps.getD j (0, 1))) rfl sc_cut (ed_var 0 rfl) (by omega) (fun j dj hj => fun s0 H0 Ca cl fp => ?_) (fun j hj => flat_hand)).ed (show _ = D.lst (ps.map (handD C true)) by rw [map_getD2 (h := handD C true)])) (rd_neH fun d hd => by
        obtain ⟨p, hp, rfl⟩ := List.mem_map.mp hd
        exact hand_n1 (hb p hp) (by decide)))))) ?_
      · obtain ⟨hj1, rfl, e1⟩ := get_pD hj
        rw [e1]
        exact ed_call FH r3 mH kH bH pass0 (ad_cons (ed_var 7 rfl) ad_nil) ⟨ps[j], rfl, hb4 _ (List.getElem_mem hj1), rfl⟩
      refine so_set 0 4 (j := 0) rfl ed_int (ed_mk M FI r2 T.mgC bI pass0 (ad_cons ed_int (ad_cons ed_int ad_nil)) (by decide) (Nat.lt_of_lt_of_le (show (7 : Int).natAbs < 2 ^ 3 by decide) (Nat.pow_le_pow_right (by decide) (by decide)))) (flat_fr _) (by
        unfold ixN
        rw [if_pos (by omega), if_pos (by rw [g1]; omega)]
        rfl) ?_
      refine so_app 0 4 rfl ed_int (flat_iD _) (by rw [List.length_set, g1]; omega) ?_
      refine so_end (Φ0 := fun o => o = .rt (bD true)) ?_ (fun d z => by cases z; rfl) (fun _ z => by cases z) (fun _ z => by cases z) (fun _ z => by cases z) (fun _ _ _ z => by cases z)
      exact z_ret (d := bD true) (ed_andT (ed_cmp op_ge (ed_var 1 rfl) ed_int (rd_B (decide_eq_true (by omega)))) (ed_one (ed_call FK r3 mK kK bK pass0 (ad_cons (ed_is (ed_var 5 rfl) (show lnD LA C ((ps.map qv).take (m + 1)) = lnD LA C ((ps.take (m + 1)).map qv) by rw [List.map_take])) (ad_cons (ed_is (fd_cutTo (n := m + 1) (ed_var 0 rfl) (ed_is (ed_op op_add (ed_var 1 rfl) ed_int rd_I0) (by rw [Int.natCast_add]; rfl))).ed (show _ = psD (ps.take (m + 1)) by unfold psD; rw [List.map_take])) ad_nil)) ⟨ps.take (m + 1), rfl, fun p hp => hps p (List.mem_of_mem_take hp), hgood, by rw [List.length_take]; omega, rfl⟩))) rfl
    · have hplk : (pl' : Int) = (k : Int) := by
        rcases h3 with h3 | h3
        · rcases hk with ⟨h, _⟩ | ⟨h, _⟩
          · rw [q1] at h; omega
          · rw [q1] at h; omega
        · omega
      subst he
      refine z_asgFS 4 (fs_is (fs_lcL 7 4 (f := fun j => handD C true (ps.getD j (0, 1))) rfl sc_cut (ed_var 0 rfl) (by omega) (fun j dj hj => fun s0 H0 Ca cl fp => ?_) (fun j hj => flat_hand)) (show _ = ps.map (handD C true) by rw [map_getD2 (h := handD C true)])) ?_
      · obtain ⟨hj1, rfl, e1⟩ := get_pD hj
        rw [e1]
        exact ed_call FH r3 mH kH bH pass0 (ad_cons (ed_var 7 rfl) ad_nil) ⟨ps[j], rfl, hb4 _ (List.getElem_mem hj1), rfl⟩
      refine ss_out (sd_tryAsC 6 rfl rfl sc_cut.nd (names_own B.t.mg) (Ψ := fun o2 => ∃ Γ, o2 = .ex (.ref CB) [(("place" : Str), iD (k : Int))] Γ ∧ Γ = [some (psD ps), some (iD (-1)), some (iD (pl' : Int)), o, some (.lst (ps.map (handD C true))), none, none, none]) (fun pn xe _ => ss_out (sd_asgX 5 (xd_cutK (X := Cx.tr _ pn xe) S FL r10 L.mgL bL hgV (ed_var 4 rfl) (nums_hand ps) hz (by omega) hk) sc_cut.nd ⟨_, rfl, rfl⟩) (fun Γ' ⟨_, z, _⟩ => by cases z)) (fun o h ⟨_, z, _⟩ => absurd z (h _ _ _)) (fun c fs Γ' ⟨Γ, z, e⟩ => by
        cases z
        subst e
        refine ⟨true, PySem.W.exm_ref B.t.be (ec_hd B.t.ec) (ec_ty B.t.ec) hself, fun _ a0 oe d pn hz2 hf => ?_, fun z => by cases z⟩
        obtain ⟨vs, hvs⟩ := hf
        have hS : ∀ {X : Cx}, SeenX (Cx.suite X a0 ((a0, oe) :: pn)) CB (.ced a0 d [(("place" : Str), iD (k : Int))]) [(("place" : Str), iD (k : Int))] := fun {X} => .inr ⟨a0, oe, d, vs, rfl, List.mem_cons_self, hz2, hvs⟩
        exact z_ret (X := Cx.suite _ a0 ((a0, oe) :: pn)) (d := bD true) (ed_andT (ed_cmp op_lt (ed_var 1 rfl) ed_int (rd_B (decide_eq_true (by decide)))) (ed_one (ed_cmp op_eq (ed_xf (X := Cx.suite _ a0 ((a0, oe) :: pn)) B.t (ed_var 6 rfl) hS pl rfl) (ed_var 2 rfl) (rd_eqT rfl (by rw [hplk]; exact decide_eq_true rfl))))) (.inl rfl))) (fun Γ' z => ?_)
      rcases z with z | ⟨hd, _⟩
      · cases z
      · cases hd
end
end Law

set_option exponentiation.threshold 10000
namespace Law
open PySem L2 Evl Trk
section
variable {P : Program} {w : World} {K : PySem.W.Frag} {mg : Str → Option Value} {base : Heap} {C : Addr}
/-! ### the law -/
theorem entF_small {k t b : Int} (h0 : 0 ≤ k) (h1 : k < 13) (h2 : 0 ≤ t) (h4 : 0 ≤ b) (h5 : b < 11) : (entF k t b).1.natAbs < 100 ∧ (entF k t b).2.natAbs < 100 := by
  have m1 := Int.emod_nonneg t (show 1 + b ≠ 0 by omega)
  have m2 := Int.emod_lt_of_pos t (show 0 < 1 + b by omega)
  unfold entF
  split
  · exact ⟨by show Int.natAbs (1 + t % (1 + b)) < 100; omega, by show Int.natAbs (2 + b) < 100; omega⟩
  · split
    · exact ⟨by show Int.natAbs (k - 9) < 100; omega, by show Int.natAbs 1 < 100; decide⟩
    · split
      · exact ⟨by show Int.natAbs (-1 - t % 3) < 100; omega, by show Int.natAbs (1 + b % 3) < 100; omega⟩
      · exact ⟨by show Int.natAbs (2 + b + t % 3) < 100; omega, by show Int.natAbs (1 + b % 2) < 100; omega⟩
theorem lis_small (xs : List Int) (t : Nat) : ∀ p ∈ lisF xs t, p.1.natAbs < 100 ∧ p.2.natAbs < 100 := by
  have hp : ∀ p ∈ preF xs t, p.1.natAbs < 100 ∧ p.2.natAbs < 100 := fun p hp => by
    obtain ⟨k, hk, rfl⟩ := List.mem_map.mp hp
    have hk' := List.mem_range.mp hk
    have h1 := kin_mem xs t hk'
    have h2 := row_mem (xs.getD (t + 2) 0) (show (0 : Int) < 1000 by decide) hk'
    have h3 := row_mem (xs.getD (t + 3) 0) (show (0 : Int) < 11 by decide) hk'
    exact entF_small h1.1 h1.2 h2.1 h3.1 h3.2
  intro p h
  unfold lisF at h
  split at h
  · rcases List.mem_append.mp h with h | h
    · exact hp p h
    · rw [List.mem_singleton.mp h]
      refine ⟨?_, by show Int.natAbs 1 < 100; decide⟩
      show Int.natAbs (_ % 2) < 100
      omega
  · exact hp p h
theorem sc_law : FnScope ["_law_script", "_law_choice", "_law_pairs", "_law_others", "_law_place_here", "_law_first", "_law_second", "_law_same", "_law_pair"] ["_law_script"] (defScope s_law) := ⟨rfl, rfl, rfl, by decide +kernel, rfl, by decide +kernel, by decide +kernel⟩
theorem ok_law {f0 LA CB fC fLi fI fH fP fMd fCu fE fL fQ fR : Addr} {fd fdC fdLi fdI fdH fdP fdMd fdCu fdE fdL fdQ fdR : FuncData} (F : Fun K "law" "law" s_law f0 fd) (T : FrTxt K mg C) (L : LnTxt K mg LA)
    (FC : FnOk P w K mg base CX0 1 fC fdC ["_law_script", "_law_k"] (spD K 2 R_cell)) (mC : mg "_law_cell" = some (.ref fC)) (kC : PySem.W.keepIn K (.ref fC) = true) (bC : Binds K fdC ["_law_script", "_law_k"] [])
    (FLi : FnOk P w K mg base CX0 2 fLi fdLi ["_law_script", "_law_at"] (spD K 2 R_lis)) (mLis : mg "_law_list" = some (.ref fLi)) (kLis : PySem.W.keepIn K (.ref fLi) = true) (bLis : Binds K fdLi ["_law_script", "_law_at"] [])
    (FI : FnOk P w K mg base CX0 1 fI fdI ["_law_pair"] (spD K 1 R_ins)) (mI : mg "_law_inside" = some (.ref fI)) (kI : PySem.W.keepIn K (.ref fI) = true) (bI : Binds K fdI ["_law_pair"] [])
    (FH : FnOk P w K mg base CX0 3 fH fdH ["_law_pair"] (spD K 1 (R_handed C))) (mH : mg "_law_handed" = some (.ref fH)) (kH : PySem.W.keepIn K (.ref fH) = true) (bH : Binds K fdH ["_law_pair"] [])
    (FP : FnOk P w K mg base CX0 2 fP fdP ["_law_pairs"] (spD K 1 R_place)) (mP : mg "_law_place" = some (.ref fP)) (kP : PySem.W.keepIn K (.ref fP) = true) (bP : Binds K fdP ["_law_pairs"] [])
    (FM : FnOk P w K mg base CX0 10 fMd fdMd ["_law_pairs"] (spD K 1 R_mad)) (mM : mg "_law_made" = some (.ref fMd)) (kM : PySem.W.keepIn K (.ref fMd) = true) (bM : Binds K fdMd ["_law_pairs"] [])
    (FCu : FnOk P w K mg base CX0 11 fCu fdCu ["_law_pairs"] (spD K 1 R_mad)) (mCu : mg "_law_cut" = some (.ref fCu)) (kCu : PySem.W.keepIn K (.ref fCu) = true) (bCu : Binds K fdCu ["_law_pairs"] [])
    (FE : FnOk P w K mg base CX0 1 fE fdE ["_law_first", "_law_second"] (spD K 2 R_eql)) (mE : mg "_law_equal" = some (.ref fE)) (kE : PySem.W.keepIn K (.ref fE) = true) (bE : Binds K fdE ["_law_first", "_law_second"] [])
    (ML : Mk K LA fL) (FL : FnOk P w K mg base (L2.CX P w) 8 fL fdL ["self", "shares"] (spLine K LA C CB)) (bL : Binds K fdL ["self", "shares"] [])
    (MQ : CmpM K LA "__eq__" fQ) (FQ : FnOk P w K mg base CX0 7 fQ fdQ ["self", "other"] (spD K 2 (R_leq LA C false))) (bQ : Binds K fdQ ["self", "other"] [])
    (MR : CmpM K LA "__ne__" fR) (FR : FnOk P w K mg base CX0 8 fR fdR ["self", "other"] (spD K 2 (R_leq LA C true))) (bR : Binds K fdR ["self", "other"] [])
    (mL : mg "len" = none) (mLi : mg "list" = none) : FnOk P w K mg base CX0 12 f0 fd ["_law_script"] (spD K 1 R_law) := by
  refine fn_D F sc_law (by decide) fun cdv A outer s0 H E ds d hr hl hR => ?_
  obtain ⟨xs, rfl, hlen, rfl⟩ := hR
  have r1 : Room 1 _ := hr.mono (by decide)
  have r2 : Room 2 _ := hr.mono (by decide)
  have r3 : Room 3 _ := hr.mono (by decide)
  have r7 : Room 7 _ := hr.mono (by decide)
  have r8 : Room 8 _ := hr.mono (by decide)
  have r9 : Room 9 _ := hr.mono (by decide)
  have r10 : Room 10 _ := hr.mono (by decide)
  have r11 : Room 11 _ := hr
  obtain ⟨ch, hch, hch0, hch1⟩ : ∃ ch, ch = xs.getD 0 0 % (10 : Int) ^ (9 : Int).toNat ∧ 0 ≤ ch ∧ ch < 10 ^ 9 := ⟨_, rfl, Int.emod_nonneg _ (by decide), Int.emod_lt_of_pos _ (by decide)⟩
  obtain ⟨ps, hps⟩ : ∃ ps, ps = lisF xs 1 := ⟨_, rfl⟩
  have hP := lis_ps xs 1
  have hSm := lis_small xs 1
  rw [← hps] at hP hSm
  obtain ⟨hP, l7⟩ := hP
  have p1 : (ps.map pD).length = ps.length := List.length_map _
  -- all behind the making of the others
  have rest : ∀ (os : List (Int × Int)) (o4 : Option D), (∀ p ∈ os, PS p) → os.length ≤ 20 → SsD (cxOf CX0 P w K mg base ["_law_script", "_law_choice", "_law_pairs", "_law_others", "_law_place_here", "_law_first", "_law_second", "_law_same", "_law_pair"] "law" (defScope s_law) f0 cdv A outer s0 H E).nox ((defBody s_law).drop 4) [some (.scr xs), some (iD ch), some (psD ps), some (psD os), o4, none, none, none, none] (fun o => o = .rt (bD true) ∨ (bD true = .v .non ∧ ∃ Γ, o = .nx Γ)) := by
    intro os o4 hO l20
    have mad : ∀ qs : List (Int × Int), (∀ p ∈ qs, PS p) → qs.length ≤ 20 → R_mad [psD qs] (bD true) := fun qs h l => ⟨qs, rfl, h, l, rfl⟩
    refine z_ifF (WD.td (wd_orF (td_not (k := true) (td_val (ed_call FM r10 mM kM bM pass0 (ad_cons (ed_var 2 rfl) ad_nil) (mad ps hP (by omega))))) (wd_orF (td_not (k := true) (td_val (ed_call FCu r11 mCu kCu bCu pass0 (ad_cons (ed_var 2 rfl) ad_nil) (mad ps hP (by omega))))) (wd_orF (td_not (k := true) (td_val (ed_call FM r10 mM kM bM pass0 (ad_cons (ed_var 3 rfl) ad_nil) (mad os hO l20)))) (wd_or1 (td_not (k := true) (td_val (ed_call FCu r11 mCu kCu bCu pass0 (ad_cons (ed_var 3 rfl) ad_nil) (mad os hO l20))))))))) ?_
    rcases good_bad (ps.map qv) with hg | ⟨k, hk⟩
    · rcases good_bad (os.map qv) with hg2 | ⟨k, hk⟩
      · refine z_ifF (WD.td (wd_orF (td_cmp op_ge (ed_call FP r2 mP kP bP pass0 (ad_cons (ed_var 2 rfl) ad_nil) ⟨ps, rfl, hP, by omega, .inl ⟨hg, rfl⟩⟩) ed_int (rd_B (decide_eq_false (by decide)))) (wd_or1 (td_cmp op_ge (ed_call FP r2 mP kP bP pass0 (ad_cons (ed_var 3 rfl) ad_nil) ⟨os, rfl, hO, by omega, .inl ⟨hg2, rfl⟩⟩) ed_int (rd_B (decide_eq_false (by decide))))))) ?_
        have hb1 : ∀ p ∈ ps, PB 9 p := fun p hp => (hP p hp).2
        have hb2 : ∀ p ∈ os, PB 9 p := fun p hp => (hO p hp).2
        have hz1 := pbs_fr hb1 (by decide)
        have hz2 := pbs_fr hb2 (by decide)
        refine z_asg 5 (d := lnD LA C (ps.map qv)) (nd_mkL ML FL r9 L.mgL bL (ed_is (fd_lcL 8 (f := fun j => handD C true (ps.getD j (0, 1))) rfl sc_law (ed_var 2 rfl) (by rw [p1]; omega) (fun j dj hj => fun s0 H0 Ca cl fp => ?_) (fun j hj => flat_hand)).ed (show _ = D.lst (ps.map (handD C true)) by rw [map_getD2 (h := handD C true)])) (nums_hand ps) hz1 (by rw [List.length_map]; omega) hg).ed sc_law.nd ?_
        · obtain ⟨hj1, rfl, e1⟩ := get_pD hj
          rw [e1]
          exact ed_call FH r3 mH kH bH pass0 (ad_cons (ed_var 8 rfl) ad_nil) ⟨ps[j], rfl, (hb1 _ (List.getElem_mem hj1)).up (by decide), rfl⟩
        refine z_asg 6 (d := lnD LA C (os.map qv)) (nd_mkL ML FL r9 L.mgL bL (ed_is (fd_lcL 8 (f := fun j => handD C true (os.getD j (0, 1))) rfl sc_law (ed_var 3 rfl) (by rw [List.length_map]; omega) (fun j dj hj => fun s0 H0 Ca cl fp => ?_) (fun j hj => flat_hand)).ed (show _ = D.lst (os.map (handD C true)) by rw [map_getD2 (h := handD C true)])) (nums_hand os) hz2 (by rw [List.length_map]; omega) hg2).ed sc_law.nd ?_
        · obtain ⟨hj1, rfl, e1⟩ := get_pD hj
          rw [e1]
          exact ed_call FH r3 mH kH bH pass0 (ad_cons (ed_var 8 rfl) ad_nil) ⟨os[j], rfl, (hb2 _ (List.getElem_mem hj1)).up (by decide), rfl⟩
        obtain ⟨bb, hbb⟩ : ∃ bb, bb = decide (ps.map qv = os.map qv) := ⟨_, rfl⟩
        refine z_asg 7 (d := bD bb) (ed_call FE r1 mE kE bE pass0 (ad_cons (ed_var 2 rfl) (ad_cons (ed_var 3 rfl) ad_nil)) ⟨ps, os, rfl, hP, hO, by omega, by rw [hbb]⟩) sc_law.nd ?_
        have bl_eq : ∀ a b : Bool, decide (V.bl a = V.bl b) = (a == b) := fun a b => by cases a <;> cases b <;> rfl
        refine z_ret (d := bD true) (ed_andT (ed_cmp op_eq (ed_cmp (cmp_own (fun _ _ => rfl) MQ FQ r7 bQ pass0) (ed_var 5 rfl) (ed_var 6 rfl) (rd_own ⟨_, _, rfl, hz1, hz2, rfl⟩)) (ed_var 7 rfl) (rd_eqT rfl (by rw [bl_eq, ← hbb]; cases bb <;> rfl)))
          (ed_andT (ed_cmp op_ne (ed_cmp (cmp_own (fun _ _ => rfl) MR FR r8 bR pass0) (ed_var 5 rfl) (ed_var 6 rfl) (rd_own ⟨_, _, rfl, hz1, hz2, rfl⟩)) (ed_var 7 rfl) (rd_neT rfl (by rw [bl_eq, ← hbb]; cases bb <;> rfl)))
          (ed_andT (ed_is (ed_cmp (cmp_own (fun _ _ => rfl) MQ FQ r7 bQ pass0) (ed_var 5 rfl) (ed_var 5 rfl) (rd_own ⟨_, _, rfl, hz1, hz1, rfl⟩)) (by rw [decide_eq_true rfl]; rfl))
          (ed_one (ed_is (ed_not (ed_cmp (cmp_own (fun _ _ => rfl) MR FR r8 bR pass0) (ed_var 5 rfl) (ed_var 5 rfl) (rd_own ⟨_, _, rfl, hz1, hz1, rfl⟩))) (by rw [decide_eq_true rfl]; rfl)))))) (.inl rfl)
      · exact z_ifR (b := true) (WD.td (wd_orF (td_cmp op_ge (ed_call FP r2 mP kP bP pass0 (ad_cons (ed_var 2 rfl) ad_nil) ⟨ps, rfl, hP, by omega, .inl ⟨hg, rfl⟩⟩) ed_int (rd_B (decide_eq_false (by decide)))) (wd_or1 (td_cmp op_ge (ed_call FP r2 mP kP bP pass0 (ad_cons (ed_var 3 rfl) ad_nil) ⟨os, rfl, hO, by omega, .inr ⟨k, hk, rfl⟩⟩) ed_int (rd_B (decide_eq_true (by omega))))))) (fun _ => z_ret ed_bl ⟨(fun _ z => by cases z), .inl rfl⟩) (fun z => by cases z)
    · exact z_ifR (b := true) (WD.td (wd_orT (td_cmp op_ge (ed_call FP r2 mP kP bP pass0 (ad_cons (ed_var 2 rfl) ad_nil) ⟨ps, rfl, hP, by omega, .inr ⟨k, hk, rfl⟩⟩) ed_int (rd_B (decide_eq_true (by omega)))))) (fun _ => z_ret ed_bl ⟨(fun _ z => by cases z), .inl rfl⟩) (fun z => by cases z)
  refine z_asg 1 (d := iD ch) (ed_is (ed_op op_mod (ed_toInt T.tInt (ed_call FC r1 mC kC bC pass0 (ad_cons (ed_var 0 rfl) (ad_cons ed_int ad_nil)) ⟨xs, 0, rfl, rfl⟩)) (ed_op op_pow ed_int ed_int (rd_I ⟨by decide, by decide, by decide⟩)) (rd_I (by decide))) (by rw [hch])) sc_law.nd ?_
  refine z_asg 2 (d := psD ps) (ed_is (ed_call FLi r2 mLis kLis bLis pass0 (ad_cons (ed_var 0 rfl) (ad_cons ed_int ad_nil)) ⟨xs, 1, rfl, rfl⟩) (by rw [hps])) sc_law.nd ?_
  obtain ⟨c3, hc3⟩ : ∃ c3, c3 = ch % 3 := ⟨_, rfl⟩
  by_cases hact : 0 < c3 ∧ 0 < ps.length
  · obtain ⟨pl, hpl, hpll⟩ : ∃ pl : Nat, (pl : Int) = ch / 3 % (ps.length : Int) ∧ pl < ps.length := by
      have a1 := Int.emod_nonneg (ch / 3) (show (ps.length : Int) ≠ 0 by omega)
      have a2 := Int.emod_lt_of_pos (ch / 3) (show 0 < (ps.length : Int) by omega)
      exact ⟨(ch / 3 % (ps.length : Int)).toNat, by omega, by omega⟩
    have hpos : (0 : Int) < (ps.length : Int) := by omega
    have hp0 := ps_gp hP pl
    have atp := at_gp (ps := ps) hpll
    by_cases hin : c3 = 1 ∧ insB (gp ps pl) = true
    · obtain ⟨h1, h2⟩ := hin
      have hmem : gp ps pl ∈ ps := by rw [gp_lt hpll]; exact List.getElem_mem hpll
      have hsm := hSm _ hmem
      obtain ⟨os, hos⟩ : ∃ os, os = ps.set pl ((gp ps pl).1 * 2 + 1, (gp ps pl).2 * 2 + 2) := ⟨_, rfl⟩
      have hO : ∀ p ∈ os, PS p := fun p hp => by
        rw [hos] at hp
        rcases List.mem_or_eq_of_mem_set hp with h | h
        · exact hP p h
        · rw [h]
          refine ⟨by show 1 ≤ (gp ps pl).2 * 2 + 2; omega, by show (gp ps pl).2 * 2 + 2 ≠ 0; omega, ?_, ?_⟩
          · show Int.natAbs ((gp ps pl).1 * 2 + 1) < 512
            omega
          · show Int.natAbs ((gp ps pl).2 * 2 + 2) < 512
            omega
      have lO : os.length ≤ 20 := by rw [hos, List.length_set]; omega
      refine so_top (Φ := fun o => o = .rt (bD true)) ?_ (fun d z => by cases z; exact .inl rfl) (fun Γ Ω z => by cases z) (fun Γ Ω z => by cases z) (fun Γ Ω z => by cases z) (fun c fs Γ Ω z => by cases z)
      refine so_new 3 (ds := ps.map pD) (fd_list mLi (ed_var 2 rfl)) (flatL_pD _) (fun j es z => by cases z) sc_law.nd ?_
      refine so_if (k := true) (fun Γ2 Ω2 => Γ2 = [some (.scr xs), some (iD ch), some (psD ps), none, some (iD (pl : Int)), none, none, none, none] ∧ Ω2 = [(3, os.map pD)]) (WD.td (wd_andT (td_cmp op_gt (ed_op op_mod (ed_var 1 rfl) ed_int (rd_I (by decide))) ed_int (rd_B (decide_eq_true (by omega)))) (wd_and1 (td_cmp op_gt (ed_is (ed_len mL (ed_var 2 rfl)) (by rw [p1])) ed_int (rd_B (decide_eq_true hpos)))))) (fun _ => ?_) (fun z => by cases z) ?_
      · refine so_asg 4 (d := iD (pl : Int)) (ed_is (ed_op op_mod (ed_op op_fdiv (ed_var 1 rfl) ed_int (rd_I ⟨by decide, by decide⟩)) (ed_is (ed_len mL (ed_var 2 rfl)) (by rw [p1])) (rd_I hpos)) (by rw [hpl])) (flat_iD _) (fun j es hj => by simp at hj; omega) sc_law.nd ?_
        refine so_if (k := true) (fun Γ2 Ω2 => Γ2 = [some (.scr xs), some (iD ch), some (psD ps), none, some (iD (pl : Int)), none, none, none, none] ∧ Ω2 = [(3, os.map pD)]) (WD.td (wd_andT (td_cmp op_eq (ed_op op_mod (ed_var 1 rfl) ed_int (rd_I (by decide))) ed_int (rd_eqT rfl (by rw [← hc3, h1]; exact decide_eq_true rfl))) (wd_and1 (td_val (ed_is (ed_call FI r1 mI kI bI pass0 (ad_cons (ed_ix (ed_var 2 rfl) (ed_var 4 rfl) atp) ad_nil) ⟨gp ps pl, rfl, rfl⟩) (by rw [h2])))))) (fun _ => ?_) (fun z => by cases z) ?_
        · have bp := pb_gp (n := 9) (by decide) (fun p hp => (hP p hp).2) pl
          refine so_set 0 3 (j := pl) (d := pD ((gp ps pl).1 * 2 + 1, (gp ps pl).2 * 2 + 2)) rfl (ed_var 4 rfl) (ed_tup (ad_cons (ed_op op_add (ed_op op_mul (ed_ixT (ed_ix (ed_var 2 rfl) (ed_var 4 rfl) atp) ed_int rfl) ed_int (rd_I (.inr ⟨by decide, by decide⟩))) ed_int rd_I0) (ad_cons (ed_op op_add (ed_op op_mul (ed_ixT (ed_ix (ed_var 2 rfl) (ed_var 4 rfl) atp) ed_int rfl) ed_int (rd_I (.inr ⟨by decide, by decide⟩))) ed_int rd_I0) ad_nil))) (flat_pD _) (by
            unfold ixN
            rw [p1, if_pos (by omega), if_pos (by omega)]
            rfl) (so_nil ⟨_, _, rfl, rfl, ?_⟩)
          rw [hos, List.map_set]
          rfl
        rintro Γ2 Ω2 ⟨rfl, rfl⟩
        exact so_ifF (td_cmp op_eq (ed_op op_mod (ed_var 1 rfl) ed_int (rd_I (by decide))) ed_int (rd_eqT rfl (by rw [← hc3, h1]; exact decide_eq_false (fun z => by cases z)))) (so_nil ⟨_, _, rfl, rfl, rfl⟩)
      rintro Γ2 Ω2 ⟨rfl, rfl⟩
      refine so_end (Φ0 := (fun o => o = .rt (bD true) ∨ (bD true = .v .non ∧ ∃ Γ, o = .nx Γ))) (rest os _ hO lO) (fun d z => ?_) (fun _ z => ?_) (fun _ z => ?_) (fun _ z => ?_) (fun _ _ _ z => ?_)
      · rcases z with z | ⟨z, _⟩
        · cases z; rfl
        · cases z
      all_goals rcases z with z | ⟨z, _⟩ <;> cases z
    · refine z_asg 3 (d := psD ps) (fd_list mLi (ed_var 2 rfl)).ed sc_law.nd ?_
      refine z_if (k := true) (fun Γ' => ∃ (os : List (Int × Int)) (o4 : Option D), (∀ p ∈ os, PS p) ∧ os.length ≤ 20 ∧ Γ' = [some (.scr xs), some (iD ch), some (psD ps), some (psD os), o4, none, none, none, none]) (WD.td (wd_andT (td_cmp op_gt (ed_op op_mod (ed_var 1 rfl) ed_int (rd_I (by decide))) ed_int (rd_B (decide_eq_true (by omega)))) (wd_and1 (td_cmp op_gt (ed_is (ed_len mL (ed_var 2 rfl)) (by rw [p1])) ed_int (rd_B (decide_eq_true hpos)))))) (fun _ => ?_) (fun z => by cases z) (fun Γ' ⟨os, o4, hO, lO, z⟩ => by rw [z]; exact rest os o4 hO lO)
      refine z_asg 4 (d := iD (pl : Int)) (ed_is (ed_op op_mod (ed_op op_fdiv (ed_var 1 rfl) ed_int (rd_I ⟨by decide, by decide⟩)) (ed_is (ed_len mL (ed_var 2 rfl)) (by rw [p1])) (rd_I hpos)) (by rw [hpl])) sc_law.nd ?_
      refine z_ifF (WD.td ?_) ?_
      · by_cases h1 : c3 = 1
        · have h2 : insB (gp ps pl) = false := by
            cases hq : insB (gp ps pl) with
            | false => rfl
            | true => exact absurd ⟨h1, hq⟩ hin
          exact wd_andT (td_cmp op_eq (ed_op op_mod (ed_var 1 rfl) ed_int (rd_I (by decide))) ed_int (rd_eqT rfl (by rw [← hc3, h1]; exact decide_eq_true rfl))) (wd_and1 (td_val (ed_is (ed_call FI r1 mI kI bI pass0 (ad_cons (ed_ix (ed_var 2 rfl) (ed_var 4 rfl) atp) ad_nil) ⟨gp ps pl, rfl, rfl⟩) (by rw [h2]))))
        · exact wd_andF (td_cmp op_eq (ed_op op_mod (ed_var 1 rfl) ed_int (rd_I (by decide))) ed_int (rd_eqT rfl (by rw [← hc3, dec_int]; exact decide_eq_false h1)))
      by_cases h2 : c3 = 2
      · exact z_ifTE (td_cmp op_eq (ed_op op_mod (ed_var 1 rfl) ed_int (rd_I (by decide))) ed_int (rd_eqT rfl (by rw [← hc3, h2]; exact decide_eq_true rfl))) (z_asg 3 (d := psD (ps.drop pl)) (ed_is (fd_cutFrom (n := pl) (ed_var 3 rfl) (ed_var 4 rfl)).ed (by unfold psD; rw [List.map_drop])) sc_law.nd (ss_nil ⟨_, rfl, ps.drop pl, _, fun p hp => hP p (List.mem_of_mem_drop hp), by rw [List.length_drop]; omega, rfl⟩))
      · exact z_ifF (td_cmp op_eq (ed_op op_mod (ed_var 1 rfl) ed_int (rd_I (by decide))) ed_int (rd_eqT rfl (by rw [← hc3, dec_int]; exact decide_eq_false h2))) (ss_nil ⟨_, rfl, ps, _, hP, by omega, rfl⟩)
  · refine z_asg 3 (d := psD ps) (fd_list mLi (ed_var 2 rfl)).ed sc_law.nd ?_
    refine z_ifF (WD.td ?_) (rest ps none hP (by omega))
    by_cases h3 : 0 < c3
    · exact wd_andT (td_cmp op_gt (ed_op op_mod (ed_var 1 rfl) ed_int (rd_I (by decide))) ed_int (rd_B (decide_eq_true (by omega)))) (wd_and1 (td_cmp op_gt (ed_is (ed_len mL (ed_var 2 rfl)) (by rw [p1])) ed_int (rd_B (decide_eq_false (fun z => hact ⟨h3, by omega⟩)))))
    · exact wd_andF (td_cmp op_gt (ed_op op_mod (ed_var 1 rfl) ed_int (rd_I (by decide))) ed_int (rd_B (decide_eq_false (by omega))))
end
end Law

set_option exponentiation.threshold 10000
namespace Law
open PySem L2 Evl Trk
/-! ### what the top has written, the head -/
theorem all_mk {l : PySem.W.OpenLaw} {w : World} {K : PySem.W.Frag} {h : Heap} {mg : Str → Option Value} {fa : Addr} (X : K.In h) (G : h.Ns mainGlobals mg) (hfa : mg "law" = some (.ref fa))
    {f_init f_eq f_ne f_lt f_le f_gt f_ge f_asf f_isn f_ord f_iBL f_linit f_lcut f_lshares f_llen f_lget f_leq f_lne f_llast f_check f_cell f_row f_entry f_list f_inside f_atend f_place f_handed f_values f_kept f_made f_cut f_equal f_law C CB LA TE : Addr}
    {T_init : Addr} {ocT_init : Value} {odT_init : Option Addr} {nT_init : Nat} {slT_init : Array (Option Value)} {tk_init_0 : Tok}
    {od_init an_init : Option Addr} {sl_init : Array (Option Value)} {oc_init kV_init dc_init pm_init cd_init ct_init : Value}
    {od_eq an_eq : Option Addr} {sl_eq : Array (Option Value)} {oc_eq kV_eq dc_eq pm_eq cd_eq ct_eq : Value}
    {od_ne an_ne : Option Addr} {sl_ne : Array (Option Value)} {oc_ne kV_ne dc_ne pm_ne cd_ne ct_ne : Value}
    {od_lt an_lt : Option Addr} {sl_lt : Array (Option Value)} {oc_lt kV_lt dc_lt pm_lt cd_lt ct_lt : Value}
    {od_le an_le : Option Addr} {sl_le : Array (Option Value)} {oc_le kV_le dc_le pm_le cd_le ct_le : Value}
    {od_gt an_gt : Option Addr} {sl_gt : Array (Option Value)} {oc_gt kV_gt dc_gt pm_gt cd_gt ct_gt : Value}
    {od_ge an_ge : Option Addr} {sl_ge : Array (Option Value)} {oc_ge kV_ge dc_ge pm_ge cd_ge ct_ge : Value}
    {od_asf an_asf : Option Addr} {sl_asf : Array (Option Value)} {oc_asf kV_asf dc_asf pm_asf cd_asf ct_asf : Value}
    {od_isn an_isn : Option Addr} {sl_isn : Array (Option Value)} {oc_isn kV_isn dc_isn pm_isn cd_isn ct_isn : Value}
    {od_ord an_ord : Option Addr} {sl_ord : Array (Option Value)} {oc_ord kV_ord dc_ord pm_ord cd_ord ct_ord : Value}
    {od_iBL an_iBL : Option Addr} {sl_iBL : Array (Option Value)} {oc_iBL kV_iBL dc_iBL pm_iBL cd_iBL ct_iBL : Value}
    {od_linit an_linit : Option Addr} {sl_linit : Array (Option Value)} {oc_linit kV_linit dc_linit pm_linit cd_linit ct_linit : Value}
    {pp_lcut : Addr} {rst_lcut : List Value}
    {od_lcut an_lcut : Option Addr} {sl_lcut : Array (Option Value)} {oc_lcut kV_lcut dc_lcut pm_lcut cd_lcut ct_lcut : Value}
    {od_lshares an_lshares : Option Addr} {sl_lshares : Array (Option Value)} {oc_lshares kV_lshares dc_lshares pm_lshares cd_lshares ct_lshares : Value}
    {od_llen an_llen : Option Addr} {sl_llen : Array (Option Value)} {oc_llen kV_llen dc_llen pm_llen cd_llen ct_llen : Value}
    {od_lget an_lget : Option Addr} {sl_lget : Array (Option Value)} {oc_lget kV_lget dc_lget pm_lget cd_lget ct_lget : Value}
    {od_leq an_leq : Option Addr} {sl_leq : Array (Option Value)} {oc_leq kV_leq dc_leq pm_leq cd_leq ct_leq : Value}
    {od_lne an_lne : Option Addr} {sl_lne : Array (Option Value)} {oc_lne kV_lne dc_lne pm_lne cd_lne ct_lne : Value}
    {od_llast an_llast : Option Addr} {sl_llast : Array (Option Value)} {oc_llast kV_llast dc_llast pm_llast cd_llast ct_llast : Value}
    {od_check an_check : Option Addr} {sl_check : Array (Option Value)} {oc_check kV_check dc_check pm_check cd_check ct_check : Value}
    {od_cell an_cell : Option Addr} {sl_cell : Array (Option Value)} {oc_cell kV_cell dc_cell pm_cell cd_cell ct_cell : Value}
    {od_row an_row : Option Addr} {sl_row : Array (Option Value)} {oc_row kV_row dc_row pm_row cd_row ct_row : Value}
    {od_entry an_entry : Option Addr} {sl_entry : Array (Option Value)} {oc_entry kV_entry dc_entry pm_entry cd_entry ct_entry : Value}
    {od_list an_list : Option Addr} {sl_list : Array (Option Value)} {oc_list kV_list dc_list pm_list cd_list ct_list : Value}
    {od_inside an_inside : Option Addr} {sl_inside : Array (Option Value)} {oc_inside kV_inside dc_inside pm_inside cd_inside ct_inside : Value}
    {od_atend an_atend : Option Addr} {sl_atend : Array (Option Value)} {oc_atend kV_atend dc_atend pm_atend cd_atend ct_atend : Value}
    {od_place an_place : Option Addr} {sl_place : Array (Option Value)} {oc_place kV_place dc_place pm_place cd_place ct_place : Value}
    {od_handed an_handed : Option Addr} {sl_handed : Array (Option Value)} {oc_handed kV_handed dc_handed pm_handed cd_handed ct_handed : Value}
    {od_values an_values : Option Addr} {sl_values : Array (Option Value)} {oc_values kV_values dc_values pm_values cd_values ct_values : Value}
    {od_kept an_kept : Option Addr} {sl_kept : Array (Option Value)} {oc_kept kV_kept dc_kept pm_kept cd_kept ct_kept : Value}
    {od_made an_made : Option Addr} {sl_made : Array (Option Value)} {oc_made kV_made dc_made pm_made cd_made ct_made : Value}
    {od_cut an_cut : Option Addr} {sl_cut : Array (Option Value)} {oc_cut kV_cut dc_cut pm_cut cd_cut ct_cut : Value}
    {od_equal an_equal : Option Addr} {sl_equal : Array (Option Value)} {oc_equal kV_equal dc_equal pm_equal cd_equal ct_equal : Value}
    {od_law an_law : Option Addr} {sl_law : Array (Option Value)} {oc_law kV_law dc_law pm_law cd_law ct_law : Value}
    (aC : PySem.W.nsIn K mainGlobals "Fraction" = some (some (.ref C)))
    (aLA : PySem.W.nsIn K mainGlobals "Line" = some (some (.ref LA)))
    (aCB : PySem.W.nsIn K mainGlobals "BadLine" = some (some (.ref CB)))
    (aTE : PySem.W.nsIn K mainGlobals "TracerError" = some (some (.ref TE)))
    (a_init : PySem.W.findIn K (.ref C) "__init__" = some (some (.ref f_init)))
    (i_init : PySem.W.isFn K (.ref f_init) = true)
    (l_init : K.lookup f_init = some ⟨oc_init, od_init, .func (PySem.W.fnOf "__init__" "Fraction.__init__" (defArgs s_init) (defBody s_init) (defScope s_init) (.ref T_init) kV_init dc_init pm_init an_init cd_init ct_init), sl_init⟩)
    (d_init : K.lookup T_init = some ⟨ocT_init, odT_init, .seq #[.int 1 tk_init_0] nT_init, slT_init⟩)
    (c_init : PySem.W.codeIn K cd_init "Fraction.__init__" = true)
    (k_init : PySem.W.keepIn K (.ref f_init) = true)
    (a_eq : PySem.W.findIn K (.ref C) "__eq__" = some (some (.ref f_eq)))
    (i_eq : PySem.W.isFn K (.ref f_eq) = true)
    (l_eq : K.lookup f_eq = some ⟨oc_eq, od_eq, .func (PySem.W.fnOf "__eq__" "Fraction.__eq__" (defArgs s_eq) (defBody s_eq) (defScope s_eq) .none kV_eq dc_eq pm_eq an_eq cd_eq ct_eq), sl_eq⟩)
    (c_eq : PySem.W.codeIn K cd_eq "Fraction.__eq__" = true)
    (k_eq : PySem.W.keepIn K (.ref f_eq) = true)
    (a_ne : PySem.W.findIn K (.ref C) "__ne__" = some (some (.ref f_ne)))
    (i_ne : PySem.W.isFn K (.ref f_ne) = true)
    (l_ne : K.lookup f_ne = some ⟨oc_ne, od_ne, .func (PySem.W.fnOf "__ne__" "Fraction.__ne__" (defArgs s_ne) (defBody s_ne) (defScope s_ne) .none kV_ne dc_ne pm_ne an_ne cd_ne ct_ne), sl_ne⟩)
    (c_ne : PySem.W.codeIn K cd_ne "Fraction.__ne__" = true)
    (k_ne : PySem.W.keepIn K (.ref f_ne) = true)
    (a_lt : PySem.W.findIn K (.ref C) "__lt__" = some (some (.ref f_lt)))
    (i_lt : PySem.W.isFn K (.ref f_lt) = true)
    (l_lt : K.lookup f_lt = some ⟨oc_lt, od_lt, .func (PySem.W.fnOf "__lt__" "Fraction.__lt__" (defArgs s_lt) (defBody s_lt) (defScope s_lt) .none kV_lt dc_lt pm_lt an_lt cd_lt ct_lt), sl_lt⟩)
    (c_lt : PySem.W.codeIn K cd_lt "Fraction.__lt__" = true)
    (k_lt : PySem.W.keepIn K (.ref f_lt) = true)
    (a_le : PySem.W.findIn K (.ref C) "__le__" = some (some (.ref f_le)))
    (i_le : PySem.W.isFn K (.ref f_le) = true)
    (l_le : K.lookup f_le = some ⟨oc_le, od_le, .func (PySem.W.fnOf "__le__" "Fraction.__le__" (defArgs s_le) (defBody s_le) (defScope s_le) .none kV_le dc_le pm_le an_le cd_le ct_le), sl_le⟩)
    (c_le : PySem.W.codeIn K cd_le "Fraction.__le__" = true)
    (k_le : PySem.W.keepIn K (.ref f_le) = true)
    (a_gt : PySem.W.findIn K (.ref C) "__gt__" = some (some (.ref f_gt)))
    (i_gt : PySem.W.isFn K (.ref f_gt) = true)
    (l_gt : K.lookup f_gt = some ⟨oc_gt, od_gt, .func (PySem.W.fnOf "__gt__" "Fraction.__gt__" (defArgs s_gt) (defBody s_gt) (defScope s_gt) .none kV_gt dc_gt pm_gt an_gt cd_gt ct_gt), sl_gt⟩)
    (c_gt : PySem.W.codeIn K cd_gt "Fraction.__gt__" = true)
    (k_gt : PySem.W.keepIn K (.ref f_gt) = true)
    (a_ge : PySem.W.findIn K (.ref C) "__ge__" = some (some (.ref f_ge)))
    (i_ge : PySem.W.isFn K (.ref f_ge) = true)
    (l_ge : K.lookup f_ge = some ⟨oc_ge, od_ge, .func (PySem.W.fnOf "__ge__" "Fraction.__ge__" (defArgs s_ge) (defBody s_ge) (defScope s_ge) .none kV_ge dc_ge pm_ge an_ge cd_ge ct_ge), sl_ge⟩)
    (c_ge : PySem.W.codeIn K cd_ge "Fraction.__ge__" = true)
    (k_ge : PySem.W.keepIn K (.ref f_ge) = true)
    (a_asf : PySem.W.nsIn K mainGlobals "as_fraction" = some (some (.ref f_asf)))
    (l_asf : K.lookup f_asf = some ⟨oc_asf, od_asf, .func (PySem.W.fnOf "as_fraction" "as_fraction" (defArgs s_asf) (defBody s_asf) (defScope s_asf) .none kV_asf dc_asf pm_asf an_asf cd_asf ct_asf), sl_asf⟩)
    (c_asf : PySem.W.codeIn K cd_asf "as_fraction" = true)
    (k_asf : PySem.W.keepIn K (.ref f_asf) = true)
    (a_isn : PySem.W.nsIn K mainGlobals "_is_number" = some (some (.ref f_isn)))
    (l_isn : K.lookup f_isn = some ⟨oc_isn, od_isn, .func (PySem.W.fnOf "_is_number" "_is_number" (defArgs s_isn) (defBody s_isn) (defScope s_isn) .none kV_isn dc_isn pm_isn an_isn cd_isn ct_isn), sl_isn⟩)
    (c_isn : PySem.W.codeIn K cd_isn "_is_number" = true)
    (k_isn : PySem.W.keepIn K (.ref f_isn) = true)
    (a_ord : PySem.W.nsIn K mainGlobals "_order" = some (some (.ref f_ord)))
    (l_ord : K.lookup f_ord = some ⟨oc_ord, od_ord, .func (PySem.W.fnOf "_order" "_order" (defArgs s_ord) (defBody s_ord) (defScope s_ord) .none kV_ord dc_ord pm_ord an_ord cd_ord ct_ord), sl_ord⟩)
    (c_ord : PySem.W.codeIn K cd_ord "_order" = true)
    (k_ord : PySem.W.keepIn K (.ref f_ord) = true)
    (a_iBL : PySem.W.findIn K (.ref CB) "__init__" = some (some (.ref f_iBL)))
    (i_iBL : PySem.W.isFn K (.ref f_iBL) = true)
    (l_iBL : K.lookup f_iBL = some ⟨oc_iBL, od_iBL, .func (PySem.W.fnOf "__init__" "BadLine.__init__" (defArgs s_iBL) (defBody s_iBL) (defScope s_iBL) .none kV_iBL dc_iBL pm_iBL an_iBL cd_iBL ct_iBL), sl_iBL⟩)
    (c_iBL : PySem.W.codeIn K cd_iBL "BadLine.__init__" = true)
    (k_iBL : PySem.W.keepIn K (.ref f_iBL) = true)
    (a_linit : PySem.W.findIn K (.ref LA) "__init__" = some (some (.ref f_linit)))
    (i_linit : PySem.W.isFn K (.ref f_linit) = true)
    (l_linit : K.lookup f_linit = some ⟨oc_linit, od_linit, .func (PySem.W.fnOf "__init__" "Line.__init__" (defArgs s_linit) (defBody s_linit) (defScope s_linit) .none kV_linit dc_linit pm_linit an_linit cd_linit ct_linit), sl_linit⟩)
    (c_linit : PySem.W.codeIn K cd_linit "Line.__init__" = true)
    (k_linit : PySem.W.keepIn K (.ref f_linit) = true)
    (a_lcut : PySem.W.findCls K (.ref LA) (.type "type") "cut" = some (.get (.builtin "classmethod.__get__") (.ref pp_lcut) .none (.ref LA)))
    (r_lcut : PySem.W.recIn K pp_lcut "classmethod" = some (.ref f_lcut :: rst_lcut))
    (l_lcut : K.lookup f_lcut = some ⟨oc_lcut, od_lcut, .func (PySem.W.fnOf "cut" "Line.cut" (defArgs s_lcut) (defBody s_lcut) (defScope s_lcut) .none kV_lcut dc_lcut pm_lcut an_lcut cd_lcut ct_lcut), sl_lcut⟩)
    (c_lcut : PySem.W.codeIn K cd_lcut "Line.cut" = true)
    (k_lcut : PySem.W.keepIn K (.ref f_lcut) = true)
    (a_lshares : PySem.W.findIn K (.ref LA) "shares" = some (some (.ref f_lshares)))
    (i_lshares : PySem.W.isFn K (.ref f_lshares) = true)
    (l_lshares : K.lookup f_lshares = some ⟨oc_lshares, od_lshares, .func (PySem.W.fnOf "shares" "Line.shares" (defArgs s_lshares) (defBody s_lshares) (defScope s_lshares) .none kV_lshares dc_lshares pm_lshares an_lshares cd_lshares ct_lshares), sl_lshares⟩)
    (c_lshares : PySem.W.codeIn K cd_lshares "Line.shares" = true)
    (k_lshares : PySem.W.keepIn K (.ref f_lshares) = true)
    (a_llen : PySem.W.findIn K (.ref LA) "__len__" = some (some (.ref f_llen)))
    (i_llen : PySem.W.isFn K (.ref f_llen) = true)
    (l_llen : K.lookup f_llen = some ⟨oc_llen, od_llen, .func (PySem.W.fnOf "__len__" "Line.__len__" (defArgs s_llen) (defBody s_llen) (defScope s_llen) .none kV_llen dc_llen pm_llen an_llen cd_llen ct_llen), sl_llen⟩)
    (c_llen : PySem.W.codeIn K cd_llen "Line.__len__" = true)
    (k_llen : PySem.W.keepIn K (.ref f_llen) = true)
    (a_lget : PySem.W.findIn K (.ref LA) "__getitem__" = some (some (.ref f_lget)))
    (i_lget : PySem.W.isFn K (.ref f_lget) = true)
    (l_lget : K.lookup f_lget = some ⟨oc_lget, od_lget, .func (PySem.W.fnOf "__getitem__" "Line.__getitem__" (defArgs s_lget) (defBody s_lget) (defScope s_lget) .none kV_lget dc_lget pm_lget an_lget cd_lget ct_lget), sl_lget⟩)
    (c_lget : PySem.W.codeIn K cd_lget "Line.__getitem__" = true)
    (k_lget : PySem.W.keepIn K (.ref f_lget) = true)
    (a_leq : PySem.W.findIn K (.ref LA) "__eq__" = some (some (.ref f_leq)))
    (i_leq : PySem.W.isFn K (.ref f_leq) = true)
    (l_leq : K.lookup f_leq = some ⟨oc_leq, od_leq, .func (PySem.W.fnOf "__eq__" "Line.__eq__" (defArgs s_leq) (defBody s_leq) (defScope s_leq) .none kV_leq dc_leq pm_leq an_leq cd_leq ct_leq), sl_leq⟩)
    (c_leq : PySem.W.codeIn K cd_leq "Line.__eq__" = true)
    (k_leq : PySem.W.keepIn K (.ref f_leq) = true)
    (a_lne : PySem.W.findIn K (.ref LA) "__ne__" = some (some (.ref f_lne)))
    (i_lne : PySem.W.isFn K (.ref f_lne) = true)
    (l_lne : K.lookup f_lne = some ⟨oc_lne, od_lne, .func (PySem.W.fnOf "__ne__" "Line.__ne__" (defArgs s_lne) (defBody s_lne) (defScope s_lne) .none kV_lne dc_lne pm_lne an_lne cd_lne ct_lne), sl_lne⟩)
    (c_lne : PySem.W.codeIn K cd_lne "Line.__ne__" = true)
    (k_lne : PySem.W.keepIn K (.ref f_lne) = true)
    (a_llast : PySem.W.findIn K (.ref LA) "_last_node" = some (some (.ref f_llast)))
    (i_llast : PySem.W.isFn K (.ref f_llast) = true)
    (l_llast : K.lookup f_llast = some ⟨oc_llast, od_llast, .func (PySem.W.fnOf "_last_node" "Line._last_node" (defArgs s_llast) (defBody s_llast) (defScope s_llast) .none kV_llast dc_llast pm_llast an_llast cd_llast ct_llast), sl_llast⟩)
    (c_llast : PySem.W.codeIn K cd_llast "Line._last_node" = true)
    (k_llast : PySem.W.keepIn K (.ref f_llast) = true)
    (a_check : PySem.W.nsIn K mainGlobals "_check_shares" = some (some (.ref f_check)))
    (l_check : K.lookup f_check = some ⟨oc_check, od_check, .func (PySem.W.fnOf "_check_shares" "_check_shares" (defArgs s_check) (defBody s_check) (defScope s_check) .none kV_check dc_check pm_check an_check cd_check ct_check), sl_check⟩)
    (c_check : PySem.W.codeIn K cd_check "_check_shares" = true)
    (k_check : PySem.W.keepIn K (.ref f_check) = true)
    (a_cell : PySem.W.nsIn K mainGlobals "_law_cell" = some (some (.ref f_cell)))
    (l_cell : K.lookup f_cell = some ⟨oc_cell, od_cell, .func (PySem.W.fnOf "_law_cell" "_law_cell" (defArgs s_cell) (defBody s_cell) (defScope s_cell) .none kV_cell dc_cell pm_cell an_cell cd_cell ct_cell), sl_cell⟩)
    (c_cell : PySem.W.codeIn K cd_cell "_law_cell" = true)
    (k_cell : PySem.W.keepIn K (.ref f_cell) = true)
    (a_row : PySem.W.nsIn K mainGlobals "_law_row" = some (some (.ref f_row)))
    (l_row : K.lookup f_row = some ⟨oc_row, od_row, .func (PySem.W.fnOf "_law_row" "_law_row" (defArgs s_row) (defBody s_row) (defScope s_row) .none kV_row dc_row pm_row an_row cd_row ct_row), sl_row⟩)
    (c_row : PySem.W.codeIn K cd_row "_law_row" = true)
    (k_row : PySem.W.keepIn K (.ref f_row) = true)
    (a_entry : PySem.W.nsIn K mainGlobals "_law_entry" = some (some (.ref f_entry)))
    (l_entry : K.lookup f_entry = some ⟨oc_entry, od_entry, .func (PySem.W.fnOf "_law_entry" "_law_entry" (defArgs s_entry) (defBody s_entry) (defScope s_entry) .none kV_entry dc_entry pm_entry an_entry cd_entry ct_entry), sl_entry⟩)
    (c_entry : PySem.W.codeIn K cd_entry "_law_entry" = true)
    (k_entry : PySem.W.keepIn K (.ref f_entry) = true)
    (a_list : PySem.W.nsIn K mainGlobals "_law_list" = some (some (.ref f_list)))
    (l_list : K.lookup f_list = some ⟨oc_list, od_list, .func (PySem.W.fnOf "_law_list" "_law_list" (defArgs s_list) (defBody s_list) (defScope s_list) .none kV_list dc_list pm_list an_list cd_list ct_list), sl_list⟩)
    (c_list : PySem.W.codeIn K cd_list "_law_list" = true)
    (k_list : PySem.W.keepIn K (.ref f_list) = true)
    (a_inside : PySem.W.nsIn K mainGlobals "_law_inside" = some (some (.ref f_inside)))
    (l_inside : K.lookup f_inside = some ⟨oc_inside, od_inside, .func (PySem.W.fnOf "_law_inside" "_law_inside" (defArgs s_inside) (defBody s_inside) (defScope s_inside) .none kV_inside dc_inside pm_inside an_inside cd_inside ct_inside), sl_inside⟩)
    (c_inside : PySem.W.codeIn K cd_inside "_law_inside" = true)
    (k_inside : PySem.W.keepIn K (.ref f_inside) = true)
    (a_atend : PySem.W.nsIn K mainGlobals "_law_at_end" = some (some (.ref f_atend)))
    (l_atend : K.lookup f_atend = some ⟨oc_atend, od_atend, .func (PySem.W.fnOf "_law_at_end" "_law_at_end" (defArgs s_atend) (defBody s_atend) (defScope s_atend) .none kV_atend dc_atend pm_atend an_atend cd_atend ct_atend), sl_atend⟩)
    (c_atend : PySem.W.codeIn K cd_atend "_law_at_end" = true)
    (k_atend : PySem.W.keepIn K (.ref f_atend) = true)
    (a_place : PySem.W.nsIn K mainGlobals "_law_place" = some (some (.ref f_place)))
    (l_place : K.lookup f_place = some ⟨oc_place, od_place, .func (PySem.W.fnOf "_law_place" "_law_place" (defArgs s_place) (defBody s_place) (defScope s_place) .none kV_place dc_place pm_place an_place cd_place ct_place), sl_place⟩)
    (c_place : PySem.W.codeIn K cd_place "_law_place" = true)
    (k_place : PySem.W.keepIn K (.ref f_place) = true)
    (a_handed : PySem.W.nsIn K mainGlobals "_law_handed" = some (some (.ref f_handed)))
    (l_handed : K.lookup f_handed = some ⟨oc_handed, od_handed, .func (PySem.W.fnOf "_law_handed" "_law_handed" (defArgs s_handed) (defBody s_handed) (defScope s_handed) .none kV_handed dc_handed pm_handed an_handed cd_handed ct_handed), sl_handed⟩)
    (c_handed : PySem.W.codeIn K cd_handed "_law_handed" = true)
    (k_handed : PySem.W.keepIn K (.ref f_handed) = true)
    (a_values : PySem.W.nsIn K mainGlobals "_law_values" = some (some (.ref f_values)))
    (l_values : K.lookup f_values = some ⟨oc_values, od_values, .func (PySem.W.fnOf "_law_values" "_law_values" (defArgs s_values) (defBody s_values) (defScope s_values) .none kV_values dc_values pm_values an_values cd_values ct_values), sl_values⟩)
    (c_values : PySem.W.codeIn K cd_values "_law_values" = true)
    (k_values : PySem.W.keepIn K (.ref f_values) = true)
    (a_kept : PySem.W.nsIn K mainGlobals "_law_kept" = some (some (.ref f_kept)))
    (l_kept : K.lookup f_kept = some ⟨oc_kept, od_kept, .func (PySem.W.fnOf "_law_kept" "_law_kept" (defArgs s_kept) (defBody s_kept) (defScope s_kept) .none kV_kept dc_kept pm_kept an_kept cd_kept ct_kept), sl_kept⟩)
    (c_kept : PySem.W.codeIn K cd_kept "_law_kept" = true)
    (k_kept : PySem.W.keepIn K (.ref f_kept) = true)
    (a_made : PySem.W.nsIn K mainGlobals "_law_made" = some (some (.ref f_made)))
    (l_made : K.lookup f_made = some ⟨oc_made, od_made, .func (PySem.W.fnOf "_law_made" "_law_made" (defArgs s_made) (defBody s_made) (defScope s_made) .none kV_made dc_made pm_made an_made cd_made ct_made), sl_made⟩)
    (c_made : PySem.W.codeIn K cd_made "_law_made" = true)
    (k_made : PySem.W.keepIn K (.ref f_made) = true)
    (a_cut : PySem.W.nsIn K mainGlobals "_law_cut" = some (some (.ref f_cut)))
    (l_cut : K.lookup f_cut = some ⟨oc_cut, od_cut, .func (PySem.W.fnOf "_law_cut" "_law_cut" (defArgs s_cut) (defBody s_cut) (defScope s_cut) .none kV_cut dc_cut pm_cut an_cut cd_cut ct_cut), sl_cut⟩)
    (c_cut : PySem.W.codeIn K cd_cut "_law_cut" = true)
    (k_cut : PySem.W.keepIn K (.ref f_cut) = true)
    (a_equal : PySem.W.nsIn K mainGlobals "_law_equal" = some (some (.ref f_equal)))
    (l_equal : K.lookup f_equal = some ⟨oc_equal, od_equal, .func (PySem.W.fnOf "_law_equal" "_law_equal" (defArgs s_equal) (defBody s_equal) (defScope s_equal) .none kV_equal dc_equal pm_equal an_equal cd_equal ct_equal), sl_equal⟩)
    (c_equal : PySem.W.codeIn K cd_equal "_law_equal" = true)
    (k_equal : PySem.W.keepIn K (.ref f_equal) = true)
    (a_law : PySem.W.nsIn K mainGlobals "law" = some (some (.ref f_law)))
    (l_law : K.lookup f_law = some ⟨oc_law, od_law, .func (PySem.W.fnOf "law" "law" (defArgs s_law) (defBody s_law) (defScope s_law) .none kV_law dc_law pm_law an_law cd_law ct_law), sl_law⟩)
    (c_law : PySem.W.codeIn K cd_law "law" = true)
    (k_law : PySem.W.keepIn K (.ref f_law) = true)
    (pg : PySem.W.plainGet K C Str.empty = true)
    (hd : PySem.W.hasDictIn K C = true)
    (po : PySem.W.plainOver K C = true)
    (sa : PySem.W.findIn K (.ref C) "__setattr__" = some (some (.builtin "object.__setattr__")))
    (mk : PySem.W.makesIn K C = true)
    (kc : PySem.W.keepIn K (.ref C) = true)
    (nT : PySem.W.findIn K (.ref C) "top" = some none)
    (nB : PySem.W.findIn K (.ref C) "bottom" = some none)
    (ca : PySem.W.findIn K (.ref C) "__class__" = some (some (.builtin "object.__class__")))
    (cn : PySem.W.specialIn K (.builtin "object.__class__") "__get__" = some (some (.builtin "getset_descriptor.__get__")))
    (ct : PySem.W.takesIn K (.builtin "object.__class__") = some true)
    (cm : PySem.W.mroIn K C (.type "object") = some true)
    (ic : PySem.W.isClsIn K C = true)
    (tyC : PySem.W.typeIn K (.ref C) = some (.type "type"))
    (sub1 : PySem.W.subIn K (.type "int") (.ref C) = some false)
    (sub2 : PySem.W.subIn K (.ref C) (.type "int") = some false)
    (gg : PySem.W.nsIn K mainGlobals "gcd" = some (some (.builtin "math.gcd")))
    (pgL : PySem.W.plainGet K LA Str.empty = true)
    (hdL : PySem.W.hasDictIn K LA = true)
    (poL : PySem.W.plainOver K LA = true)
    (saL : PySem.W.findIn K (.ref LA) "__setattr__" = some (some (.builtin "object.__setattr__")))
    (mkL : PySem.W.makesIn K LA = true)
    (kcL : PySem.W.keepIn K (.ref LA) = true)
    (nS : PySem.W.findIn K (.ref LA) "_shares" = some none)
    (nE : PySem.W.findIn K (.ref LA) "end" = some none)
    (nR : PySem.W.findIn K (.ref LA) "rooms" = some none)
    (nP : PySem.W.findIn K (.ref LA) "passages" = some none)
    (caL : PySem.W.findIn K (.ref LA) "__class__" = some (some (.builtin "object.__class__")))
    (cmL : PySem.W.mroIn K LA (.type "object") = some true)
    (fnG : PySem.W.fnIn K f_lget = true)
    (fnC : PySem.W.fnIn K f_lcut = true)
    (rdL : PySem.W.readsIn K LA (.type "type") = true)
    (gaL : PySem.W.specialIn K (.ref LA) "__getattribute__" = some (some (.builtin "type.__getattribute__")))
    (ecBL : Trk.ecB K CB TE = true)
    (b_sa : PySem.W.findIn K (.ref CB) "__setattr__" = some (some (.builtin "object.__setattr__")))
    (b_ga : PySem.W.findIn K (.ref CB) "__getattribute__" = some (some (.builtin "BaseException.__getattribute__")))
    (b_gg : PySem.W.findIn K (.ref CB) "__getattr__" = some none)
    (b_ca : PySem.W.findIn K (.ref CB) "__class__" = some (some (.builtin "object.__class__")))
    (b_kp : PySem.W.keepIn K (.ref CB) = true)
    (b_ti : PySem.W.typeIn K (.ref f_iBL) = some (.type "function"))
    (b_pl : PySem.W.findIn K (.ref CB) "place" = some none)
    (t_ic : PySem.W.isClsIn K TE = true)
    (t_ty : PySem.W.typeIn K (.ref TE) = some (.type "type"))
    (x_ne : CB ≠ TE)
    (z_isinstance : PySem.W.nsIn K mainGlobals "isinstance" = some none)
    (z_int : PySem.W.nsIn K mainGlobals "int" = some none)
    (z_len : PySem.W.nsIn K mainGlobals "len" = some none)
    (z_abs : PySem.W.nsIn K mainGlobals "abs" = some none)
    (z_range : PySem.W.nsIn K mainGlobals "range" = some none)
    (z_bool : PySem.W.nsIn K mainGlobals "bool" = some none)
    (z_list : PySem.W.nsIn K mainGlobals "list" = some none)
    (z_enumerate : PySem.W.nsIn K mainGlobals "enumerate" = some none)
    : ∃ fd : FuncData, (∀ (s : Shared) (v : Value), BindsTo s fd ⟨[v], []⟩ [("_law_script", v)]) ∧ ∀ base : Heap, K.In base → base.Ns mainGlobals mg → FnOk l.prog w K mg base CX0 12 fa fd ["_law_script"] (spD K 1 R_law) := by
  have e := hfa.symm.trans (PySem.W.mg_of X G a_law)
  cases e
  have F_init : FunD K "__init__" "Fraction.__init__" (defArgs s_init) (defBody s_init) (defScope s_init) [V.int 1] [] f_init _ := ⟨⟨_, _, _, _, _, _, _, _, _, _, rfl, l_init, c_init, .inr ⟨(by simp), _, _, [.int 1 tk_init_0], _, rfl, d_init, rfl, (.cons ⟨_, rfl⟩ .nil)⟩, .inl rfl⟩, k_init⟩
  obtain ⟨du_init, hdu_init, b1_init⟩ := F_init.binds1 (ps := ["self", "top", "bottom"]) 2 0 (by simp) rfl fun _ _ _ _ _ _ _ us its hl hi => match us, its, hl, hi with | [_, _], [_], _, _ => ⟨_, rfl, rfl⟩
  obtain ⟨dz_init, hdz_init, b_init⟩ := F_init.binds1 (ps := ["self", "top", "bottom"]) 3 1 (by simp) rfl fun _ _ _ _ _ _ _ us its hl hi => match us, its, hl, hi with | [_, _, _], [_], _, _ => ⟨_, rfl, rfl⟩
  cases hdz_init
  have F_eq := fun_mk (st := s_eq) l_eq c_eq k_eq
  have b_eq := F_eq.binds (ps := ["self", "other"]) fun _ _ _ _ _ _ us hl => match us, hl with | [_, _], _ => rfl
  have F_ne := fun_mk (st := s_ne) l_ne c_ne k_ne
  have b_ne := F_ne.binds (ps := ["self", "other"]) fun _ _ _ _ _ _ us hl => match us, hl with | [_, _], _ => rfl
  have F_lt := fun_mk (st := s_lt) l_lt c_lt k_lt
  have b_lt := F_lt.binds (ps := ["self", "other"]) fun _ _ _ _ _ _ us hl => match us, hl with | [_, _], _ => rfl
  have F_le := fun_mk (st := s_le) l_le c_le k_le
  have b_le := F_le.binds (ps := ["self", "other"]) fun _ _ _ _ _ _ us hl => match us, hl with | [_, _], _ => rfl
  have F_gt := fun_mk (st := s_gt) l_gt c_gt k_gt
  have b_gt := F_gt.binds (ps := ["self", "other"]) fun _ _ _ _ _ _ us hl => match us, hl with | [_, _], _ => rfl
  have F_ge := fun_mk (st := s_ge) l_ge c_ge k_ge
  have b_ge := F_ge.binds (ps := ["self", "other"]) fun _ _ _ _ _ _ us hl => match us, hl with | [_, _], _ => rfl
  have F_asf := fun_mk (st := s_asf) l_asf c_asf k_asf
  have b_asf := F_asf.binds (ps := ["number"]) fun _ _ _ _ _ _ us hl => match us, hl with | [_], _ => rfl
  have m_asf := PySem.W.mg_of X G a_asf
  have F_isn := fun_mk (st := s_isn) l_isn c_isn k_isn
  have b_isn := F_isn.binds (ps := ["thing"]) fun _ _ _ _ _ _ us hl => match us, hl with | [_], _ => rfl
  have m_isn := PySem.W.mg_of X G a_isn
  have F_ord := fun_mk (st := s_ord) l_ord c_ord k_ord
  have b_ord := F_ord.binds (ps := ["fraction", "number"]) fun _ _ _ _ _ _ us hl => match us, hl with | [_, _], _ => rfl
  have m_ord := PySem.W.mg_of X G a_ord
  have F_iBL := fun_mk (st := s_iBL) l_iBL c_iBL k_iBL
  have b_iBL := F_iBL.binds (ps := ["self", "place"]) fun _ _ _ _ _ _ us hl => match us, hl with | [_, _], _ => rfl
  have F_linit := fun_mk (st := s_linit) l_linit c_linit k_linit
  have b_linit := F_linit.binds (ps := ["self", "shares"]) fun _ _ _ _ _ _ us hl => match us, hl with | [_, _], _ => rfl
  have F_lcut := fun_mk (st := s_lcut) l_lcut c_lcut k_lcut
  have b_lcut := F_lcut.binds (ps := ["cls", "shares"]) fun _ _ _ _ _ _ us hl => match us, hl with | [_, _], _ => rfl
  have F_lshares := fun_mk (st := s_lshares) l_lshares c_lshares k_lshares
  have b_lshares := F_lshares.binds (ps := ["self"]) fun _ _ _ _ _ _ us hl => match us, hl with | [_], _ => rfl
  have F_llen := fun_mk (st := s_llen) l_llen c_llen k_llen
  have b_llen := F_llen.binds (ps := ["self"]) fun _ _ _ _ _ _ us hl => match us, hl with | [_], _ => rfl
  have F_lget := fun_mk (st := s_lget) l_lget c_lget k_lget
  have b_lget := F_lget.binds (ps := ["self", "at"]) fun _ _ _ _ _ _ us hl => match us, hl with | [_, _], _ => rfl
  have F_leq := fun_mk (st := s_leq) l_leq c_leq k_leq
  have b_leq := F_leq.binds (ps := ["self", "other"]) fun _ _ _ _ _ _ us hl => match us, hl with | [_, _], _ => rfl
  have F_lne := fun_mk (st := s_lne) l_lne c_lne k_lne
  have b_lne := F_lne.binds (ps := ["self", "other"]) fun _ _ _ _ _ _ us hl => match us, hl with | [_, _], _ => rfl
  have F_llast := fun_mk (st := s_llast) l_llast c_llast k_llast
  have b_llast := F_llast.binds (ps := ["self"]) fun _ _ _ _ _ _ us hl => match us, hl with | [_], _ => rfl
  have F_check := fun_mk (st := s_check) l_check c_check k_check
  have b_check := F_check.binds (ps := ["shares"]) fun _ _ _ _ _ _ us hl => match us, hl with | [_], _ => rfl
  have m_check := PySem.W.mg_of X G a_check
  have F_cell := fun_mk (st := s_cell) l_cell c_cell k_cell
  have b_cell := F_cell.binds (ps := ["_law_script", "_law_k"]) fun _ _ _ _ _ _ us hl => match us, hl with | [_, _], _ => rfl
  have m_cell := PySem.W.mg_of X G a_cell
  have F_row := fun_mk (st := s_row) l_row c_row k_row
  have b_row := F_row.binds (ps := ["_law_cell_here", "_law_span", "_law_many"]) fun _ _ _ _ _ _ us hl => match us, hl with | [_, _, _], _ => rfl
  have m_row := PySem.W.mg_of X G a_row
  have F_entry := fun_mk (st := s_entry) l_entry c_entry k_entry
  have b_entry := F_entry.binds (ps := ["_law_kind", "_law_top", "_law_bottom"]) fun _ _ _ _ _ _ us hl => match us, hl with | [_, _, _], _ => rfl
  have m_entry := PySem.W.mg_of X G a_entry
  have F_list := fun_mk (st := s_list) l_list c_list k_list
  have b_list := F_list.binds (ps := ["_law_script", "_law_at"]) fun _ _ _ _ _ _ us hl => match us, hl with | [_, _], _ => rfl
  have m_list := PySem.W.mg_of X G a_list
  have F_inside := fun_mk (st := s_inside) l_inside c_inside k_inside
  have b_inside := F_inside.binds (ps := ["_law_pair"]) fun _ _ _ _ _ _ us hl => match us, hl with | [_], _ => rfl
  have m_inside := PySem.W.mg_of X G a_inside
  have F_atend := fun_mk (st := s_atend) l_atend c_atend k_atend
  have b_atend := F_atend.binds (ps := ["_law_pair"]) fun _ _ _ _ _ _ us hl => match us, hl with | [_], _ => rfl
  have m_atend := PySem.W.mg_of X G a_atend
  have F_place := fun_mk (st := s_place) l_place c_place k_place
  have b_place := F_place.binds (ps := ["_law_pairs"]) fun _ _ _ _ _ _ us hl => match us, hl with | [_], _ => rfl
  have m_place := PySem.W.mg_of X G a_place
  have F_handed := fun_mk (st := s_handed) l_handed c_handed k_handed
  have b_handed := F_handed.binds (ps := ["_law_pair"]) fun _ _ _ _ _ _ us hl => match us, hl with | [_], _ => rfl
  have m_handed := PySem.W.mg_of X G a_handed
  have F_values := fun_mk (st := s_values) l_values c_values k_values
  have b_values := F_values.binds (ps := ["_law_values_here", "_law_pairs"]) fun _ _ _ _ _ _ us hl => match us, hl with | [_, _], _ => rfl
  have m_values := PySem.W.mg_of X G a_values
  have F_kept := fun_mk (st := s_kept) l_kept c_kept k_kept
  have b_kept := F_kept.binds (ps := ["_law_line", "_law_pairs"]) fun _ _ _ _ _ _ us hl => match us, hl with | [_, _], _ => rfl
  have m_kept := PySem.W.mg_of X G a_kept
  have F_made := fun_mk (st := s_made) l_made c_made k_made
  have b_made := F_made.binds (ps := ["_law_pairs"]) fun _ _ _ _ _ _ us hl => match us, hl with | [_], _ => rfl
  have m_made := PySem.W.mg_of X G a_made
  have F_cut := fun_mk (st := s_cut) l_cut c_cut k_cut
  have b_cut := F_cut.binds (ps := ["_law_pairs"]) fun _ _ _ _ _ _ us hl => match us, hl with | [_], _ => rfl
  have m_cut := PySem.W.mg_of X G a_cut
  have F_equal := fun_mk (st := s_equal) l_equal c_equal k_equal
  have b_equal := F_equal.binds (ps := ["_law_first", "_law_second"]) fun _ _ _ _ _ _ us hl => match us, hl with | [_, _], _ => rfl
  have m_equal := PySem.W.mg_of X G a_equal
  have F_law := fun_mk (st := s_law) l_law c_law k_law
  have T : FrTxt K mg C := ⟨⟨pg, hd, po, sa⟩, nT, nB, PySem.W.mg_of X G aC, ca, cn, ct, cm, kit_self, kit_sub ic tyC sub1 (ty_ne _ _), sub1, sub2, PySem.W.mg_none_of X G z_isinstance, PySem.W.mg_none_of X G z_int, PySem.W.mg_of X G gg⟩
  have M : Mk K C f_init := ⟨mk, a_init, i_init, kc⟩
  have LT : LnTxt K mg LA := ⟨⟨pgL, hdL, poL, saL⟩, nS, nE, nR, nP, PySem.W.mg_of X G aLA, caL, cmL⟩
  have ML : Mk K LA f_linit := ⟨mkL, a_linit, i_linit, kcL⟩
  have ECT : EcT K mg "BadLine" CB TE := ⟨PySem.W.mg_of X G aCB, ecBL, b_sa, b_ga, b_gg, b_ca, cn, ct, b_kp⟩
  have bK_linit := fun_kb (ps := ["self", "shares"]) F_linit 1 ["shares"] (fun us zs => match us, zs with | [x], [y] => [x, y] | _, _ => []) (fun r1 r3 => by
    cases r1 with
    | nil => exact .nil
    | cons a r => cases r with
      | nil => cases r3 with
        | nil => exact .nil
        | cons b r => cases r with
          | nil => exact .cons a (.cons b .nil)
          | cons c r => exact .nil
      | cons _ _ => exact .nil) fun _ _ _ _ _ _ us ws hl hw => match us, ws, hl, hw with | [_], [_], _, _ => rfl
  have bK_lcut := fun_kb (ps := ["cls", "shares"]) F_lcut 1 ["shares"] (fun us zs => match us, zs with | [x], [y] => [x, y] | _, _ => []) (fun r1 r3 => by
    cases r1 with
    | nil => exact .nil
    | cons a r => cases r with
      | nil => cases r3 with
        | nil => exact .nil
        | cons b r => cases r with
          | nil => exact .cons a (.cons b .nil)
          | cons c r => exact .nil
      | cons _ _ => exact .nil) fun _ _ _ _ _ _ us ws hl hw => match us, ws, hl, hw with | [_], [_], _, _ => rfl
  refine ⟨PySem.W.fnOf "law" "law" (defArgs s_law) (defBody s_law) (defScope s_law) .none kV_law dc_law pm_law an_law cd_law ct_law, fun s v => .of_eq rfl, fun base _ _ => ?_⟩
  have GI : FnOk l.prog w K mg base CX0 1 f_init _ ["self", "top", "bottom"] (spInit C) := ok_init F_init T
  have GN := ok_isn (P := l.prog) (w := w) (base := base) F_isn T
  have GA := ok_asf (P := l.prog) (w := w) (base := base) F_asf T M GI b1_init hdu_init
  have GO := ok_ord (P := l.prog) (w := w) (base := base) F_ord T GA m_asf k_asf b_asf
  have GE := ok_eq F_eq T GN m_isn k_isn b_isn GO m_ord k_ord b_ord
  have GNE := ok_ne F_ne T ⟨a_eq, i_eq⟩ GE b_eq
  have HC : ∀ op, six op = true → CmpOk l.prog w K mg base C op := fun op h => by
    cases op
    case Eq => exact ⟨_, _, _, ⟨a_eq, i_eq⟩, GE.mono (by decide), b_eq⟩
    case NotEq => exact ⟨_, _, _, ⟨a_ne, i_ne⟩, GNE, b_ne⟩
    case Lt => exact ⟨_, _, _, ⟨a_lt, i_lt⟩, (ok_lt F_lt T GN m_isn k_isn b_isn GO m_ord k_ord b_ord).mono (by decide), b_lt⟩
    case LtE => exact ⟨_, _, _, ⟨a_le, i_le⟩, (ok_le F_le T GN m_isn k_isn b_isn GO m_ord k_ord b_ord).mono (by decide), b_le⟩
    case Gt => exact ⟨_, _, _, ⟨a_gt, i_gt⟩, (ok_gt F_gt T GN m_isn k_isn b_isn GO m_ord k_ord b_ord).mono (by decide), b_gt⟩
    case GtE => exact ⟨_, _, _, ⟨a_ge, i_ge⟩, (ok_ge F_ge T GN m_isn k_isn b_isn GO m_ord k_ord b_ord).mono (by decide), b_ge⟩
    all_goals cases h
  have GBL := ok_iBL (P := l.prog) (w := w) (mg := mg) (base := base) F_iBL ECT.oex b_pl
  have BL : BLT l.prog w K mg base CB TE := ⟨ECT, _, _, a_iBL, b_ti, GBL, b_iBL⟩
  have GCK := ok_check F_check T HC BL (PySem.W.mg_none_of X G z_len) (PySem.W.mg_none_of X G z_enumerate)
  have GLL := ok_llast (P := l.prog) (w := w) (base := base) (C := C) F_llast LT (PySem.W.mg_none_of X G z_len)
  have GLI := ok_linit F_linit T LT GA m_asf k_asf b_asf GCK m_check k_check b_check ⟨a_llast, i_llast, k_llast⟩ GLL b_llast
  have GLC := ok_lcut F_lcut T LT HC BL ML GLI b_linit (PySem.W.mg_none_of X G z_len) (PySem.W.mg_none_of X G z_enumerate)
  have GSH := ok_lshares (P := l.prog) (w := w) (base := base) (C := C) F_lshares LT (PySem.W.mg_none_of X G z_list)
  have GSHF := ok_lsharesF (P := l.prog) (w := w) (base := base) (C := C) F_lshares LT (PySem.W.mg_none_of X G z_list)
  have GLN := ok_llen (P := l.prog) (w := w) (base := base) (C := C) F_llen LT (PySem.W.mg_none_of X G z_len)
  have GLG := ok_lget (P := l.prog) (w := w) (base := base) (C := C) F_lget LT
  have GLE := ok_leq F_leq T LT ⟨a_eq, i_eq⟩ GE b_eq
  have GLNE := ok_lne F_lne ⟨a_leq, i_leq⟩ GLE b_leq
  have SC : CMetK K LA "cut" pp_lcut f_lcut := ⟨rdL, gaL, a_lcut, ⟨_, r_lcut⟩, fnC⟩
  have GCELL := ok_cell (P := l.prog) (w := w) (mg := mg) (base := base) F_cell (PySem.W.mg_none_of X G z_len)
  have GROW := ok_row (P := l.prog) (w := w) (mg := mg) (base := base) F_row T.tInt (PySem.W.mg_none_of X G z_abs) (PySem.W.mg_none_of X G z_range)
  have GENTRY := ok_entry (P := l.prog) (w := w) (mg := mg) (base := base) F_entry
  have GLIST := ok_list F_list GCELL m_cell k_cell b_cell GROW m_row k_row b_row GENTRY m_entry k_entry b_entry (PySem.W.mg_none_of X G z_range)
  have GINSIDE := ok_inside (P := l.prog) (w := w) (mg := mg) (base := base) F_inside
  have GATEND := ok_atend (P := l.prog) (w := w) (mg := mg) (base := base) F_atend
  have GPLACE := ok_place F_place GINSIDE m_inside k_inside b_inside GATEND m_atend k_atend b_atend (PySem.W.mg_none_of X G z_len) (PySem.W.mg_none_of X G z_range)
  have GHANDED := ok_handed F_handed T M GI b_init
  have GVALUES := ok_values (P := l.prog) (w := w) (base := base) F_values T (PySem.W.mg_none_of X G z_len) (PySem.W.mg_none_of X G z_range) (PySem.W.mg_none_of X G z_list)
  have GKEPT := ok_kept F_kept T LT ⟨a_lshares, i_lshares, k_lshares⟩ GSH GSHF b_lshares ⟨a_llen, i_llen⟩ GLN b_llen ⟨a_lget, i_lget⟩ fnG GLG b_lget GVALUES m_values k_values b_values M GI b_init (PySem.W.mg_none_of X G z_len) (PySem.W.mg_none_of X G z_range) (PySem.W.mg_none_of X G z_bool)
  have GMADE := ok_made F_made T LT BL GHANDED m_handed k_handed b_handed GPLACE m_place k_place b_place ML GLI bK_linit (fun _ _ => rfl) GKEPT m_kept k_kept b_kept ⟨a_ne, i_ne⟩ GNE b_ne M GI b_init b_pl (PySem.W.mg_of X G aTE) t_ic t_ty x_ne (PySem.W.mg_none_of X G z_len) (PySem.W.mg_none_of X G z_range) (PySem.W.mg_none_of X G z_list)
  have GCUT := ok_cut F_cut T LT BL GHANDED m_handed k_handed b_handed GATEND m_atend k_atend b_atend SC GLC bK_lcut (fun _ _ => rfl) GKEPT m_kept k_kept b_kept ⟨a_eq, i_eq⟩ GE b_eq M GI b_init b_pl (PySem.W.mg_none_of X G z_len) (PySem.W.mg_none_of X G z_range)
  have GEQUAL := ok_equal (P := l.prog) (w := w) (mg := mg) (base := base) F_equal (PySem.W.mg_none_of X G z_len) (PySem.W.mg_none_of X G z_range)
  exact ok_law F_law T LT GCELL m_cell k_cell b_cell GLIST m_list k_list b_list GINSIDE m_inside k_inside b_inside GHANDED m_handed k_handed b_handed GPLACE m_place k_place b_place GMADE m_made k_made b_made GCUT m_cut k_cut b_cut GEQUAL m_equal k_equal b_equal ML GLI b_linit ⟨a_leq, i_leq⟩ GLE b_leq ⟨a_lne, i_lne⟩ GLNE b_lne (PySem.W.mg_none_of X G z_len) (PySem.W.mg_none_of X G z_list)
theorem walk {l : PySem.W.OpenLaw} {q : Program} {loose : List Str} {XP : (Str → Option Value) → Heap → Prop} {YP : World → Heap → Prop} {d : DefRec} {K : Params → PySem.W.Frag} (hn : l.most = some 63) (hdf : d.params.defaults = [])
    (hY : ∀ (w : World) (h : Heap), YP w h → (K w.params).In h)
    (F : ∀ (w : World) (mg : Str → Option Value) (fa : Addr) (h : Heap), (K w.params).In h → h.Ns mainGlobals mg → mg d.name = some (.ref fa) →
      ∃ fd : FuncData, (∀ (s : Shared) (u : Value), BindsTo s fd ⟨[u], []⟩ [("_law_script", u)]) ∧ ∀ base : Heap, (K w.params).In base → base.Ns mainGlobals mg → FnOk l.prog w (K w.params) mg base CX0 12 fa fd ["_law_script"] (spD (K w.params) 1 R_law)) :
    PySem.W.WalkO q loose XP YP l.row.toRowW d [] (fun f vs => PySem.call f vs) :=
  L2.walk_of (n := 63) (k := 12) (x := "_law_script") (CX := fun _ => CX0) (sp := fun w => spD (K w.params) 1 R_law) hn (by decide) hdf ⟨rfl, by decide, by decide⟩ hY F (fun _ _ a ns hl _ hS => sp_law hl hS fun _ => rfl) fun _ _ _ _ _ z => z
end Law

open PySem PySem.W PyProof.Rows in
set_option maxRecDepth 100000 in
set_option maxHeartbeats 0 in
theorem PySem.Challenge.cw_tracerline_k22_lists_that_are_lines_holds : PySem.Challenge.rw_tracerline_k22_lists_that_are_lines.Holds := by
  w_on; o_law; k_head; (case hw => w_witness2)
  k_fill
  refine Law.walk (l := PySem.Challenge.rw_tracerline_k22_lists_that_are_lines) rfl rfl (fun w h Y => PySem.W.kIn_of Y) ?F
  case F =>
    intro w mg fa h KX G hmg
    refine' Law.all_mk KX G hmg ?aC ?aLA ?aCB ?aTE ?a_init ?i_init ?l_init ?d_init ?c_init ?k_init ?a_eq ?i_eq ?l_eq ?c_eq ?k_eq ?a_ne ?i_ne ?l_ne ?c_ne ?k_ne ?a_lt ?i_lt ?l_lt ?c_lt ?k_lt ?a_le ?i_le ?l_le ?c_le ?k_le ?a_gt ?i_gt ?l_gt ?c_gt ?k_gt ?a_ge ?i_ge ?l_ge ?c_ge ?k_ge ?a_asf ?l_asf ?c_asf ?k_asf ?a_isn ?l_isn ?c_isn ?k_isn ?a_ord ?l_ord ?c_ord ?k_ord ?a_iBL ?i_iBL ?l_iBL ?c_iBL ?k_iBL ?a_linit ?i_linit ?l_linit ?c_linit ?k_linit ?a_lcut ?r_lcut ?l_lcut ?c_lcut ?k_lcut ?a_lshares ?i_lshares ?l_lshares ?c_lshares ?k_lshares ?a_llen ?i_llen ?l_llen ?c_llen ?k_llen ?a_lget ?i_lget ?l_lget ?c_lget ?k_lget ?a_leq ?i_leq ?l_leq ?c_leq ?k_leq ?a_lne ?i_lne ?l_lne ?c_lne ?k_lne ?a_llast ?i_llast ?l_llast ?c_llast ?k_llast ?a_check ?l_check ?c_check ?k_check ?a_cell ?l_cell ?c_cell ?k_cell ?a_row ?l_row ?c_row ?k_row ?a_entry ?l_entry ?c_entry ?k_entry ?a_list ?l_list ?c_list ?k_list ?a_inside ?l_inside ?c_inside ?k_inside ?a_atend ?l_atend ?c_atend ?k_atend ?a_place ?l_place ?c_place ?k_place ?a_handed ?l_handed ?c_handed ?k_handed ?a_values ?l_values ?c_values ?k_values ?a_kept ?l_kept ?c_kept ?k_kept ?a_made ?l_made ?c_made ?k_made ?a_cut ?l_cut ?c_cut ?k_cut ?a_equal ?l_equal ?c_equal ?k_equal ?a_law ?l_law ?c_law ?k_law ?pg ?hd ?po ?sa ?mk ?kc ?nT ?nB ?ca ?cn ?ct ?cm ?ic ?tyC ?sub1 ?sub2 ?gg ?pgL ?hdL ?poL ?saL ?mkL ?kcL ?nS ?nE ?nR ?nP ?caL ?cmL ?fnG ?fnC ?rdL ?gaL ?ecBL ?b_sa ?b_ga ?b_gg ?b_ca ?b_kp ?b_ti ?b_pl ?t_ic ?t_ty ?x_ne ?z_isinstance ?z_int ?z_len ?z_abs ?z_range ?z_bool ?z_list ?z_enumerate
    (case aC => k_is)
    (case aLA => k_is)
    (case aCB => k_is)
    (case aTE => k_is)
    (case a_init => k_is)
    (case i_init => k_is)
    (case l_init => k_is)
    (case d_init => k_is)
    (case c_init => k_is)
    (case k_init => k_is)
    (case a_eq => k_is)
    (case i_eq => k_is)
    (case l_eq => k_is)
    (case c_eq => k_is)
    (case k_eq => k_is)
    (case a_ne => k_is)
    (case i_ne => k_is)
    (case l_ne => k_is)
    (case c_ne => k_is)
    (case k_ne => k_is)
    (case a_lt => k_is)
    (case i_lt => k_is)
    (case l_lt => k_is)
    (case c_lt => k_is)
    (case k_lt => k_is)
    (case a_le => k_is)
    (case i_le => k_is)
    (case l_le => k_is)
    (case c_le => k_is)
    (case k_le => k_is)
    (case a_gt => k_is)
    (case i_gt => k_is)
    (case l_gt => k_is)
    (case c_gt => k_is)
    (case k_gt => k_is)
    (case a_ge => k_is)
    (case i_ge => k_is)
    (case l_ge => k_is)
    (case c_ge => k_is)
    (case k_ge => k_is)
    (case a_asf => k_is)
    (case l_asf => k_is)
    (case c_asf => k_is)
    (case k_asf => k_is)
    (case a_isn => k_is)
    (case l_isn => k_is)
    (case c_isn => k_is)
    (case k_isn => k_is)
    (case a_ord => k_is)
    (case l_ord => k_is)
    (case c_ord => k_is)
    (case k_ord => k_is)
    (case a_iBL => k_is)
    (case i_iBL => k_is)
    (case l_iBL => k_is)
    (case c_iBL => k_is)
    (case k_iBL => k_is)
    (case a_linit => k_is)
    (case i_linit => k_is)
    (case l_linit => k_is)
    (case c_linit => k_is)
    (case k_linit => k_is)
    (case a_lcut => k_is)
    (case r_lcut => k_is)
    (case l_lcut => k_is)
    (case c_lcut => k_is)
    (case k_lcut => k_is)
    (case a_lshares => k_is)
    (case i_lshares => k_is)
    (case l_lshares => k_is)
    (case c_lshares => k_is)
    (case k_lshares => k_is)
    (case a_llen => k_is)
    (case i_llen => k_is)
    (case l_llen => k_is)
    (case c_llen => k_is)
    (case k_llen => k_is)
    (case a_lget => k_is)
    (case i_lget => k_is)
    (case l_lget => k_is)
    (case c_lget => k_is)
    (case k_lget => k_is)
    (case a_leq => k_is)
    (case i_leq => k_is)
    (case l_leq => k_is)
    (case c_leq => k_is)
    (case k_leq => k_is)
    (case a_lne => k_is)
    (case i_lne => k_is)
    (case l_lne => k_is)
    (case c_lne => k_is)
    (case k_lne => k_is)
    (case a_llast => k_is)
    (case i_llast => k_is)
    (case l_llast => k_is)
    (case c_llast => k_is)
    (case k_llast => k_is)
    (case a_check => k_is)
    (case l_check => k_is)
    (case c_check => k_is)
    (case k_check => k_is)
    (case a_cell => k_is)
    (case l_cell => k_is)
    (case c_cell => k_is)
    (case k_cell => k_is)
    (case a_row => k_is)
    (case l_row => k_is)
    (case c_row => k_is)
    (case k_row => k_is)
    (case a_entry => k_is)
    (case l_entry => k_is)
    (case c_entry => k_is)
    (case k_entry => k_is)
    (case a_list => k_is)
    (case l_list => k_is)
    (case c_list => k_is)
    (case k_list => k_is)
    (case a_inside => k_is)
    (case l_inside => k_is)
    (case c_inside => k_is)
    (case k_inside => k_is)
    (case a_atend => k_is)
    (case l_atend => k_is)
    (case c_atend => k_is)
    (case k_atend => k_is)
    (case a_place => k_is)
    (case l_place => k_is)
    (case c_place => k_is)
    (case k_place => k_is)
    (case a_handed => k_is)
    (case l_handed => k_is)
    (case c_handed => k_is)
    (case k_handed => k_is)
    (case a_values => k_is)
    (case l_values => k_is)
    (case c_values => k_is)
    (case k_values => k_is)
    (case a_kept => k_is)
    (case l_kept => k_is)
    (case c_kept => k_is)
    (case k_kept => k_is)
    (case a_made => k_is)
    (case l_made => k_is)
    (case c_made => k_is)
    (case k_made => k_is)
    (case a_cut => k_is)
    (case l_cut => k_is)
    (case c_cut => k_is)
    (case k_cut => k_is)
    (case a_equal => k_is)
    (case l_equal => k_is)
    (case c_equal => k_is)
    (case k_equal => k_is)
    (case a_law => k_is)
    (case l_law => k_is)
    (case c_law => k_is)
    (case k_law => k_is)
    (case pg => k_is)
    (case hd => k_is)
    (case po => k_is)
    (case sa => k_is)
    (case mk => k_is)
    (case kc => k_is)
    (case nT => k_is)
    (case nB => k_is)
    (case ca => k_is)
    (case cn => k_is)
    (case ct => k_is)
    (case cm => k_is)
    (case ic => k_is)
    (case tyC => k_is)
    (case sub1 => k_is)
    (case sub2 => k_is)
    (case gg => k_is)
    (case pgL => k_is)
    (case hdL => k_is)
    (case poL => k_is)
    (case saL => k_is)
    (case mkL => k_is)
    (case kcL => k_is)
    (case nS => k_is)
    (case nE => k_is)
    (case nR => k_is)
    (case nP => k_is)
    (case caL => k_is)
    (case cmL => k_is)
    (case fnG => k_is)
    (case fnC => k_is)
    (case rdL => k_is)
    (case gaL => k_is)
    (case ecBL => first | k_is | (unfold Trk.ecB; k_is) | (unfold Trk.ecB; kernel_rfl) | kernel_rfl)
    (case b_sa => k_is)
    (case b_ga => k_is)
    (case b_gg => k_is)
    (case b_ca => k_is)
    (case b_kp => k_is)
    (case b_ti => k_is)
    (case b_pl => k_is)
    (case t_ic => k_is)
    (case t_ty => k_is)
    (case x_ne => decide)
    (case z_isinstance => k_is)
    (case z_int => k_is)
    (case z_len => k_is)
    (case z_abs => k_is)
    (case z_range => k_is)
    (case z_bool => k_is)
    (case z_list => k_is)
    (case z_enumerate => k_is)
