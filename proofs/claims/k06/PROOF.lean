import PyProof.Rows.All
import Wide.All
import OpenK.AllK
import Wide.FinOn
import KE.KOpsOwn
import HandS.ForMost
import HandS.ForExc
import HandS.Evl
import HandS.IsInst
import HandS.Gcd
import HandS.Wide
import HandS.OwnEq
import HandS.SlotsOwn
import HandS.Defaults
import HandS.TryOnly
import HandS.ExcOwn
import HandS.ExcIs
import HandS.MakeKw
import HandS.MakeKwOnly
import HandS.ExcInit
import KE.KExcIs
import HandS.ExcField
import HandS.ExcValue
import HandS.HotCalls
import PyProof.StrOps2
import HandS.Property
import KE.KCallOwn
import KE.KMethU
import HandS.Comp
import HandS.Style
import HandS.Records
import HandS.ClsMeth
import HandS.Walk
import HandS.Iter
import KE.KBoundM
import KE.KMathGC
import HandS.GenList
import KE.GoesEnumKw
import PySem.Challenge.RW_tracerline_k06_polynomial_parts
set_option Elab.async false
set_option linter.all false
set_option maxRecDepth 100000
set_option maxHeartbeats 4000000
set_option exponentiation.threshold 10000
namespace Trk
open PySem PySem.W PySem.Calls PyProof.Rows
section
variable {prog : Program} {w : World} {A : Around} {E : Value → Shared → Prop} {s : Shared} {K : Frag} {x C dx L f : Addr} {h₀ : Heap} {m : Str → Option Value} {ox : Obj} {od : Option Obj} {n : Int} {t : Tok} {Q : Value → Shared → Prop}

section
variable {M : Model} {R : Fin → Shared → Prop} (ho : s.heap.get? x = some (instObj C dx)) (h : R (.done (.ret .notImplemented)) s)
include ho h
theorem add_no : wpAny M A (Builtin.«int.__add__» ⟨[.int n t, .ref x], []⟩) R E s := by
  obtain ⟨hp, g, d, tk, os⟩ := s
  wp_walk using wpAny_load ho
  exact h
theorem sub_no : wpAny M A (Builtin.«int.__sub__» ⟨[.int n t, .ref x], []⟩) R E s := by
  obtain ⟨hp, g, d, tk, os⟩ := s
  wp_walk using wpAny_load ho
  exact h
theorem mul_no : wpAny M A (Builtin.«int.__mul__» ⟨[.int n t, .ref x], []⟩) R E s := by
  obtain ⟨hp, g, d, tk, os⟩ := s
  wp_walk using wpAny_load ho
  exact h
theorem eq_no : wpAny M A (Builtin.«int.__eq__» ⟨[.int n t, .ref x], []⟩) R E s := by
  obtain ⟨hp, g, d, tk, os⟩ := s
  wp_walk using wpAny_load ho
  exact h
theorem ne_no : wpAny M A (Builtin.«int.__ne__» ⟨[.int n t, .ref x], []⟩) R E s := by
  obtain ⟨hp, g, d, tk, os⟩ := s
  wp_walk using wpAny_load ho
  exact h
theorem lt_no : wpAny M A (Builtin.«int.__lt__» ⟨[.int n t, .ref x], []⟩) R E s := by
  obtain ⟨hp, g, d, tk, os⟩ := s
  wp_walk using wpAny_load ho
  exact h
theorem le_no : wpAny M A (Builtin.«int.__le__» ⟨[.int n t, .ref x], []⟩) R E s := by
  obtain ⟨hp, g, d, tk, os⟩ := s
  wp_walk using wpAny_load ho
  exact h
theorem gt_no : wpAny M A (Builtin.«int.__gt__» ⟨[.int n t, .ref x], []⟩) R E s := by
  obtain ⟨hp, g, d, tk, os⟩ := s
  wp_walk using wpAny_load ho
  exact h
theorem ge_no : wpAny M A (Builtin.«int.__ge__» ⟨[.int n t, .ref x], []⟩) R E s := by
  obtain ⟨hp, g, d, tk, os⟩ := s
  wp_walk using wpAny_load ho
  exact h
end

/-- the slots of int that the four signs use -/
structure IntSlot (nm id : String) (B : Builtin) : Prop where
  slot : Slot "int" (PySem.dunder nm) id
  entry : entryFor table id = some B
  args : ∀ a b : Value, argsOk id ⟨[a, b], []⟩
  no : ∀ (M : Model) (A : Around) (E : Value → Shared → Prop) (s : Shared) (x C dx : Addr) (n : Int) (t : Tok) (R : Fin → Shared → Prop), s.heap.get? x = some (instObj C dx) → R (.done (.ret .notImplemented)) s → wpAny M A (B ⟨[.int n t, .ref x], []⟩) R E s
theorem sAdd : IntSlot "add" "int.__add__" Builtin.«int.__add__» := ⟨F.slot_int_add, F.entry_int_add, F.args_int_add_2, fun _ _ _ _ _ _ _ _ _ _ h q => add_no h q⟩
theorem sSub : IntSlot "sub" "int.__sub__" Builtin.«int.__sub__» := ⟨F.slot_int_sub, F.entry_int_sub, F.args_int_sub_2, fun _ _ _ _ _ _ _ _ _ _ h q => sub_no h q⟩
theorem sMul : IntSlot "mul" "int.__mul__" Builtin.«int.__mul__» := ⟨F.slot_int_mul, F.entry_int_mul, F.args_int_mul_2, fun _ _ _ _ _ _ _ _ _ _ h q => mul_no h q⟩

theorem int_try {nm id : String} {B : Builtin} {R : Option Value → Shared → Prop} (S : IntSlot nm id B) (ho : s.heap.get? x = some (instObj C dx)) (h : R none s) : wpAny (model prog w) A (tryMethod (.int n t) (PySem.dunder nm) (.ref x)) R E s :=
  wpAny_tryMethod_declines (typeIs_int s n t) S.slot (wpAny_call_entry S.slot (typeIs_int s n t) S.entry (S.no _ _ _ _ _ _ _ _ _ _ ho ⟨_, rfl, rfl, h⟩) (S.args _ _))

theorem rbinT {op : Operator} {id : String} {B : Builtin} {fo ro : Option Value} {g : Addr} (S : IntSlot op.info.2 id B) (F : Fr h₀ L s.heap m) (X₀ : K.In h₀) (I : InstAt s.heap x (instObj C dx) C od) (hc : selfFirst K C = true)
    (hs : findIn K (.ref C) (PySem.dunder op.info.2) = some (some (.ref g)))
    (hr : findIn K (.ref C) (dunderR op.info.2) = some (some (.ref f))) (hf : isFn K (.ref f) = true)
    (h1 : findIn K (.type "int") (PySem.dunder op.info.2) = some fo) (h2 : findIn K (.type "int") (dunderR op.info.2) = some ro) (hl : ((fo.isSome && !isSeqSlot fo) || (ro.isSome && !isSeqSlot ro)) = true)
    (hsub : subIn K (.ref C) (.type "int") = some false)
    (h : wpAny (model prog w) A (call (.ref f) [.ref x, .int n t]) (PySem.W.CmpBack Q) E s) : wpAny (model prog w) A (binaryOp op (.int n t) (.ref x)) Q E s := by
  have X := X₀.keeps F.keep
  obtain ⟨cd, rest, hcd, hm⟩ := ksp_first hc
  have two := ksp_try X I hr hf h
  have ho : s.heap.get? x = some (instObj C dx) := I.1
  rcases hi : op.info with ⟨sym, nm'⟩
  rw [hi] at hs hr h1 h2 S two
  dsimp only at hs hr h1 h2 S two
  obtain ⟨hh, gg, d, tt, os⟩ := s
  have L1 : Looks (model prog w) hh (typeOf (.ref x)) (.ref C) := I.type
  have L2 : Looks (model prog w) hh (typeOf (.int n t)) (.type "int") := Looks.of_pure rfl
  have L3 : Looks (model prog w) hh (fillsNumberSlot (.ref C) nm') true := fills_K X hcd hm hs
  have L4 : Looks (model prog w) hh (fillsNumberSlot (.type "int") nm') true := hl ▸ ksp_fillsT X h1 h2
  have L5 : Looks (model prog w) hh (isSubtype (.ref C) (.type "int")) false := looks_subIn X hsub
  have L7 : Looks (model prog w) hh (numberSlotInPython (.type "int") nm') false := Looks.of_pure rfl
  have hne : (Value.type "int" == Value.ref C) = false := Bool.eq_false_iff.mpr fun q => by cases beq_iff_eq.mp q
  simp only [binaryOp, hi]
  refine wpAny_holding (wpAny_bind ?_)
  unfold binaryOp1
  refine wpAny_bind (L2.at (wpAny_bind (L1.at (wpAny_bind (L4.at ?_)))))
  simp only [hne, Bool.false_eq_true, if_false]
  refine wpAny_bind (L3.at ?_)
  simp only [Bool.and_self, if_true]
  refine wpAny_bind (L5.at ?_)
  ksp_lk
  refine int_try S ho ?_
  ksp_lk
  refine wpAny_mono two (fun r s' hr' => ?_) fun _ _ e => e
  obtain ⟨v, rfl, hq⟩ := hr'
  ksp_lk
  exact hq

structure CmpSlot (op : CmpOp) (id : String) (B : Builtin) : Prop where
  slot : Slot "int" (cmpInfo op).2.1 id
  entry : entryFor table id = some B
  args : ∀ a b : Value, argsOk id ⟨[a, b], []⟩
  no : ∀ (M : Model) (A : Around) (E : Value → Shared → Prop) (s : Shared) (x C dx : Addr) (n : Int) (t : Tok) (R : Fin → Shared → Prop), s.heap.get? x = some (instObj C dx) → R (.done (.ret .notImplemented)) s → wpAny M A (B ⟨[.int n t, .ref x], []⟩) R E s
theorem cEq : CmpSlot .Eq "int.__eq__" Builtin.«int.__eq__» := ⟨F.slot_int_eq, F.entry_int_eq, F.args_int_eq_2, fun _ _ _ _ _ _ _ _ _ _ h q => eq_no h q⟩
theorem cNe : CmpSlot .NotEq "int.__ne__" Builtin.«int.__ne__» := ⟨F.slot_int_ne, F.entry_int_ne, F.args_int_ne_2, fun _ _ _ _ _ _ _ _ _ _ h q => ne_no h q⟩
theorem cLt : CmpSlot .Lt "int.__lt__" Builtin.«int.__lt__» := ⟨F.slot_int_lt, F.entry_int_lt, F.args_int_lt_2, fun _ _ _ _ _ _ _ _ _ _ h q => lt_no h q⟩
theorem cLe : CmpSlot .LtE "int.__le__" Builtin.«int.__le__» := ⟨F.slot_int_le, F.entry_int_le, F.args_int_le_2, fun _ _ _ _ _ _ _ _ _ _ h q => le_no h q⟩
theorem cGt : CmpSlot .Gt "int.__gt__" Builtin.«int.__gt__» := ⟨F.slot_int_gt, F.entry_int_gt, F.args_int_gt_2, fun _ _ _ _ _ _ _ _ _ _ h q => gt_no h q⟩
theorem cGe : CmpSlot .GtE "int.__ge__" Builtin.«int.__ge__» := ⟨F.slot_int_ge, F.entry_int_ge, F.args_int_ge_2, fun _ _ _ _ _ _ _ _ _ _ h q => ge_no h q⟩

theorem int_cmp {op : CmpOp} {id : String} {B : Builtin} {R : Option Value → Shared → Prop} (S : CmpSlot op id B) (ho : s.heap.get? x = some (instObj C dx)) (h : R none s) : wpAny (model prog w) A (tryCompare (.int n t) (cmpInfo op).2.1 (.ref x)) R E s :=
  wpAny_tryCompare_declines (typeIs_int s n t) S.slot (wpAny_call_entry S.slot (typeIs_int s n t) S.entry (S.no _ _ _ _ _ _ _ _ _ _ ho ⟨_, rfl, rfl, h⟩) (S.args _ _))

theorem rcmpT {op : CmpOp} {id : String} {B : Builtin} (S : CmpSlot op id B) (hu : A.units < cLine) (F : Fr h₀ L s.heap m) (X₀ : K.In h₀) (I : InstAt s.heap x (instObj C dx) C od)
    (hs : findIn K (.ref C) (cmpInfo op).2.2 = some (some (.ref f))) (hf : isFn K (.ref f) = true) (hsub : subIn K (.ref C) (.type "int") = some false)
    (h : wpAny (model prog w) A (call (.ref f) [.ref x, .int n t]) (PySem.W.CmpBack Q) E s) : wpAny (model prog w) A (richCompare op (.int n t) (.ref x)) Q E s := by
  have X := X₀.keeps F.keep
  have ho : s.heap.get? x = some (instObj C dx) := I.1
  have one : wpAny (model prog w) A (tryCompare (.ref x) (cmpInfo op).2.2 (.int n t)) (fun r s' => ∃ v, r = some v ∧ Q v s') E s := by
    unfold tryCompare
    refine wpAny_bind (ifBound_K X I hs hf (wpAny_mono h (fun v s' hv => ?_) fun _ _ e => e))
    cases v <;> first | exact hv.elim | exact wpAny_pure ⟨_, rfl, hv⟩
  have two := int_cmp (prog := prog) (w := w) (A := A) (E := E) (n := n) (t := t) (R := fun r s' => r = none ∧ s' = s) S ho ⟨rfl, rfl⟩
  have hne : (Value.type "int" != Value.ref C) = true := by
    have e : (Value.type "int" == Value.ref C) = false := Bool.eq_false_iff.mpr fun q => by cases beq_iff_eq.mp q
    show (!(Value.type "int" == Value.ref C)) = true
    rw [e]
    rfl
  have hob : oneThing? op (.int n t) (.ref x) = none := by rfl
  unfold richCompare
  simp only [hob]
  refine wpAny_holding (wpAny_bind (wpAny_cRoomFor hu ?_))
  refine wpAny_bind ((Looks.of_pure (M := model prog w) (h := s.heap) (t := typeOf (.int n t)) (r := .type "int") rfl).here (wpAny_bind (I.type.here ?_)))
  rw [if_pos hne]
  refine wpAny_bind ((looks_subIn X hsub).here ?_)
  simp only [Bool.false_eq_true, if_false]
  refine wpAny_bind (wpAny_mono two (fun r s' z => ?_) fun _ _ e => e)
  obtain ⟨rfl, rfl⟩ := z
  dsimp only
  simp only [Bool.not_false, if_true]
  refine wpAny_bind (wpAny_mono one (fun r s' z => ?_) fun _ _ e => e)
  obtain ⟨v, rfl, hq⟩ := z
  exact wpAny_pure hq
end
end Trk

namespace Trk
open PySem PySem.W PySem.Calls PyProof.Rows
section
variable {prog : Program} {w : World} {M : Model} {A : Around} {E : Value → Shared → Prop} {s : Shared} {K : Frag} {x C dx L f : Addr} {h₀ : Heap} {m : Str → Option Value} {ox : Obj} {od : Option Obj} {n : Int} {t : Tok} {b : Value}
/-- an own class right below object -/
def underObject (K : Frag) (C : Addr) : Bool := (clsIn K C).any fun cd => cd.mro == [.ref C, .type "object"]
theorem under_mro (h : underObject K C = true) : ∃ cd, clsIn K C = some cd ∧ cd.mro = [.ref C, .type "object"] := by
  unfold underObject at h
  cases q : clsIn K C with
  | none =>
    rw [q] at h
    cases h
  | some cd =>
    rw [q] at h
    exact ⟨cd, rfl, beq_iff_eq.mp h⟩
theorem no_inplace {nm : String} {add : Bool} {h : Heap} (X : K.In h) (hu : underObject K C = true) (h1 : findIn K (.ref C) (dunderI nm) = some none) (h2 : findIn K (.type "object") (dunderI nm) = some none) : Looks M h (fillsInplaceSlot (.ref C) nm add) false := by
  intro A Q E s k q
  obtain ⟨cd, hc, hm⟩ := under_mro hu
  have Lm : Looks M h (mroOf (.ref C)) cd.mro := (looks_clsIn X hc).andThen (f := fun cd => pure cd.mro) .now
  have Lm' := Lm.keeps k
  obtain ⟨hh, g, d, tt, os⟩ := s
  have X' : K.In hh := X.keeps k
  have L1 : Looks M hh (typeLookup (.ref C) (dunderI nm)) none := looks_findIn X' h1
  have L2 : Looks M hh (typeLookup (.type "object") (dunderI nm)) none := looks_findIn X' h2
  unfold fillsInplaceSlot
  refine wpAny_bind (Lm'.at ?_)
  rw [hm, List.anyM_cons]
  refine wpAny_bind ?_
  refine wpAny_bind (L1.at ?_)
  refine wpAny_pure ?_
  simp only [Bool.false_eq_true, if_false]
  rw [List.anyM_cons]
  refine wpAny_bind ?_
  refine wpAny_bind (L2.at ?_)
  refine wpAny_pure ?_
  simp only [Bool.false_eq_true, if_false, List.anyM_nil]
  exact wpAny_pure q
/-- what the one turn of a sign gives, both of the class -/
theorem bin1_own {nm : String} {Q : Option Value → Shared → Prop} (F : Fr h₀ L s.heap m) (X₀ : K.In h₀) (I : InstAt s.heap x ox C od) (hb : Looks (model prog w) s.heap (typeOf b) (.ref C)) (hc : selfFirst K C = true)
    (hs : findIn K (.ref C) (PySem.dunder nm) = some (some (.ref f))) (hf : isFn K (.ref f) = true)
    (h : wpAny (model prog w) A (call (.ref f) [.ref x, b]) (PySem.W.CmpBack fun v => Q (some v)) E s) : wpAny (model prog w) A (binaryOp1 nm (.ref x) b) Q E s := by
  have X := X₀.keeps F.keep
  obtain ⟨cd, rest, hcd, hm⟩ := ksp_first hc
  have one := ksp_try X I hs hf h
  obtain ⟨hh, gg, d, tt, os⟩ := s
  have L1 : Looks (model prog w) hh (typeOf (.ref x)) (.ref C) := I.type
  have L3 : Looks (model prog w) hh (fillsNumberSlot (.ref C) nm) true := fills_K X hcd hm hs
  unfold binaryOp1
  refine wpAny_bind (L1.at (wpAny_bind (hb.at (wpAny_bind (L3.at ?_)))))
  simp only [beq_self_eq_true, if_true]
  ksp_lk
  refine wpAny_mono one (fun r s' hr' => ?_) fun _ _ e => e
  obtain ⟨v, rfl, hq⟩ := hr'
  ksp_lk
  exact hq
theorem bin1_int {nm : String} {fo ro rc : Option Value} {Q : Option Value → Shared → Prop} (F : Fr h₀ L s.heap m) (X₀ : K.In h₀) (I : InstAt s.heap x ox C od) (hc : selfFirst K C = true)
    (hs : findIn K (.ref C) (PySem.dunder nm) = some (some (.ref f))) (hf : isFn K (.ref f) = true) (hr : findIn K (.ref C) (dunderR nm) = some rc) (hp : rc = none ∨ ∃ g : Addr, rc = some (.ref g))
    (h1 : findIn K (.type "int") (PySem.dunder nm) = some fo) (h2 : findIn K (.type "int") (dunderR nm) = some ro) (hsub : subIn K (.type "int") (.ref C) = some false)
    (h : wpAny (model prog w) A (call (.ref f) [.ref x, .int n t]) (PySem.W.CmpBack fun v => Q (some v)) E s) : wpAny (model prog w) A (binaryOp1 nm (.ref x) (.int n t)) Q E s := by
  have X := X₀.keeps F.keep
  obtain ⟨cd, rest, hcd, hm⟩ := ksp_first hc
  have one := ksp_try X I hs hf h
  obtain ⟨hh, gg, d, tt, os⟩ := s
  have L1 : Looks (model prog w) hh (typeOf (.ref x)) (.ref C) := I.type
  have L2 : Looks (model prog w) hh (typeOf (.int n t)) (.type "int") := Looks.of_pure rfl
  have L3 : Looks (model prog w) hh (fillsNumberSlot (.ref C) nm) true := fills_K X hcd hm hs
  have L4 : Looks (model prog w) hh (fillsNumberSlot (.type "int") nm) ((fo.isSome && !isSeqSlot fo) || (ro.isSome && !isSeqSlot ro)) := ksp_fillsT X h1 h2
  have L5 : Looks (model prog w) hh (isSubtype (.type "int") (.ref C)) false := looks_subIn X hsub
  have L6 : Looks (model prog w) hh (numberSlotInPython (.ref C) nm) true := ksp_inPy X hs hr hp
  have L7 : Looks (model prog w) hh (numberSlotInPython (.type "int") nm) false := Looks.of_pure rfl
  have L8 : Looks (model prog w) hh (typeLookup (.type "int") (dunderR nm)) ro := looks_findIn X h2
  generalize ((fo.isSome && !isSeqSlot fo) || (ro.isSome && !isSeqSlot ro)) = right at L4
  have hne : (Value.ref C == Value.type "int") = false := Bool.eq_false_iff.mpr fun q => by cases beq_iff_eq.mp q
  unfold binaryOp1
  refine wpAny_bind (L1.at (wpAny_bind (L2.at (wpAny_bind (L3.at ?_)))))
  simp only [hne, Bool.false_eq_true, if_false]
  cases right <;>
  · ksp_lk
    refine wpAny_mono one (fun r s' hr' => ?_) fun _ _ e => e
    obtain ⟨v, rfl, hq⟩ := hr'
    ksp_lk
    exact hq
/-- x op= b without an __i..__ -/
theorem inplace_by {op : Operator} {Q : Value → Shared → Prop} (X : K.In s.heap) (I : InstAt s.heap x ox C od) (hu : underObject K C = true) (h1 : findIn K (.ref C) (dunderI op.info.2) = some none) (h2 : findIn K (.type "object") (dunderI op.info.2) = some none)
    (h : wpAny (model prog w) A (binaryOp1 op.info.2 (.ref x) b) (fun r s' => ∃ v, r = some v ∧ Q v s') E s) : wpAny (model prog w) A (inplaceOp op (.ref x) b) Q E s := by
  obtain ⟨hh, g, d, tt, os⟩ := s
  have L1 : Looks (model prog w) hh (typeOf (.ref x)) (.ref C) := I.type
  have L2 : Looks (model prog w) hh (fillsInplaceSlot (.ref C) op.info.2 (op == .Add)) false := no_inplace X hu h1 h2
  unfold inplaceOp
  refine wpAny_holding ?_
  refine wpAny_bind (L1.at (wpAny_bind (L2.at ?_)))
  simp only [Bool.false_eq_true, if_false]
  refine wpAny_bind (wpAny_mono h (fun r s' hr => ?_) fun _ _ e => e)
  obtain ⟨v, rfl, hq⟩ := hr
  exact wpAny_pure hq
/-- abs(x) by an own __abs__ -/
theorem abs_own {Q : Value → Shared → Prop} (X : K.In s.heap) (I : InstAt s.heap x ox C od) (hs : findIn K (.ref C) "__abs__" = some (some (.ref f))) (hf : isFn K (.ref f) = true)
    (h : wpAny (model prog w) A.in1 (call (.ref f) [.ref x]) Q E s) : wpAny (model prog w) A (call (.builtin "abs") [.ref x]) Q E s := by
  refine Calls.call_function_entry PyProof.Rows.kind_abs PyProof.Rows.plain_abs PyProof.Rows.entry_abs (PyProof.Rows.args_abs _) ?_
  unfold Builtin.«abs»
  refine wpAny_bind (m := oneArg "abs" ⟨[.ref x], []⟩) (wpAny_pure ?_)
  exact wpAny_bind (special_fn X I hs (beq_iff_eq.mp hf) (wpAny_mono h (fun r s' hr => wpAny_pure ⟨_, rfl, hr⟩) fun _ _ y => y))
/-- bool(x) by an own __bool__ -/
theorem bool_own {Q : Value → Shared → Prop} (F : Fr h₀ L s.heap m) (X₀ : K.In h₀) (I : InstAt s.heap x ox C od) (hs : findIn K (.ref C) "__bool__" = some (some (.ref f))) (hf : isFn K (.ref f) = true)
    (h : wpAny (model prog w) A.in1.in1 (call (.ref f) [.ref x]) (PySem.W.BoolBack fun b s' => Q (.bool b) s') E s) : wpAny (model prog w) A (call (.type "bool") [.ref x]) Q E s := by
  have tr := truthy_K (M := model prog w) (Q := fun b s' => Q (.bool b) s') F X₀ I hs hf h
  refine callType_codes (T := "bool") (Bi := Builtin.«object.__init__») (Q₁ := fun r s₁ => ∃ b, r = Value.bool b ∧ Q r s₁) PySem.F.called_bool (PySem.F.typeCall_bool_1 _) PySem.F.entry_object_init ?_ ?_
  · refine codeAny_of_tree ?_
    show wpAny _ A.in1.in1 (do checkBuiltinCall "bool.__new__" ⟨[.type "bool", .ref x], []⟩; again (.builtin "bool.__new__" ⟨[.type "bool", .ref x], []⟩)) _ _ s
    refine wpAny_bind (wpAny_of_eq (PySem.F.newCall_bool_1 _) (wpAny_pure ⟨plainId_quiet (by decide +kernel) _, codeAny_builtin PySem.F.entry_bool_new ?_⟩))
    rw [Around.under_plainId (by decide +kernel) _]
    unfold Builtin.«bool.__new__»
    have f1 := PySem.F.conv_sub_bool
    obtain ⟨hp, g, d, tk, os⟩ := s
    repeat (any_goals (first | assumption | (with_reducible refine wpAny_mono tr (fun b s' hb => ?_) fun _ _ e => e) | wp_step))
    exact ⟨_, rfl, hb⟩
  · rintro obj s₁ ⟨b, rfl, hq⟩
    exact ⟨PySem.typeIs_bool _ _, PySem.F.args_object_init_2 _ _, object_init_meets PySem.F.called_bool.init.lookup PySem.F.called_bool.made (by decide) prog w A.in1 _ s₁ ⟨PySem.typeIs_bool _ _, rfl, hq⟩⟩
end
end Trk

namespace Trk
open PySem L2 Evl

/-! ### what a value is, whatever its address -/
inductive D where
  | v (x : V)
  | obj (C : Addr) (fs : List (Str × D))
  | lst (xs : List D)
  | scr (ns : List Int)
  | tup (xs : List D)
  | exc (C : Addr) (fs : List (Str × D))
  | ced (a : Addr) (d : Option Addr) (fs : List (Str × D))
/-- at a stands an exception of the class C with the dict d -/
def IsX (a C : Addr) (d : Option Addr) (o : HO) : Prop := ∀ (P : Program) (w : World) (H : Hp) (h : Heap), ObjOk P w H h a o → ∃ (oe : Obj) (vs : Array Value), h.get? a = some oe ∧ Zc (.ref C) d oe ∧ oe.data = .fields vs
mutual
def Den (K : PySem.W.Frag) (H : Hp) : D → V → Prop
  | .v x, y => y = x
  | .obj C fs, y => ∃ a dx gs, y = .ref a ∧ H a = some (.ins C dx gs) ∧ DenF K H fs gs
  | .lst xs, y => ∃ a ys, y = .ref a ∧ H a = some (.lst ys) ∧ DenL K H xs ys
  | .scr ns, y => ∃ a, y = .ref a ∧ SqL K H a (ns.map V.int)
  | .tup xs, y => ∃ a ys, y = .ref a ∧ SqT K H a ys ∧ DenL K H xs ys
  | .exc C fs, y => ∃ a o, y = .ref a ∧ H a = some o ∧ ((fs = [] ∧ IsX a C none o) ∨ ∃ dd gs, fs ≠ [] ∧ IsX a C (some dd) o ∧ H dd = some (exd dd gs) ∧ DenF K H fs gs)
  | .ced a d fs, y => y = .ref a ∧ ((fs = [] ∧ d = none) ∨ ∃ dd gs, fs ≠ [] ∧ d = some dd ∧ H dd = some (.xd gs) ∧ DenF K H fs gs)
def DenL (K : PySem.W.Frag) (H : Hp) : List D → List V → Prop
  | [], ys => ys = []
  | x :: xs, ys => ∃ z zs, ys = z :: zs ∧ Den K H x z ∧ DenL K H xs zs
def DenF (K : PySem.W.Frag) (H : Hp) : List (Str × D) → List (Str × V) → Prop
  | [], ys => ys = []
  | (f, x) :: xs, ys => ∃ z zs, ys = (f, z) :: zs ∧ Den K H x z ∧ DenF K H xs zs
end
section
variable {K : PySem.W.Frag} {H H' : Hp}
mutual
theorem Den.mono (e : Ex H H') : ∀ {d : D} {y : V}, Den K H d y → Den K H' d y
  | .v x, y, h => by
    simp only [Den] at h ⊢
    exact h
  | .obj C fs, y, h => by
    simp only [Den] at h ⊢
    obtain ⟨a, dx, gs, h1, h2, h3⟩ := h
    exact ⟨a, dx, gs, h1, e _ _ h2, DenF.mono e h3⟩
  | .lst xs, y, h => by
    simp only [Den] at h ⊢
    obtain ⟨a, ys, h1, h2, h3⟩ := h
    exact ⟨a, ys, h1, e _ _ h2, DenL.mono e h3⟩
  | .scr ns, y, h => by
    simp only [Den] at h ⊢
    obtain ⟨a, h1, h2⟩ := h
    exact ⟨a, h1, ex_l e h2⟩
  | .tup xs, y, h => by
    simp only [Den] at h ⊢
    obtain ⟨a, ys, h1, h2, h3⟩ := h
    exact ⟨a, ys, h1, ex_t e h2, DenL.mono e h3⟩
  | .exc C fs, y, h => by
    simp only [Den] at h ⊢
    obtain ⟨a, o, h1, h2, h3⟩ := h
    refine ⟨a, o, h1, e _ _ h2, ?_⟩
    rcases h3 with h3 | ⟨dd, gs, h4, h5, h6, h7⟩
    · exact .inl h3
    · exact .inr ⟨dd, gs, h4, h5, e _ _ h6, DenF.mono e h7⟩
  | .ced a d fs, y, h => by
    simp only [Den] at h ⊢
    obtain ⟨h1, h3⟩ := h
    refine ⟨h1, ?_⟩
    rcases h3 with h3 | ⟨dd, gs, h4, h5, h6, h7⟩
    · exact .inl h3
    · exact .inr ⟨dd, gs, h4, h5, e _ _ h6, DenF.mono e h7⟩
theorem DenL.mono (e : Ex H H') : ∀ {ds : List D} {ys : List V}, DenL K H ds ys → DenL K H' ds ys
  | [], ys, h => by
    simp only [DenL] at h ⊢
    exact h
  | x :: xs, ys, h => by
    simp only [DenL] at h ⊢
    obtain ⟨z, zs, h1, h2, h3⟩ := h
    exact ⟨z, zs, h1, Den.mono e h2, DenL.mono e h3⟩
theorem DenF.mono (e : Ex H H') : ∀ {ds : List (Str × D)} {ys : List (Str × V)}, DenF K H ds ys → DenF K H' ds ys
  | [], ys, h => by
    simp only [DenF] at h ⊢
    exact h
  | (f, x) :: xs, ys, h => by
    simp only [DenF] at h ⊢
    obtain ⟨z, zs, h1, h2, h3⟩ := h
    exact ⟨z, zs, h1, Den.mono e h2, DenF.mono e h3⟩
end
theorem den_v {x y : V} : Den K H (.v x) y ↔ y = x := by simp only [Den]
theorem DenL.cons {d : D} {ds : List D} {x : V} {xs : List V} (h : Den K H d x) (t : DenL K H ds xs) : DenL K H (d :: ds) (x :: xs) := by
  simp only [DenL]
  exact ⟨x, xs, rfl, h, t⟩
theorem DenL.nil : DenL K H [] [] := by simp only [DenL]
theorem DenL.len : ∀ {ds : List D} {ys : List V}, DenL K H ds ys → ds.length = ys.length
  | [], ys, h => by
    simp only [DenL] at h
    subst h
    rfl
  | x :: xs, ys, h => by
    simp only [DenL] at h
    obtain ⟨z, zs, h1, h2, h3⟩ := h
    rw [h1, List.length_cons, List.length_cons, DenL.len h3]
theorem DenL.get : ∀ {ds : List D} {ys : List V} {i : Nat} {d : D}, DenL K H ds ys → ds[i]? = some d → ∃ y, ys[i]? = some y ∧ Den K H d y
  | [], ys, i, d, h, e => by simp at e
  | x :: xs, ys, 0, d, h, e => by
    simp only [DenL] at h
    obtain ⟨z, zs, h1, h2, h3⟩ := h
    subst h1
    simp at e
    subst e
    exact ⟨z, by simp, h2⟩
  | x :: xs, ys, i + 1, d, h, e => by
    simp only [DenL] at h
    obtain ⟨z, zs, h1, h2, h3⟩ := h
    subst h1
    obtain ⟨y, h4, h5⟩ := DenL.get (i := i) (d := d) h3 (by simpa using e)
    exact ⟨y, by simpa using h4, h5⟩
theorem denL_two {d e : D} {ys : List V} (h : DenL K H [d, e] ys) : ∃ x y, ys = [x, y] ∧ Den K H d x ∧ Den K H e y := by
  simp only [DenL] at h
  obtain ⟨x, _, rfl, h1, y, _, rfl, h2, rfl⟩ := h
  exact ⟨x, y, rfl, h1, h2⟩
theorem denL_one {d : D} {ys : List V} (h : DenL K H [d] ys) : ∃ x, ys = [x] ∧ Den K H d x := by
  simp only [DenL] at h
  obtain ⟨x, _, rfl, h1, rfl⟩ := h
  exact ⟨x, rfl, h1⟩
end

/-! ### slots -/
abbrev Gm := List (Option D)
def Ctx (K : PySem.W.Frag) (H : Hp) (Γ : Gm) (σ : L2.St) : Prop := ∀ (i : Nat) (d : D), Γ[i]? = some (some d) → ∃ v, σ[i]? = some (some v) ∧ Den K H d v
theorem Ctx.mono {K : PySem.W.Frag} {H H' : Hp} {Γ : Gm} {σ : L2.St} (e : Ex H H') (c : Ctx K H Γ σ) : Ctx K H' Γ σ := fun i d h => by
  obtain ⟨v, h1, h2⟩ := c i d h
  exact ⟨v, h1, h2.mono e⟩
theorem Ctx.set {K : PySem.W.Frag} {H : Hp} {Γ : Gm} {σ : L2.St} {i : Nat} {d : D} {v : V} (c : Ctx K H Γ σ) (hi : i < σ.length) (h : Den K H d v) : Ctx K H (Γ.set i (some d)) (σ.set i (some v)) := fun j d' e => by
  by_cases hj : i = j
  · subst hj
    rw [List.getElem?_set] at e
    simp only [if_true] at e
    split at e
    · cases Option.some.inj (Option.some.inj e)
      exact ⟨v, List.getElem?_set_self hi, h⟩
    · cases e
  · rw [List.getElem?_set_ne hj] at e
    obtain ⟨w, h1, h2⟩ := c j d' e
    exact ⟨w, by rw [List.getElem?_set_ne hj]; exact h1, h2⟩

/-! ### the judgements -/
section
variable (X : Cx)
def ED (e : Expr) (Γ : Gm) (d : D) : Prop := ∃ t, PE X e t ∧ ∀ σ H, Ctx X.K H Γ σ → ∀ Q : VK, (∀ v H', Ex H H' → Den X.K H' d v → Q v H') → t σ H Q
def TD (e : Expr) (Γ : Gm) (b : Bool) : Prop := ∃ t, PT X e t ∧ ∀ σ H, Ctx X.K H Γ σ → ∀ Q : Bool → Hp → Prop, (∀ H', Ex H H' → Q b H') → t σ H Q
def WD (e : Expr) (Γ : Gm) (b : Bool) : Prop := ∃ t, PW X e t ∧ ∀ σ H, Ctx X.K H Γ σ → ∀ Q : Bool → Hp → Prop, (∀ H', Ex H H' → Q b H') → t σ H Q
def AD (es : List Expr) (Γ : Gm) (ds : List D) : Prop := ∃ t, PA X es t ∧ ∀ σ H, Ctx X.K H Γ σ → ∀ Q : List V → Hp → Prop, (∀ vs H', Ex H H' → DenL X.K H' ds vs → Q vs H') → t σ H Q
end
inductive Out where
  | nx (Γ : Gm)
  | rt (d : D)
  | bk (Γ : Gm)
  | ct (Γ : Gm)
  | ex (cls : Value) (fs : List (Str × D)) (Γ : Gm)
/-- what X takes of an exception -/
def W0 (X : Cx) : WX := fun cls d σ H => ∀ u s', XE X (fun c d' σ' H' => c = cls ∧ d' = d ∧ σ' = σ ∧ H' = H) u s' → X.xe u s'
theorem tk0 {X : Cx} : L2.Takes X (W0 X) := fun u s' ⟨a, B, sI, pins, σ, H, cls, d, e, I, nb, up, sky, na, os, ag, w⟩ => w u s' ⟨a, B, sI, pins, σ, H, cls, d, e, I, nb, up, sky, na, os, ag, rfl, rfl, rfl, rfl⟩
theorem w0_of {X : Cx} {W : WX} {cls : Value} {d : Option Addr} {σ : L2.St} {H : Hp} (tk : L2.Takes X W) (h : W cls d σ H) : W0 X cls d σ H := fun u s' ⟨a, B, sI, pins, σ', H', cls', d', e, I, nb, up, sky, na, os, ag, h1, h2, h3, h4⟩ => by
  subst h1; subst h2; subst h3; subst h4
  exact tk u s' ⟨a, B, sI, pins, _, _, _, _, e, I, nb, up, sky, na, os, ag, h⟩
/-- what the exception bears -/
def DenX (K : PySem.W.Frag) (H : Hp) (d : Option Addr) (fs : List (Str × D)) : Prop := (fs = [] ∧ d = none) ∨ ∃ dd gs, fs ≠ [] ∧ d = some dd ∧ H dd = some (.xd gs) ∧ DenF K H fs gs
theorem DenX.mono {K : PySem.W.Frag} {H H' : Hp} {d : Option Addr} {fs : List (Str × D)} (e : Ex H H') (h : DenX K H d fs) : DenX K H' d fs := by
  rcases h with h | ⟨dd, gs, h0, h1, h2, h3⟩
  · exact .inl h
  · exact .inr ⟨dd, gs, h0, h1, e _ _ h2, h3.mono e⟩
/-- where the ends take what Φ says -/
structure Tk (X : Cx) (H : Hp) (Φ : Out → Prop) (E : Ends) : Prop where
  nx : ∀ Γ σ H', Φ (.nx Γ) → Ex H H' → σ.length = X.N.length → Ctx X.K H' Γ σ → E.nx σ H'
  rt : ∀ d v H', Φ (.rt d) → Ex H H' → Den X.K H' d v → E.rt v H'
  bk : ∀ Γ σ H', Φ (.bk Γ) → Ex H H' → σ.length = X.N.length → Ctx X.K H' Γ σ → E.bk σ H'
  ct : ∀ Γ σ H', Φ (.ct Γ) → Ex H H' → σ.length = X.N.length → Ctx X.K H' Γ σ → E.ct σ H'
  ex : ∀ cls fs Γ d σ H', Φ (.ex cls fs Γ) → Ex H H' → σ.length = X.N.length → Ctx X.K H' Γ σ → DenX X.K H' d fs → W0 X cls d σ H'
theorem Tk.mono {X : Cx} {H H' : Hp} {Φ : Out → Prop} {E : Ends} (e : Ex H H') (t : Tk X H Φ E) : Tk X H' Φ E :=
  ⟨fun Γ σ H2 h e2 => t.nx Γ σ H2 h (e.trans e2), fun d v H2 h e2 => t.rt d v H2 h (e.trans e2), fun Γ σ H2 h e2 => t.bk Γ σ H2 h (e.trans e2), fun Γ σ H2 h e2 => t.ct Γ σ H2 h (e.trans e2), fun c fs Γ d σ H2 h e2 => t.ex c fs Γ d σ H2 h (e.trans e2)⟩
section
variable (X : Cx)
def SD (st : Stmt) (Γ : Gm) (Φ : Out → Prop) : Prop := ∃ t, PS X st t ∧ ∀ σ H, σ.length = X.N.length → Ctx X.K H Γ σ → ∀ E : Ends, Tk X H Φ E → t E σ H
def SsD (st : List Stmt) (Γ : Gm) (Φ : Out → Prop) : Prop := ∃ t, PSs X st t ∧ ∀ σ H, σ.length = X.N.length → Ctx X.K H Γ σ → ∀ E : Ends, Tk X H Φ E → t E σ H
end

section
variable {X : Cx} {Γ : Gm} {d d1 d2 : D} {e a b c : Expr} {es : List Expr} {pos : Pos} {st : Stmt} {sts rest : List Stmt} {Φ Ψ : Out → Prop}

/-! ### expressions -/
theorem ed_var (i : Nat) {x : Str} (h : Γ[i]? = some (some d)) (hN : X.N[i]? = some x := by rfl) (hv : Vis X.env.scope x := by first | exact Or.inl rfl | exact Or.inr (Or.inl rfl) | exact Or.inr (Or.inr rfl)) (hd : (x == ("__debug__" : Str)) = false := by decide)
    (hcd : (x == ("__classdict__" : Str)) = false := by decide) : ED X (.Name x pos) Γ d := by
  refine ⟨_, pe_var hN hv hd hcd, fun σ H C Q q => ?_⟩
  obtain ⟨v, h1, h2⟩ := C i d h
  exact ⟨v, h1, q v H (Ex.refl H) h2⟩
theorem ed_int {n : Int} {j : Nat} : ED X (.Constant (.int n) j pos) Γ (.v (.int n)) := ⟨_, pe_int, fun σ H C Q q => q _ H (Ex.refl H) (den_v.mpr rfl)⟩
theorem ed_bl {n : Bool} {j : Nat} : ED X (.Constant (.bool n) j pos) Γ (.v (.bl n)) := ⟨_, pe_bl, fun σ H C Q q => q _ H (Ex.refl H) (den_v.mpr rfl)⟩
theorem ed_non {j : Nat} : ED X (.Constant .none j pos) Γ (.v .non) := ⟨_, pe_non, fun σ H C Q q => q _ H (Ex.refl H) (den_v.mpr rfl)⟩
theorem ed_str {x : Str} {j : Nat} : ED X (.Constant (.str x) j pos) Γ (.v (.str x)) := ⟨_, pe_str, fun σ H C Q q => q _ H (Ex.refl H) (den_v.mpr rfl)⟩
theorem ed_is (h : ED X e Γ d1) (q : d1 = d) : ED X e Γ d := q ▸ h

/-- what an operation by values gives -/
def RD (K : PySem.W.Frag) (r : R2) (d1 d2 d : D) : Prop := ∀ x y H, Den K H d1 x → Den K H d2 y → ∀ Q : VK, (∀ v H', Ex H H' → Den K H' d v → Q v H') → r x y H Q
def UD (K : PySem.W.Frag) (r : V → Hp → VK → Prop) (d1 d : D) : Prop := ∀ x H, Den K H d1 x → ∀ Q : VK, (∀ v H', Ex H H' → Den K H' d v → Q v H') → r x H Q
def CD (K : PySem.W.Frag) (r : List V → Hp → VK → Prop) (ds : List D) (d : D) : Prop := ∀ xs H, DenL K H ds xs → ∀ Q : VK, (∀ v H', Ex H H' → Den K H' d v → Q v H') → r xs H Q
theorem ed_op {op : Operator} {r : R2} (ho : OpR X (binaryOp op) r) (ha : ED X a Γ d1) (hb : ED X b Γ d2) (hr : RD X.K r d1 d2 d) : ED X (.BinOp a op b pos) Γ d := by
  obtain ⟨ta, pa, qa⟩ := ha
  obtain ⟨tb, pb, qb⟩ := hb
  refine ⟨_, pe_op ho pa pb, fun σ H C Q q => qa σ H C _ fun x H1 e1 h1 => qb σ H1 (C.mono e1) _ fun y H2 e2 h2 => hr x y H2 (h1.mono e2) h2 _ fun v H3 e3 h3 => q v H3 ((e1.trans e2).trans e3) h3⟩
theorem ed_cmp {op : CmpOp} {r : R2} (ho : OpR X (compareOp op) r) (ha : ED X a Γ d1) (hb : ED X b Γ d2) (hr : RD X.K r d1 d2 d) (hm : behindInMarks op b = false := by exact nomark _) : ED X (.Compare a [op] [b] pos) Γ d := by
  obtain ⟨ta, pa, qa⟩ := ha
  obtain ⟨tb, pb, qb⟩ := hb
  refine ⟨_, pe_cmpR ho pa pb hm, fun σ H C Q q => qa σ H C _ fun x H1 e1 h1 => qb σ H1 (C.mono e1) _ fun y H2 e2 h2 => hr x y H2 (h1.mono e2) h2 _ fun v H3 e3 h3 => q v H3 ((e1.trans e2).trans e3) h3⟩
theorem td_cmp {op : CmpOp} {r : R2} {k : Bool} (ho : OpR X (compareOp op) r) (ha : ED X a Γ d1) (hb : ED X b Γ d2) (hr : RD X.K r d1 d2 (.v (.bl k))) (hm : behindInMarks op b = false := by exact nomark _) : TD X (.Compare a [op] [b] pos) Γ k := by
  obtain ⟨ta, pa, qa⟩ := ha
  obtain ⟨tb, pb, qb⟩ := hb
  refine ⟨_, pt_cmpR ho pa pb hm, fun σ H C Q q => qa σ H C _ fun x H1 e1 h1 => qb σ H1 (C.mono e1) _ fun y H2 e2 h2 => hr x y H2 (h1.mono e2) h2 _ fun v H3 e3 h3 => ⟨k, den_v.mp h3, q H3 ((e1.trans e2).trans e3)⟩⟩
theorem ed_un {op : UnaryOp} {r : V → Hp → VK → Prop} (ho : UnR X (unaryOp op) r) (ha : ED X a Γ d1) (hr : UD X.K r d1 d) : ED X (.UnaryOp op a pos) Γ d := by
  obtain ⟨ta, pa, qa⟩ := ha
  exact ⟨_, pe_un ho pa, fun σ H C Q q => qa σ H C _ fun x H1 e1 h1 => hr x H1 h1 _ fun v H3 e3 h3 => q v H3 (e1.trans e3) h3⟩

section
variable {K : PySem.W.Frag} {i j : Int}
theorem rd_I0 {g : Int → Int → V} : RD K (rI0 g) (.v (.int i)) (.v (.int j)) (.v (g i j)) := fun x y H h1 h2 Q q => ⟨i, j, den_v.mp h1, den_v.mp h2, q _ H (Ex.refl H) (den_v.mpr rfl)⟩
theorem rd_I {C : Int → Int → Prop} {g : Int → Int → V} (hc : C i j) : RD K (rI C g) (.v (.int i)) (.v (.int j)) (.v (g i j)) := fun x y H h1 h2 Q q => ⟨i, j, den_v.mp h1, den_v.mp h2, hc, q _ H (Ex.refl H) (den_v.mpr rfl)⟩
theorem ud_neg : UD K (rU fun i => .int (-i)) (.v (.int i)) (.v (.int (-i))) := fun x H h1 Q q => ⟨i, den_v.mp h1, q _ H (Ex.refl H) (den_v.mpr rfl)⟩
theorem rd_eq {x y : V} (h : scal x y = true) : RD K rEq (.v x) (.v y) (.v (.bl (decide (x = y)))) := fun a b H h1 h2 Q q => by
  rw [den_v.mp h1, den_v.mp h2]
  exact ⟨h, q _ H (Ex.refl H) (den_v.mpr rfl)⟩
theorem rd_ne {x y : V} (h : scal x y = true) : RD K rNe (.v x) (.v y) (.v (.bl (!decide (x = y)))) := fun a b H h1 h2 Q q => by
  rw [den_v.mp h1, den_v.mp h2]
  exact ⟨h, q _ H (Ex.refl H) (den_v.mpr rfl)⟩
end

/-! ### tests -/
theorem td_val {b : Bool} (h : ED X e Γ (.v (.bl b))) (he : ∀ whole, isTrue e X.env whole = (do let v ← whole; standAt e.pos; holding [v] (truthy v)) := by intro _; rfl) : TD X e Γ b := by
  obtain ⟨t, p, q⟩ := h
  exact ⟨_, pt_val p he, fun σ H C Q k => q σ H C _ fun v H1 e1 h1 => ⟨b, den_v.mp h1, k H1 e1⟩⟩
theorem td_not {k : Bool} (h : TD X a Γ k) : TD X (.UnaryOp .Not a pos) Γ (!k) := by
  obtain ⟨t, p, q⟩ := h
  exact ⟨_, pt_not p, fun σ H C Q r => q σ H C _ fun H1 e1 => r H1 e1⟩
theorem wd_and1 {k : Bool} (h : TD X a Γ k) : WD X (.BoolOp .And [a] pos) Γ k := by
  obtain ⟨t, p, q⟩ := h
  exact ⟨_, pw_and1 p, q⟩
theorem wd_or1 {k : Bool} (h : TD X a Γ k) : WD X (.BoolOp .Or [a] pos) Γ k := by
  obtain ⟨t, p, q⟩ := h
  exact ⟨_, pw_or1 p, q⟩
theorem pw_never : PW X e (fun _ _ _ => False) := ⟨fun _ _ _ _ _ _ _ h => h.elim⟩
theorem pt_never : PT X e (fun _ _ _ => False) := ⟨fun _ _ _ _ _ _ h => h.elim⟩
theorem pe_never : PE X e (fun _ _ _ => False) := ⟨fun _ _ _ _ _ _ h => h.elim⟩
theorem pss_nv : PSs X sts (fun _ _ _ => False) := ⟨fun _ _ _ _ _ _ h => h.elim⟩
theorem ps_nv : PS X st (fun _ _ _ => False) := ⟨fun _ _ _ _ _ _ h => h.elim⟩
/-- a and ..: a False -/
theorem wd_andF (h : TD X a Γ false) : WD X (.BoolOp .And (a :: b :: es) pos) Γ false := by
  obtain ⟨t, p, q⟩ := h
  exact ⟨_, pw_and p pw_never, fun σ H C Q r => q σ H C _ fun H1 e1 => r H1 e1⟩
theorem wd_andT {k : Bool} (h : TD X a Γ true) (h2 : WD X (.BoolOp .And (b :: es) pos) Γ k) : WD X (.BoolOp .And (a :: b :: es) pos) Γ k := by
  obtain ⟨t, p, q⟩ := h
  obtain ⟨t2, p2, q2⟩ := h2
  exact ⟨_, pw_and p p2, fun σ H C Q r => q σ H C _ fun H1 e1 => q2 σ H1 (C.mono e1) Q fun H2 e2 => r H2 (e1.trans e2)⟩
theorem wd_orT (h : TD X a Γ true) : WD X (.BoolOp .Or (a :: b :: es) pos) Γ true := by
  obtain ⟨t, p, q⟩ := h
  exact ⟨_, pw_or p pw_never, fun σ H C Q r => q σ H C _ fun H1 e1 => r H1 e1⟩
theorem wd_orF {k : Bool} (h : TD X a Γ false) (h2 : WD X (.BoolOp .Or (b :: es) pos) Γ k) : WD X (.BoolOp .Or (a :: b :: es) pos) Γ k := by
  obtain ⟨t, p, q⟩ := h
  obtain ⟨t2, p2, q2⟩ := h2
  exact ⟨_, pw_or p p2, fun σ H C Q r => q σ H C _ fun H1 e1 => q2 σ H1 (C.mono e1) Q fun H2 e2 => r H2 (e1.trans e2)⟩
theorem WD.td {k : Bool} (h : WD X e Γ k) : TD X e Γ k := by
  obtain ⟨t, p, q⟩ := h
  exact ⟨t, p.pt, q⟩
/-- and, or, not as values -/
theorem ed_not {k : Bool} (h : ED X a Γ (.v (.bl k))) : ED X (.UnaryOp .Not a pos) Γ (.v (.bl (!k))) := by
  obtain ⟨t, p, q⟩ := h
  exact ⟨_, pe_not p, fun σ H C Q r => q σ H C _ fun v H1 e1 h1 => ⟨k, den_v.mp h1, r _ H1 e1 (den_v.mpr rfl)⟩⟩
theorem ed_one {op} (h : ED X a Γ d) : ED X (.BoolOp op [a] pos) Γ d := by
  obtain ⟨t, p, q⟩ := h
  exact ⟨_, pe_one p, q⟩
theorem ed_andT {d : D} (h : ED X a Γ (.v (.bl true))) (h2 : ED X (.BoolOp .And (b :: es) pos) Γ d) : ED X (.BoolOp .And (a :: b :: es) pos) Γ d := by
  obtain ⟨t, p, q⟩ := h
  obtain ⟨t2, p2, q2⟩ := h2
  exact ⟨_, pe_and p p2, fun σ H C Q r => q σ H C _ fun v H1 e1 h1 => ⟨true, den_v.mp h1, q2 σ H1 (C.mono e1) Q fun w H2 e2 h3 => r w H2 (e1.trans e2) h3⟩⟩
theorem ed_andF (h : ED X a Γ (.v (.bl false))) : ED X (.BoolOp .And (a :: b :: es) pos) Γ (.v (.bl false)) := by
  obtain ⟨t, p, q⟩ := h
  exact ⟨_, pe_and p pe_never, fun σ H C Q r => q σ H C _ fun v H1 e1 h1 => ⟨false, den_v.mp h1, r _ H1 e1 (den_v.mpr rfl)⟩⟩
theorem ed_orF {d : D} (h : ED X a Γ (.v (.bl false))) (h2 : ED X (.BoolOp .Or (b :: es) pos) Γ d) : ED X (.BoolOp .Or (a :: b :: es) pos) Γ d := by
  obtain ⟨t, p, q⟩ := h
  obtain ⟨t2, p2, q2⟩ := h2
  exact ⟨_, pe_or p p2, fun σ H C Q r => q σ H C _ fun v H1 e1 h1 => ⟨false, den_v.mp h1, q2 σ H1 (C.mono e1) Q fun w H2 e2 h3 => r w H2 (e1.trans e2) h3⟩⟩
theorem ed_orT (h : ED X a Γ (.v (.bl true))) : ED X (.BoolOp .Or (a :: b :: es) pos) Γ (.v (.bl true)) := by
  obtain ⟨t, p, q⟩ := h
  exact ⟨_, pe_or p pe_never, fun σ H C Q r => q σ H C _ fun v H1 e1 h1 => ⟨true, den_v.mp h1, r _ H1 e1 (den_v.mpr rfl)⟩⟩

/-! ### arguments, displays, calls -/
theorem ad_nil : AD X [] Γ [] := ⟨_, pa_nil, fun σ H C Q r => r [] H (Ex.refl H) DenL.nil⟩
theorem ad_cons {ds : List D} (h : ED X e Γ d) (h2 : AD X es Γ ds) (hs : starEach (e :: es) X.env = (false, eval e X.env) :: starEach es X.env := by rfl) : AD X (e :: es) Γ (d :: ds) := by
  obtain ⟨t, p, q⟩ := h
  obtain ⟨t2, p2, q2⟩ := h2
  exact ⟨_, pa_cons p p2 hs, fun σ H C Q r => q σ H C _ fun v H1 e1 h1 => q2 σ H1 (C.mono e1) _ fun vs H2 e2 h2 => r _ H2 (e1.trans e2) (DenL.cons (h1.mono e2) h2)⟩
theorem ed_lst {ds : List D} (h : AD X es Γ ds) (hl : ds.length ≤ 100000 := by exact Nat.le_of_ble_eq_true rfl) : ED X (.List es pos) Γ (.lst ds) := by
  obtain ⟨t, p, q⟩ := h
  refine ⟨_, pe_lst p, fun σ H C Q r => q σ H C _ fun vs H1 e1 h1 => ⟨by rw [← h1.len]; exact sz_of hl, fun l hn => ?_⟩⟩
  refine r (.ref l) _ (e1.trans (Ex.new hn)) ?_
  simp only [Den]
  exact ⟨l, vs, rfl, upd_same, h1.mono (Ex.new hn)⟩
theorem ed_tup {ds : List D} {x1} (h : AD X es Γ ds) (hl : ds.length ≤ 100000 := by exact Nat.le_of_ble_eq_true rfl) : ED X (.Tuple es x1 pos) Γ (.tup ds) := by
  obtain ⟨t, p, q⟩ := h
  refine ⟨_, pe_tup p, fun σ H C Q r => q σ H C _ fun vs H1 e1 h1 => ⟨by rw [← h1.len]; exact sz_of hl, fun l hn => ?_⟩⟩
  refine r (.ref l) _ (e1.trans (Ex.new hn)) ?_
  simp only [Den]
  exact ⟨l, vs, rfl, st_of upd_same, h1.mono (Ex.new hn)⟩
/-- the promise of a def that only makes things: from such arguments such a result -/
def spD (K : PySem.W.Frag) (n : Nat) (R : List D → D → Prop) : Sp := fun vs H Q _ => ∃ ds d, ds.length = n ∧ DenL K H ds vs ∧ R ds d ∧ ∀ v H', Ex H H' → Den K H' d v → Q v H'
theorem spD_len {K : PySem.W.Frag} {n : Nat} {R : List D → D → Prop} {vs : List V} {H : Hp} {Q : VK} {E : XK} (h : spD K n R vs H Q E) : vs.length = n := by
  obtain ⟨ds, d, h1, h2, _⟩ := h
  rw [← h2.len, h1]
theorem ed_call {CX : CXT} {k n : Nat} {f : Addr} {fd : FuncData} {ps : List Str} {R : List D → D → Prop} {E : XK} {x : Str} {p : Pos} {ds : List D} (F : FnOk X.prog X.w X.K X.mg X.base CX k f fd ps (spD X.K n R)) (hr : Room k X.A) (hm : X.mg x = some (.ref f))
    (hk : PySem.W.keepIn X.K (.ref f) = true) (hb : Binds X.K fd ps []) (hx : Passes CX X E) (ha : AD X (e :: es) Γ ds) (hR : R ds d) (hn : ds.length = n := by rfl) (hg : Gl X x := by rfl) (hdb : (x == ("__debug__" : Str)) = false := by decide)
    (he : starEach (e :: es) X.env = (false, eval e X.env) :: starEach es X.env := by rfl) (hpl : (backTo pos (starEach es X.env)).any (·.1) = false := by rfl) : ED X (.Call (.Name x p) (e :: es) [] pos) Γ d := by
  obtain ⟨t, p, q⟩ := ha
  refine ⟨_, pe_call F hr hg hm hk hb .nil hx p hdb he hpl, fun σ H C Q r => q σ H C _ fun vs H1 e1 h1 => ?_⟩
  rw [List.append_nil]
  exact ⟨ds, d, hn, h1, hR, fun v H' e2 h2 => r v H' (e1.trans e2) h2⟩
/-- a built-in called by its name -/
theorem ed_callB {r : List V → Hp → VK → Prop} {id : String} {x : Str} {p : Pos} {ds : List D} (hc : CallR X (.builtin id) r) (hm : X.mg x = none) (hv : bootBuiltins x = some (.builtin id)) (ha : AD X (e :: es) Γ ds) (hr : CD X.K r ds d) (hg : Gl X x := by rfl)
    (hn : x ≠ "__name__" := by decide) (hdb : (x == ("__debug__" : Str)) = false := by decide) (he : starEach (e :: es) X.env = (false, eval e X.env) :: starEach es X.env := by rfl) (hpl : (backTo pos (starEach es X.env)).any (·.1) = false := by rfl) :
    ED X (.Call (.Name x p) (e :: es) [] pos) Γ d := by
  obtain ⟨t, p, q⟩ := ha
  exact ⟨_, pe_callB hc hg hm hv p hn hdb he hpl, fun σ H C Q k => q σ H C _ fun vs H1 e1 h1 => hr vs H1 h1 Q fun v H' e2 h2 => k v H' (e1.trans e2) h2⟩
theorem ed_callTy {r : List V → Hp → VK → Prop} {T : String} {x : Str} {p : Pos} {ds : List D} (hc : CallR X (.type T) r) (hm : X.mg x = none) (hv : bootBuiltins x = some (.type T)) (ha : AD X (e :: es) Γ ds) (hr : CD X.K r ds d) (hg : Gl X x := by rfl)
    (hn : x ≠ "__name__" := by decide) (hdb : (x == ("__debug__" : Str)) = false := by decide) (he : starEach (e :: es) X.env = (false, eval e X.env) :: starEach es X.env := by rfl) (hpl : (backTo pos (starEach es X.env)).any (·.1) = false := by rfl) :
    ED X (.Call (.Name x p) (e :: es) [] pos) Γ d := by
  obtain ⟨t, p, q⟩ := ha
  exact ⟨_, pe_callTy hc hg hm hv p hn hdb he hpl, fun σ H C Q k => q σ H C _ fun vs H1 e1 h1 => hr vs H1 h1 Q fun v H' e2 h2 => k v H' (e1.trans e2) h2⟩
theorem lookup_put {β : Type} (f g : Str) (y : β) (fs : List (Str × β)) : ((f, y) :: fs).lookup g = if g = f then some y else fs.lookup g := by
  by_cases h : g = f
  · subst h
    simp [List.lookup]
  · have e : (g == f) = false := by simpa using h
    rw [if_neg h]
    simp [List.lookup, e]
/-- o.f -/
theorem ed_fld {C : Addr} {fs : List (Str × D)} {f : Str} {p : Pos} (h : ED X e Γ (.obj C fs)) (hc : Cls X.K C) (hn : NoAttr X.K C f) (hl : fs.lookup f = some d) (hb : attributeBase e f X.env (eval e X.env) = eval e X.env := by rfl) : ED X (.Attribute e f p) Γ d := by
  obtain ⟨t, p, q⟩ := h
  refine ⟨_, pe_fld p hb, fun σ H C Q k => q σ H C _ fun v H1 e1 h1 => ?_⟩
  simp only [Den] at h1
  obtain ⟨a, dx, gs, rfl, h2, h3⟩ := h1
  have key : ∀ {fs : List (Str × D)} {gs : List (Str × V)}, DenF X.K H1 fs gs → fs.lookup f = some d → ∃ y, gs.lookup f = some y ∧ Den X.K H1 d y := by
    intro fs
    induction fs with
    | nil =>
      intro gs _ h
      cases h
    | cons p r ih =>
      intro gs hF hl
      obtain ⟨g, x⟩ := p
      simp only [DenF] at hF
      obtain ⟨z, zs, rfl, hz, hzs⟩ := hF
      rw [lookup_put] at hl ⊢
      by_cases hfg : f = g
      · rw [if_pos hfg] at hl ⊢
        cases hl
        exact ⟨z, rfl, hz⟩
      · rw [if_neg hfg] at hl ⊢
        exact ih hzs hl
  obtain ⟨y, h4, h5⟩ := key h3 hl
  exact ⟨a, _, dx, gs, y, rfl, h2, hc, hn, h4, k y H1 e1 h5⟩

/-! ### statements -/
theorem ss_nil (h : Φ (.nx Γ)) : SsD X [] Γ Φ := ⟨_, pss_nil, fun σ H hl C E T => T.nx Γ σ H h (Ex.refl H) hl C⟩
theorem Tk.imp {H : Hp} {E : Ends} (h : ∀ o, Ψ o → Φ o) (t : Tk X H Φ E) : Tk X H Ψ E :=
  ⟨fun Γ σ H2 z => t.nx Γ σ H2 (h _ z), fun d v H2 z => t.rt d v H2 (h _ z), fun Γ σ H2 z => t.bk Γ σ H2 (h _ z), fun Γ σ H2 z => t.ct Γ σ H2 (h _ z), fun c fs Γ d σ H2 z => t.ex c fs Γ d σ H2 (h _ z)⟩
/-- a statement, then the rest -/
theorem ss_seq (h : SD X st Γ Ψ) (hn : ∀ Γ', Ψ (.nx Γ') → SsD X sts Γ' Φ) (ho : ∀ o, (∀ Γ', o ≠ .nx Γ') → Ψ o → Φ o) : SsD X (st :: sts) Γ Φ := by
  obtain ⟨t, p, q⟩ := h
  by_cases hs : ∃ Γ', Ψ (.nx Γ')
  · let u : TS := fun E σ H => ∃ Γ', Ψ (.nx Γ') ∧ σ.length = X.N.length ∧ Ctx X.K H Γ' σ ∧ Tk X H Φ E
    have pu : PSs X sts u := ⟨fun pins s σ H E I ⟨Γ', h1, h2, h3, h4⟩ => by
      obtain ⟨t', p', q'⟩ := hn Γ' h1
      exact p'.run pins s σ H E I (q' σ H h2 h3 E h4)⟩
    refine ⟨_, pss_cons p pu, fun σ H hl C E T => q σ H hl C _ ⟨fun Γ' σ' H' h1 e1 h2 h3 => ⟨Γ', h1, h2, h3, T.mono e1⟩, fun d v H' h1 => T.rt d v H' (ho _ (fun _ z => by cases z) h1), fun Γ' σ' H' h1 => T.bk Γ' σ' H' (ho _ (fun _ z => by cases z) h1), fun Γ' σ' H' h1 => T.ct Γ' σ' H' (ho _ (fun _ z => by cases z) h1), fun c fs Γ' d σ' H' h1 => T.ex c fs Γ' d σ' H' (ho _ (fun _ z => by cases z) h1)⟩⟩
  · refine ⟨_, pss_cons p pss_nv, fun σ H hl C E T => q σ H hl C _ ⟨fun Γ' σ' H' h1 e1 h2 h3 => absurd ⟨Γ', h1⟩ hs, fun d v H' h1 => T.rt d v H' (ho _ (fun _ z => by cases z) h1), fun Γ' σ' H' h1 => T.bk Γ' σ' H' (ho _ (fun _ z => by cases z) h1), fun Γ' σ' H' h1 => T.ct Γ' σ' H' (ho _ (fun _ z => by cases z) h1), fun c fs Γ' d σ' H' h1 => T.ex c fs Γ' d σ' H' (ho _ (fun _ z => by cases z) h1)⟩⟩
theorem sd_asg (i : Nat) {x : Str} {pos' : Pos} (he : ED X e Γ d) (hd : X.N.Nodup) (h : Φ (.nx (Γ.set i (some d)))) (hN : X.N[i]? = some x := by rfl) (hx : Loc X.env.scope x := by first | exact Or.inl rfl | exact Or.inr rfl)
    (hs : swapsWith e (some (.Name x pos')) pos.line X.env = pure false := by rfl) (hf : X.fn x = true ∨ X.env.scope.names.lookup x = some .local := by first | exact .inl rfl | exact .inr rfl) : SD X (.Assign [.Name x pos'] e pos) Γ Φ := by
  obtain ⟨t, p, q⟩ := he
  refine ⟨_, ps_set (i := i) hd hN hx p hs hf, fun σ H hl C E T => q σ H C _ fun v H1 e1 h1 => ?_⟩
  have hi : i < σ.length := by
    rw [hl]
    exact (List.getElem?_eq_some_iff.mp hN).1
  exact T.nx _ _ H1 h e1 (by rw [List.length_set]; exact hl) ((C.mono e1).set hi h1)
theorem sd_ret (he : ED X e Γ d) (h : Φ (.rt d)) : SD X (.Return (some e) pos) Γ Φ := by
  obtain ⟨t, p, q⟩ := he
  exact ⟨_, ps_ret p, fun σ H hl C E T => q σ H C _ fun v H1 e1 h1 => T.rt d v H1 h e1 h1⟩
theorem sd_if {k : Bool} {sa sb : List Stmt} (hc : TD X c Γ k) (ha : k = true → SsD X sa Γ Φ) (hb : k = false → SsD X sb Γ Φ) : SD X (.If c sa sb pos) Γ Φ := by
  obtain ⟨t, p, q⟩ := hc
  cases k with
  | true =>
    obtain ⟨ta, pa, qa⟩ := ha rfl
    exact ⟨_, ps_if p pa pss_nv, fun σ H hl C E T => q σ H C _ fun H1 e1 => qa σ H1 hl (C.mono e1) E (T.mono e1)⟩
  | false =>
    obtain ⟨tb, pb, qb⟩ := hb rfl
    exact ⟨_, ps_if p pss_nv pb, fun σ H hl C E T => q σ H C _ fun H1 e1 => qb σ H1 hl (C.mono e1) E (T.mono e1)⟩
theorem sd_expr (he : ED X e Γ d) (h : Φ (.nx Γ)) (hs : swapsWith e none pos.line X.env = pure false := by rfl) : SD X (.Expr e pos) Γ Φ := by
  obtain ⟨t, p, q⟩ := he
  exact ⟨_, ps_expr p hs, fun σ H hl C E T => q σ H C _ fun v H1 e1 h1 => T.nx Γ σ H1 h e1 hl (C.mono e1)⟩
/-! ### the short ways -/
theorem z_asg (i : Nat) {x : Str} {pos' : Pos} (he : ED X e Γ d) (hd : X.N.Nodup) (k : SsD X sts (Γ.set i (some d)) Φ) (hN : X.N[i]? = some x := by rfl) (hx : Loc X.env.scope x := by first | exact Or.inl rfl | exact Or.inr rfl)
    (hs : swapsWith e (some (.Name x pos')) pos.line X.env = pure false := by rfl) (hf : X.fn x = true ∨ X.env.scope.names.lookup x = some .local := by first | exact .inl rfl | exact .inr rfl) : SsD X (.Assign [.Name x pos'] e pos :: sts) Γ Φ :=
  ss_seq (Ψ := fun o => o = .nx (Γ.set i (some d))) (sd_asg i he hd rfl hN hx hs hf) (fun Γ' h => by
    cases h
    exact k) fun o h1 h2 => absurd h2 (h1 _)
theorem z_ret (he : ED X e Γ d) (h : Φ (.rt d)) : SsD X (.Return (some e) pos :: sts) Γ Φ :=
  ss_seq (Ψ := fun o => o = .rt d) (sd_ret he rfl) (fun Γ' h => by cases h) fun o h1 h2 => by
    rw [h2]
    exact h
/-- an if whose test is false, no else -/
theorem z_ifF {sa : List Stmt} (hc : TD X c Γ false) (k : SsD X sts Γ Φ) : SsD X (.If c sa [] pos :: sts) Γ Φ :=
  ss_seq (Ψ := fun o => o = .nx Γ) (sd_if hc (fun z => by cases z) fun _ => ss_nil rfl) (fun Γ' h => by
    cases h
    exact k) fun o h1 h2 => absurd h2 (h1 _)
/-- an if whose body leaves, or not -/
theorem z_ifR {b : Bool} {sa : List Stmt} (hc : TD X c Γ b) (h : b = true → SsD X sa Γ (fun o => (∀ Γ', o ≠ .nx Γ') ∧ Φ o)) (k : b = false → SsD X sts Γ Φ) : SsD X (.If c sa [] pos :: sts) Γ Φ :=
  ss_seq (Ψ := fun o => (b = true ∧ (∀ Γ', o ≠ .nx Γ') ∧ Φ o) ∨ (b = false ∧ o = .nx Γ))
    (sd_if hc (fun z => by
      obtain ⟨t, p, q⟩ := h z
      exact ⟨t, p, fun σ H hl C E T => q σ H hl C E (T.imp fun o w => .inl ⟨z, w⟩)⟩) fun z => ss_nil (.inr ⟨z, rfl⟩))
    (fun Γ' h => by
      rcases h with ⟨_, h, _⟩ | ⟨z, h⟩
      · exact absurd rfl (h Γ')
      · cases h
        exact k z) fun o h1 h2 => by
    rcases h2 with ⟨_, _, h⟩ | ⟨_, h⟩
    · exact h
    · exact absurd h (h1 _)
theorem SsD.imp (h : SsD X sts Γ Ψ) (hi : ∀ o, Ψ o → Φ o) : SsD X sts Γ Φ := by
  obtain ⟨t, p, q⟩ := h
  exact ⟨t, p, fun σ H hl C E T => q σ H hl C E (T.imp hi)⟩
theorem SD.imp (h : SD X st Γ Ψ) (hi : ∀ o, Ψ o → Φ o) : SD X st Γ Φ := by
  obtain ⟨t, p, q⟩ := h
  exact ⟨t, p, fun σ H hl C E T => q σ H hl C E (T.imp hi)⟩
end

/-! ### a def whose body only makes things -/
theorem start_ctx {K : PySem.W.Frag} {H : Hp} {N : List Str} {ds : List D} {vs : List V} (h : DenL K H ds vs) : Ctx K H (ds.map some ++ List.replicate (N.length - ds.length) none) (L2.start N vs) := fun i d e => by
  unfold L2.start
  have hl := h.len
  by_cases hi : i < ds.length
  · rw [List.getElem?_append_left (by rw [List.length_map]; exact hi), List.getElem?_map] at e
    cases q : ds[i]? with
    | none =>
      rw [q] at e
      cases e
    | some d' =>
      rw [q] at e
      cases e
      obtain ⟨y, h1, h2⟩ := h.get q
      refine ⟨y, ?_, h2⟩
      rw [List.getElem?_append_left (by rw [List.length_map, ← hl]; exact hi), List.getElem?_map, h1]
      rfl
  · rw [List.getElem?_append_right (by rw [List.length_map]; omega), List.getElem?_replicate] at e
    split at e <;> cases e
theorem fn_D {P : Program} {w : World} {K : PySem.W.Frag} {mg : Str → Option Value} {base : Heap} {x qual : Str} {st : Stmt} {f : Addr} {fd : FuncData} {N ps : List Str} {k : Nat} {R : List D → D → Prop} (F : Fun K x qual st f fd) (S : FnScope N ps (defScope st))
    (hN : ps.length ≤ N.length)
    (h : ∀ (cdv : Value) (A : Around) (outer : List Env) (s : Shared) (H : Hp) (E : XK) (ds : List D) (d : D), Room k (A.deeper (PyProof.Rows.envOfC qual (defScope st) s.heap.objs.size f cdv)) → ds.length = ps.length → R ds d →
      SsD (cxOf CX0 P w K mg base N qual (defScope st) f cdv A outer s H E).nox (defBody st) (ds.map some ++ List.replicate (N.length - ds.length) none) (fun o => o = .rt d ∨ (d = .v .non ∧ ∃ Γ, o = .nx Γ))) :
    FnOk P w K mg base CX0 (k + 1) f fd ps (spD K ps.length R) := by
  refine F.ok S (fun vs H Q E h => spD_len h) fun cdv A outer s H vs Q E hr hsp => ?_
  obtain ⟨ds, d, h1, h2, h3, h4⟩ := hsp
  obtain ⟨t, p, q⟩ := h cdv A outer s H E ds d hr h1 h3
  refine ⟨t, p, q (L2.start N vs) H ?_ (start_ctx h2) _ ⟨fun Γ σ H' z e1 _ _ => ?_, fun d' v H' z e1 hv => ?_, fun Γ σ H' z => ?_, fun Γ σ H' z => ?_, fun c fs Γ d σ H' z => ?_⟩⟩
  · show (L2.start N vs).length = N.length
    unfold L2.start
    rw [List.length_append, List.length_map, List.length_replicate, ← h2.len, h1]
    omega
  · rcases z with z | ⟨z, _⟩
    · cases z
    · subst z
      exact h4 _ H' e1 (den_v.mpr rfl)
  · rcases z with z | ⟨_, _, z⟩
    · cases z
      exact h4 v H' e1 hv
    · cases z
  · rcases z with z | ⟨_, _, z⟩ <;> cases z
  · rcases z with z | ⟨_, _, z⟩ <;> cases z
  · rcases z with z | ⟨_, _, z⟩ <;> cases z
end Trk

namespace Trk
open PySem L2 Evl

/-- a sign's own methods: f for C op .., g for int op C -/
structure NumOp (K : PySem.W.Frag) (C : Addr) (op : Operator) (f g : Addr) : Prop where
  first : PySem.W.selfFirst K C = true
  find : PySem.W.findIn K (.ref C) (PySem.dunder op.info.2) = some (some (.ref f))
  fn : PySem.W.isFn K (.ref f) = true
  rfind : PySem.W.findIn K (.ref C) (dunderR op.info.2) = some (some (.ref g))
  rfn : PySem.W.isFn K (.ref g) = true
  sub1 : PySem.W.subIn K (.type "int") (.ref C) = some false
  sub2 : PySem.W.subIn K (.ref C) (.type "int") = some false
structure CmpM (K : PySem.W.Frag) (C : Addr) (name : Str) (f : Addr) : Prop where
  find : PySem.W.findIn K (.ref C) name = some (some (.ref f))
  fn : PySem.W.isFn K (.ref f) = true
section
variable {X : Cx} {CX : CXT} {k : Nat} {C f g : Addr} {fd : FuncData} {ps : List Str} {sp : Sp} {E : XK} {op : Operator}
theorem back_of {pins : List (Addr × Obj)} {σ : L2.St} {H : Hp} {s : Shared} {Q : VK} {us : List Value} {vs : List V} (F : FnOk X.prog X.w X.K X.mg X.base CX k f fd ps sp) (hr : Room k X.A) (hb : Binds X.K fd ps []) (hx : Passes CX X E)
    (I : Inv X pins σ H s) (r : Vals vs us) (h : sp vs H Q E) : wpAny (model X.prog X.w) X.A (call (.ref f) us) (PySem.W.CmpBack (EP X pins σ Q)) X.xe s :=
  thn (run_fn F hr hb .nil hx I r (by rw [List.append_nil]; exact h)) fun u s' q => by
    have q' := q
    obtain ⟨v, H', I', rv, _⟩ := q'
    exact SlX.cmpback rv q
theorem vals_rr (a b : Addr) : Vals [V.ref a, V.ref b] [Value.ref a, Value.ref b] := .cons (show RelV (V.ref a) (Value.ref a) from rfl) (.cons (show RelV (V.ref b) (Value.ref b) from rfl) .nil)
theorem vals_ri (a : Addr) (n : Int) (t : Tok) : Vals [V.ref a, V.int n] [Value.ref a, Value.int n t] := .cons (show RelV (V.ref a) (Value.ref a) from rfl) (.cons (show RelV (V.int n) (Value.int n t) from ⟨t, rfl⟩) .nil)
/-- both of the class -/
def rOwn (C : Addr) (sp : Sp) (E : XK) : R2 := fun x y H Q => ∃ a b dx dy fs gs, x = .ref a ∧ y = .ref b ∧ H a = some (.ins C dx fs) ∧ H b = some (.ins C dy gs) ∧ sp [x, y] H Q E
/-- an int on the right -/
def rOwnI (C : Addr) (sp : Sp) (E : XK) : R2 := fun x y H Q => ∃ a dx fs n, x = .ref a ∧ y = .int n ∧ H a = some (.ins C dx fs) ∧ sp [x, y] H Q E
/-- an int on the left -/
def rIOwn (C : Addr) (sp : Sp) (E : XK) : R2 := fun x y H Q => ∃ b dx fs n, x = .int n ∧ y = .ref b ∧ H b = some (.ins C dx fs) ∧ sp [y, x] H Q E
theorem op_own (M : NumOp X.K C op f g) (F : FnOk X.prog X.w X.K X.mg X.base CX k f fd ps sp) (hr : Room k X.A) (hb : Binds X.K fd ps []) (hx : Passes CX X E) : OpR X (binaryOp op) (rOwn C sp E) := by
  intro pins s σ H x y v u Q I rx ry h
  obtain ⟨a, b, dx, dy, fs, gs, rfl, rfl, ha, hb', hsp⟩ := h
  cases rx
  cases ry
  obtain ⟨mA, J, _⟩ := ins_get I.hok ha
  obtain ⟨mB, J', _⟩ := ins_get I.hok hb'
  obtain ⟨od, J, _⟩ := J.look
  obtain ⟨od', J', _⟩ := J'.look
  obtain ⟨m, hF⟩ := I.fr
  exact PySem.W.binop_K hF I.ok.mod.kin J J'.type M.first M.find M.fn (back_of F hr hb hx I (vals_rr a b) hsp)
theorem op_ownI {fo ro : Option Value} (M : NumOp X.K C op f g) (h1 : PySem.W.findIn X.K (.type "int") (PySem.dunder op.info.2) = some fo) (h2 : PySem.W.findIn X.K (.type "int") (dunderR op.info.2) = some ro)
    (F : FnOk X.prog X.w X.K X.mg X.base CX k f fd ps sp) (hr : Room k X.A) (hb : Binds X.K fd ps []) (hx : Passes CX X E) : OpR X (binaryOp op) (rOwnI C sp E) := by
  intro pins s σ H x y v u Q I rx ry h
  obtain ⟨a, dx, fs, n, rfl, rfl, ha, hsp⟩ := h
  cases rx
  obtain ⟨t, rfl⟩ := ry
  obtain ⟨mA, J, _⟩ := ins_get I.hok ha
  obtain ⟨od, J, _⟩ := J.look
  obtain ⟨m, hF⟩ := I.fr
  exact PySem.W.ksp_binT (T := "int") hF I.ok.mod.kin J rfl M.first M.find M.fn M.rfind (.inr ⟨_, rfl⟩) h1 h2 M.sub1 (back_of F hr hb hx I (vals_ri a n t) hsp)
theorem op_iown {fo ro : Option Value} {id : String} {B : Builtin} (S : Trk.IntSlot op.info.2 id B) (M : NumOp X.K C op f g) (h1 : PySem.W.findIn X.K (.type "int") (PySem.dunder op.info.2) = some fo) (h2 : PySem.W.findIn X.K (.type "int") (dunderR op.info.2) = some ro)
    (hl : ((fo.isSome && !isSeqSlot fo) || (ro.isSome && !isSeqSlot ro)) = true)
    (F : FnOk X.prog X.w X.K X.mg X.base CX k g fd ps sp) (hr : Room k X.A) (hb : Binds X.K fd ps []) (hx : Passes CX X E) : OpR X (binaryOp op) (rIOwn C sp E) := by
  intro pins s σ H x y v u Q I rx ry h
  obtain ⟨a, dx, fs, n, rfl, rfl, ha, hsp⟩ := h
  cases ry
  obtain ⟨t, rfl⟩ := rx
  obtain ⟨mA, J, _⟩ := ins_get I.hok ha
  obtain ⟨od, J, _⟩ := J.look
  obtain ⟨m, hF⟩ := I.fr
  exact Trk.rbinT S hF I.ok.mod.kin J M.first M.find M.rfind M.rfn h1 h2 hl M.sub2 (back_of F hr hb hx I (vals_ri a n t) hsp)
/-! ### comparisons -/
variable {cop : CmpOp}
theorem cmp_own (hro : ∀ a b, compareOp cop a b = richCompare cop a b) (M : CmpM X.K C (cmpInfo cop).2.1 f) (F : FnOk X.prog X.w X.K X.mg X.base CX k f fd ps sp) (hr : Room k X.A) (hb : Binds X.K fd ps []) (hx : Passes CX X E) : OpR X (compareOp cop) (rOwn C sp E) := by
  intro pins s σ H x y v u Q I rx ry h
  obtain ⟨a, b, dx, dy, fs, gs, rfl, rfl, ha, hb', hsp⟩ := h
  cases rx
  cases ry
  obtain ⟨mA, J, _⟩ := ins_get I.hok ha
  obtain ⟨mB, J', _⟩ := ins_get I.hok hb'
  obtain ⟨od, J, _⟩ := J.look
  obtain ⟨od', J', _⟩ := J'.look
  obtain ⟨m, hF⟩ := I.fr
  rw [hro]
  exact PySem.W.cmp_K (tb := .ref C) hr.units0 hF I.ok.mod.kin J J'.type (by simp [PySem.W.notFirst]) M.find M.fn (back_of F hr hb hx I (vals_rr a b) hsp)
theorem cmp_ownI (hro : ∀ a b, compareOp cop a b = richCompare cop a b) (M : CmpM X.K C (cmpInfo cop).2.1 f) (hs : PySem.W.subIn X.K (.type "int") (.ref C) = some false) (F : FnOk X.prog X.w X.K X.mg X.base CX k f fd ps sp) (hr : Room k X.A) (hb : Binds X.K fd ps []) (hx : Passes CX X E) : OpR X (compareOp cop) (rOwnI C sp E) := by
  intro pins s σ H x y v u Q I rx ry h
  obtain ⟨a, dx, fs, n, rfl, rfl, ha, hsp⟩ := h
  cases rx
  obtain ⟨t, rfl⟩ := ry
  obtain ⟨mA, J, _⟩ := ins_get I.hok ha
  obtain ⟨od, J, _⟩ := J.look
  obtain ⟨m, hF⟩ := I.fr
  rw [hro]
  exact PySem.W.cmp_K (tb := .type "int") hr.units0 hF I.ok.mod.kin J (PySem.W.Looks.of_pure rfl) (by unfold PySem.W.notFirst; rw [hs]; simp) M.find M.fn (back_of F hr hb hx I (vals_ri a n t) hsp)
/-- an int on the left: the mirrored sign's method -/
theorem cmp_iown {id : String} {B : Builtin} (hro : ∀ a b, compareOp cop a b = richCompare cop a b) (S : Trk.CmpSlot cop id B) (M : CmpM X.K C (cmpInfo cop).2.2 f) (hs : PySem.W.subIn X.K (.ref C) (.type "int") = some false) (F : FnOk X.prog X.w X.K X.mg X.base CX k f fd ps sp) (hr : Room k X.A) (hb : Binds X.K fd ps []) (hx : Passes CX X E) :
    OpR X (compareOp cop) (rIOwn C sp E) := by
  intro pins s σ H x y v u Q I rx ry h
  obtain ⟨a, dx, fs, n, rfl, rfl, ha, hsp⟩ := h
  cases ry
  obtain ⟨t, rfl⟩ := rx
  obtain ⟨mA, J, _⟩ := ins_get I.hok ha
  obtain ⟨od, J, _⟩ := J.look
  obtain ⟨m, hF⟩ := I.fr
  rw [hro]
  exact Trk.rcmpT S hr.units0 hF I.ok.mod.kin J M.find M.fn hs (back_of F hr hb hx I (vals_ri a n t) hsp)
end
section
variable {K : PySem.W.Frag} {C : Addr} {fs gs : List (Str × D)} {R : List D → D → Prop} {E : XK} {d : D} {n : Int}
theorem rd_own (h : R [.obj C fs, .obj C gs] d) : RD K (rOwn C (spD K 2 R) E) (.obj C fs) (.obj C gs) d := fun x y H h1 h2 Q q => by
  have k1 := h1
  have k2 := h2
  simp only [Den] at h1 h2
  obtain ⟨a, dx, fs', rfl, ha, _⟩ := h1
  obtain ⟨b, dy, gs', rfl, hb, _⟩ := h2
  exact ⟨a, b, dx, dy, fs', gs', rfl, rfl, ha, hb, _, d, rfl, DenL.cons k1 (DenL.cons k2 DenL.nil), h, q⟩
theorem rd_ownI (h : R [.obj C fs, .v (.int n)] d) : RD K (rOwnI C (spD K 2 R) E) (.obj C fs) (.v (.int n)) d := fun x y H h1 h2 Q q => by
  have k1 := h1
  have k2 := h2
  simp only [Den] at h1 h2
  obtain ⟨a, dx, fs', rfl, ha, _⟩ := h1
  subst h2
  exact ⟨a, dx, fs', n, rfl, rfl, ha, _, d, rfl, DenL.cons k1 (DenL.cons k2 DenL.nil), h, q⟩
theorem rd_iown (h : R [.obj C fs, .v (.int n)] d) : RD K (rIOwn C (spD K 2 R) E) (.v (.int n)) (.obj C fs) d := fun x y H h1 h2 Q q => by
  have k1 := h1
  have k2 := h2
  simp only [Den] at h1 h2
  obtain ⟨a, dx, fs', rfl, ha, _⟩ := h2
  subst h1
  exact ⟨a, dx, fs', n, rfl, rfl, ha, _, d, rfl, DenL.cons k2 (DenL.cons k1 DenL.nil), h, q⟩
end
/-! ### a negative divisor, of any size -/
def CDivZ (_ j : Int) : Prop := j ≠ 0 ∧ j.natAbs.log2 < 9000
theorem op_fdivZ {X : Cx} : OpR X (binaryOp .FloorDiv) (rI CDivZ fun i j => .int (i.fdiv j)) := opI fun i j _ _ _ _ _ hc q => PyProof.Rows.floordiv_int hc.1 q (.inl (PyProof.noPylong_of_log2 hc.2))
end Trk

namespace Trk
/-! ### what the class Fraction reckons: Rat -/
def cmn (a b : Int) : Int := if b < 0 then -((Nat.gcd a.natAbs b.natAbs : Nat) : Int) else ((Nat.gcd a.natAbs b.natAbs : Nat) : Int)
theorem cmn_ne {a b : Int} (hb : b ≠ 0) : cmn a b ≠ 0 := by
  have h : 0 < Nat.gcd a.natAbs b.natAbs := Nat.gcd_pos_of_pos_right _ (Int.natAbs_pos.mpr hb)
  unfold cmn
  split <;> omega
theorem cmn_le {a b : Int} (hb : b ≠ 0) : (cmn a b).natAbs ≤ b.natAbs := by
  have h : Nat.gcd a.natAbs b.natAbs ≤ b.natAbs := Nat.gcd_le_right _ (Int.natAbs_pos.mpr hb)
  unfold cmn
  split <;> omega
theorem fdiv_exact {g k : Int} (hg : g ≠ 0) : (g * k).fdiv g = k := by
  rw [Int.mul_comm, Int.mul_fdiv_cancel _ hg]
theorem top_eq {a b : Int} (hb : b ≠ 0) : a.fdiv (cmn a b) = (Rat.divInt a b).num := by
  have hg : 0 < Nat.gcd a.natAbs b.natAbs := Nat.gcd_pos_of_pos_right _ (Int.natAbs_pos.mpr hb)
  obtain ⟨k, hk⟩ : ((Nat.gcd a.natAbs b.natAbs : Nat) : Int) ∣ a := Int.ofNat_dvd_left.mpr (Nat.gcd_dvd_left _ _)
  rw [Rat.num_divInt, show Int.gcd b a = Nat.gcd a.natAbs b.natAbs from Nat.gcd_comm _ _]
  unfold cmn
  generalize hG : Nat.gcd a.natAbs b.natAbs = G at *
  by_cases h : b < 0
  · rw [if_pos h, Int.sign_eq_neg_one_of_neg h, hk, show ((G : Int) * k).fdiv (-(G : Int)) = -k from by
      rw [show (G : Int) * k = (-(G : Int)) * (-k) by rw [Int.neg_mul_neg], fdiv_exact (by omega)]]
    rw [show (-1 : Int) * ((G : Int) * k) = (G : Int) * (-k) by rw [Int.neg_one_mul, Int.mul_neg], Int.mul_ediv_cancel_left _ (by omega)]
  · rw [if_neg h, Int.sign_eq_one_of_pos (by omega), hk, fdiv_exact (by omega), Int.one_mul, Int.mul_ediv_cancel_left _ (by omega)]
theorem bottom_eq {a b : Int} (hb : b ≠ 0) : b.fdiv (cmn a b) = ((Rat.divInt a b).den : Int) := by
  have hg : 0 < Nat.gcd a.natAbs b.natAbs := Nat.gcd_pos_of_pos_right _ (Int.natAbs_pos.mpr hb)
  obtain ⟨k, hk⟩ : ((Nat.gcd a.natAbs b.natAbs : Nat) : Int) ∣ b := Int.ofNat_dvd_left.mpr (Nat.gcd_dvd_right _ _)
  rw [Rat.den_divInt, if_neg hb, show Int.gcd b a = Nat.gcd a.natAbs b.natAbs from Nat.gcd_comm _ _]
  unfold cmn
  generalize hG : Nat.gcd a.natAbs b.natAbs = G at *
  have hn : b.natAbs / G = k.natAbs := by
    rw [hk, Int.natAbs_mul, Int.natAbs_natCast, Nat.mul_div_cancel_left _ hg]
  rw [hn]
  by_cases h : b < 0
  · have hk0 : k < 0 := by
      rcases Int.lt_or_le k 0 with z | z
      · exact z
      · have := Int.mul_nonneg (show (0 : Int) ≤ (G : Int) by omega) z
        omega
    rw [if_pos h]
    conv => lhs; rw [hk]
    rw [show (G : Int) * k = (-(G : Int)) * (-k) by rw [Int.neg_mul_neg], fdiv_exact (by omega)]
    omega
  · have hk0 : 0 ≤ k := by
      rcases Int.lt_or_le k 0 with z | z
      · have := Int.mul_neg_of_pos_of_neg (show (0 : Int) < (G : Int) by omega) z
        omega
      · exact z
    rw [if_neg h]
    conv => lhs; rw [hk]
    rw [fdiv_exact (by omega)]
    omega
/-- no greater than what it was made of -/
theorem num_le (a b : Int) : (Rat.divInt a b).num.natAbs ≤ a.natAbs := by
  rw [Rat.num_divInt]
  have h1 : (b.sign * a).natAbs ≤ a.natAbs := by
    rw [Int.natAbs_mul]
    rcases Int.sign_trichotomy b with h | h | h <;> rw [h] <;> simp
  refine Nat.le_trans ?_ h1
  exact Int.natAbs_ediv_le_natAbs _ _
theorem den_le {a b : Int} (hb : b ≠ 0) : (Rat.divInt a b).den ≤ b.natAbs := by
  rw [Rat.den_divInt, if_neg hb]
  exact Nat.div_le_self _ _
/-- sizes -/
def Sz (n : Nat) (q : Rat) : Prop := q.num.natAbs < 2 ^ n ∧ q.den < 2 ^ n
end Trk
namespace Trk
theorem q_mul {a b : Int} (hb : b ≠ 0) : Rat.divInt a b * (b : Rat) = (a : Rat) := by
  rw [Rat.divInt_eq_div]
  exact Rat.div_mul_cancel (by simpa using hb)
theorem q_lt {a b c e : Int} (hb : 0 < b) (he : 0 < e) : Rat.divInt a b < Rat.divInt c e ↔ a * e < c * b := by
  have h1 : (0 : Rat) < ((b * e : Int) : Rat) := Rat.intCast_pos.mpr (Int.mul_pos hb he)
  have e1 : Rat.divInt a b * ((b * e : Int) : Rat) = ((a * e : Int) : Rat) := by
    rw [Rat.intCast_mul, ← Rat.mul_assoc, q_mul (by omega), ← Rat.intCast_mul]
  have e2 : Rat.divInt c e * ((b * e : Int) : Rat) = ((c * b : Int) : Rat) := by
    rw [Int.mul_comm b e, Rat.intCast_mul, ← Rat.mul_assoc, q_mul (by omega), ← Rat.intCast_mul]
  rw [← Rat.mul_lt_mul_right h1, e1, e2, Rat.intCast_lt_intCast]
theorem q_int (n : Int) : (n : Rat) = Rat.divInt n 1 := (Rat.num_divInt_den (n : Rat)).symm
/-- the sign of a difference -/
theorem q_sgn {a b c e : Int} (hb : 0 < b) (he : 0 < e) : (a * e - c * b < 0 ↔ Rat.divInt a b < Rat.divInt c e) ∧ (0 < a * e - c * b ↔ Rat.divInt c e < Rat.divInt a b) := by
  rw [q_lt hb he, q_lt he hb]
  exact ⟨by omega, by omega⟩
end Trk

namespace Trk
open PySem L2 Evl

abbrev fr (C : Addr) (q : Rat) : D := .obj C [("top", .v (.int q.num)), ("bottom", .v (.int (q.den : Int)))]
abbrev iD (n : Int) : D := .v (.int n)
abbrev bD (b : Bool) : D := .v (.bl b)
/-- a number: a Fraction, an int -/
def NumV (C : Addr) (y : D) (q : Rat) : Prop := y = fr C q ∨ ∃ n : Int, y = iD n ∧ q = (n : Rat)
theorem den_fr {K : PySem.W.Frag} {H : Hp} {C : Addr} {q : Rat} {v : V} : Den K H (fr C q) v ↔ ∃ a dx, v = .ref a ∧ H a = some (.ins C dx [("top", .int q.num), ("bottom", .int (q.den : Int))]) := by
  simp only [Den, DenF]
  constructor
  · rintro ⟨a, dx, gs, h1, h2, z, zs, h3, h4, z', zs', h5, h6, h7⟩
    subst h4 h6 h7 h5 h3
    exact ⟨a, dx, h1, h2⟩
  · rintro ⟨a, dx, h1, h2⟩
    exact ⟨a, dx, _, h1, h2, _, _, rfl, rfl, _, _, rfl, rfl, rfl⟩

/-- what the written part says of the class Fraction, at C -/
structure FrTxt (K : PySem.W.Frag) (mg : Str → Option Value) (C : Addr) : Prop where
  cl : Cls K C
  nT : NoAttr K C "top"
  nB : NoAttr K C "bottom"
  mgC : mg "Fraction" = some (.ref C)
  ca : PySem.W.findIn K (.ref C) "__class__" = some (some (.builtin "object.__class__"))
  cn : PySem.W.specialIn K (.builtin "object.__class__") "__get__" = some (some (.builtin "getset_descriptor.__get__"))
  ct : PySem.W.takesIn K (.builtin "object.__class__") = some true
  cm : PySem.W.mroIn K C (.type "object") = some true
  kCC : PySem.W.kitOne K (.ref C) (.ref C) = some true
  kIC : PySem.W.kitOne K (.type "int") (.ref C) = some false
  sub1 : PySem.W.subIn K (.type "int") (.ref C) = some false
  sub2 : PySem.W.subIn K (.ref C) (.type "int") = some false
  isi : mg "isinstance" = none
  tInt : mg "int" = none
  gcd : mg "gcd" = some (.builtin "math.gcd")
theorem kit_self {K : PySem.W.Frag} {C : Addr} : PySem.W.kitOne K (.ref C) (.ref C) = some true := by
  unfold PySem.W.kitOne
  rw [if_pos (by simp)]
theorem kit_sub {K : PySem.W.Frag} {C : Addr} {t : Value} {b : Bool} (ic : PySem.W.isClsIn K C = true) (ty : PySem.W.typeIn K (.ref C) = some (.type "type")) (s : PySem.W.subIn K t (.ref C) = some b) (hne : (t == Value.ref C) = false) : PySem.W.kitOne K t (.ref C) = some b := by
  unfold PySem.W.kitOne PySem.W.kitCls
  rw [if_neg (by rw [hne]; exact Bool.false_ne_true)]
  show (if ((PySem.W.clsIn K C).isSome && PySem.W.typeIn K (.ref C) == some (.type "type")) = true then PySem.W.subIn K t (.ref C) else none) = some b
  rw [if_pos (by
    rw [ty]
    have : (PySem.W.clsIn K C).isSome = true := ic
    rw [this]
    simp), s]
theorem ty_ne (n : String) (C : Addr) : (Value.type n == Value.ref C) = false := Bool.eq_false_iff.mpr fun q => by cases beq_iff_eq.mp q
theorem rf_ne {A C : Addr} (h : A ≠ C) : (Value.ref A == Value.ref C) = false := Bool.eq_false_iff.mpr fun q => h (Value.ref.inj (beq_iff_eq.mp q))
section
variable {X : Cx} {Γ : Gm} {d d1 d2 : D} {e a b c : Expr} {es : List Expr} {pos : Pos} {C : Addr}
theorem ed_glob {x : Str} {v : V} {u : Value} (hm : X.mg x = some u) (r : RelV v u) (hg : Gl X x := by rfl) (hd : (x == ("__debug__" : Str)) = false := by decide) : ED X (.Name x pos) Γ (.v v) := ⟨_, pe_glob hg hm r hd, fun σ H C Q q => q _ H (Ex.refl H) (den_v.mpr rfl)⟩
theorem ed_bltn {x : Str} {v : V} {u : Value} (hm : X.mg x = none) (hv : bootBuiltins x = some u) (r : RelV v u) (hg : Gl X x := by rfl) (hn : x ≠ "__name__" := by decide) (hd : (x == ("__debug__" : Str)) = false := by decide) : ED X (.Name x pos) Γ (.v v) := ⟨_, pe_bltn hg hm hv r hn hd, fun σ H C Q q => q _ H (Ex.refl H) (den_v.mpr rfl)⟩
/-- the type that isinstance sees -/
inductive TyD (K : PySem.W.Frag) (mg : Str → Option Value) : D → Value → Prop where
  | int (n : Int) : TyD K mg (iD n) (.type "int")
  | bl (b : Bool) : TyD K mg (bD b) (.type "bool")
  | fr {C : Addr} {q : Rat} (T : FrTxt K mg C) : TyD K mg (fr C q) (.ref C)
  | ob {C : Addr} {fs : List (Str × D)} (c : Cls K C) (ca : PySem.W.findIn K (.ref C) "__class__" = some (some (.builtin "object.__class__"))) (cn : PySem.W.specialIn K (.builtin "object.__class__") "__get__" = some (some (.builtin "getset_descriptor.__get__")))
    (ct : PySem.W.takesIn K (.builtin "object.__class__") = some true) (cm : PySem.W.mroIn K C (.type "object") = some true) : TyD K mg (.obj C fs) (.ref C)
theorem TyD.to {K : PySem.W.Frag} {mg : Str → Option Value} {H : Hp} {d : D} {t : Value} {v : V} (h : TyD K mg d t) (hd : Den K H d v) : TyX K H v t := by
  cases h with
  | int n => rw [den_v.mp hd]; exact .base (.int n)
  | bl b => rw [den_v.mp hd]; exact .base (.bl b)
  | fr T =>
    obtain ⟨a, dx, rfl, h⟩ := den_fr.mp hd
    exact .base (.ins h T.cl T.ca T.cn T.ct T.cm)
  | ob c ca cn ct cm =>
    simp only [Den] at hd
    obtain ⟨a, dx, gs, rfl, h, _⟩ := hd
    exact .base (.ins h c ca cn ct cm)
/-- isinstance(a, c) -/
theorem ed_isi {k : Bool} {u t : Value} {cv : V} {p : Pos} (hm : X.mg "isinstance" = none) (ha : ED X a Γ d) (hc : ED X c Γ (.v cv)) (hcv : ClsV cv u) (ht : TyD X.K X.mg d t) (hk : PySem.W.kitOne X.K t u = some k) (hg : Gl X "isinstance" := by rfl)
    (he : starEach (a :: [c]) X.env = (false, eval a X.env) :: starEach [c] X.env := by rfl) (hs1 : starEach (c :: []) X.env = (false, eval c X.env) :: starEach [] X.env := by rfl) (hpl : (backTo pos (starEach [c] X.env)).any (·.1) = false := by rfl) :
    ED X (.Call (.Name "isinstance" p) [a, c] [] pos) Γ (bD k) := by
  refine ed_callB (d := bD k) (r := rIsi X.K) call_isi hm (by decide +kernel) (ad_cons ha (ad_cons hc ad_nil hs1) he) (fun xs H h Q q => ?_) hg (by decide) (by decide) he hpl
  obtain ⟨x, y, rfl, h1, h2⟩ := denL_two h
  rw [den_v.mp h2]
  exact ⟨x, cv, t, u, k, rfl, hcv, ht.to h1, hk, q _ H (Ex.refl H) (den_v.mpr rfl)⟩
/-- isinstance(a, (c1, c2)) -/
theorem ed_isi2 {k : Bool} {u1 u2 t : Value} {cv1 cv2 : V} {c1 c2 : Expr} {p p2 : Pos} {x1} (hm : X.mg "isinstance" = none) (ha : ED X a Γ d) (hc1 : PE X c1 (tC cv1)) (hc2 : PE X c2 (tC cv2)) (hcv1 : ClsV cv1 u1) (hcv2 : ClsV cv2 u2)
    (ht : TyD X.K X.mg d t) (hk : PySem.W.kitAny X.K t [u1, u2] = some k) (hg : Gl X "isinstance" := by rfl)
    (he : starEach (a :: [.Tuple [c1, c2] x1 p2]) X.env = (false, eval a X.env) :: starEach [.Tuple [c1, c2] x1 p2] X.env := by rfl) (hs1 : starEach (.Tuple [c1, c2] x1 p2 :: []) X.env = (false, eval (.Tuple [c1, c2] x1 p2) X.env) :: starEach [] X.env := by rfl)
    (hs2 : starEach (c1 :: [c2]) X.env = (false, eval c1 X.env) :: starEach [c2] X.env := by rfl) (hs3 : starEach (c2 :: []) X.env = (false, eval c2 X.env) :: starEach [] X.env := by rfl)
    (hpl : (backTo pos (starEach [.Tuple [c1, c2] x1 p2] X.env)).any (·.1) = false := by rfl) :
    ED X (.Call (.Name "isinstance" p) [a, .Tuple [c1, c2] x1 p2] [] pos) Γ (bD k) := by
  obtain ⟨ta, pa, qa⟩ := ha
  refine ⟨_, pe_callB (call_isiT (X := X)) hg hm (by decide +kernel) (pa_cons pa (pa_cons (pe_tup (pa_cons hc1 (pa_cons hc2 pa_nil hs3) hs2)) pa_nil hs1) he) (by decide) (by decide) he hpl, fun σ H Cc Q q => ?_⟩
  refine qa σ H Cc _ fun v H1 e1 h1 => ⟨(by show 2 ≤ sizeLine; decide), fun tp hn => ?_⟩
  exact ⟨v, tp, [cv1, cv2], t, [u1, u2], k, rfl, upd_same, .cons hcv1 (.cons hcv2 .nil), ht.to (h1.mono (Ex.new hn)), hk, q _ _ (e1.trans (Ex.new hn)) (den_v.mpr rfl)⟩

/-! ### Fraction(a, b) -/
def spInit (C : Addr) : Sp := fun vs H Q _ => ∃ (p dx : Addr) (a b : Int), vs = [.ref p, .int a, .int b] ∧ b ≠ 0 ∧ b.natAbs < 2 ^ 8900 ∧ H p = some (.ins C dx []) ∧
  Q .non (upd H p (.ins C dx [("top", .int (Rat.divInt a b).num), ("bottom", .int ((Rat.divInt a b).den : Int))]))
theorem init_new {C : Addr} {Q : VK} {H H1 : Hp} {K : PySem.W.Frag} {E : XK} {i j : Int} {x dx : Addr} (hb : j ≠ 0) (hz : j.natAbs < 2 ^ 8900) (nx : H1 x = none) (ndx : H1 dx = none) (ne : dx ≠ x) (e1 : Ex H H1)
    (q : ∀ v H', Ex H H' → Den K H' (fr C (Rat.divInt i j)) v → Q v H') : spInit C [.ref x, .int i, .int j] (upd (upd H1 dx (.own x)) x (.ins C dx [])) (fun v H2 => v = .non ∧ Q (.ref x) H2) E := by
  refine ⟨x, dx, i, j, rfl, hb, hz, upd_same, rfl, q _ _ (fun b o ho => ?_) (den_fr.mpr ⟨x, dx, rfl, upd_same⟩)⟩
  have h1 : H1 b = some o := e1 b o ho
  rw [upd_ne (ne_of_none h1 nx), upd_ne (ne_of_none h1 nx), upd_ne (ne_of_none h1 ndx)]
  exact h1
theorem ed_mk {CX : CXT} {k : Nat} {f : Addr} {fd : FuncData} {ps : List Str} {E : XK} {p : Pos} {i j : Int} (M : Mk X.K C f) (F : FnOk X.prog X.w X.K X.mg X.base CX k f fd ps (spInit C)) (hr : Room (k + 1) X.A) (hm : X.mg "Fraction" = some (.ref C))
    (hb : Binds X.K fd ps []) (hx : Passes CX X E) (ha : AD X (e :: es) Γ [iD i, iD j]) (h0 : j ≠ 0) (hz : j.natAbs < 2 ^ 8900) (hg : Gl X "Fraction" := by rfl) (he : starEach (e :: es) X.env = (false, eval e X.env) :: starEach es X.env := by rfl)
    (hpl : (backTo pos (starEach es X.env)).any (·.1) = false := by rfl) : ED X (.Call (.Name "Fraction" p) (e :: es) [] pos) Γ (fr C (Rat.divInt i j)) := by
  obtain ⟨t, pp, q⟩ := ha
  refine ⟨_, pe_make M F hr hg hm hb .nil hx pp (by decide) he hpl, fun σ H Cc Q r => q σ H Cc _ fun vs H1 e1 h1 x dx nx ndx ne => ?_⟩
  obtain ⟨x1, x2, rfl, h2, h3⟩ := denL_two h1
  rw [den_v.mp h2, den_v.mp h3]
  exact init_new h0 hz nx ndx ne e1 r
theorem ed_mk1 {CX : CXT} {k : Nat} {f : Addr} {fd : FuncData} {ps : List Str} {E : XK} {p : Pos} {i : Int} {ds : List Value} (M : Mk X.K C f) (F : FnOk X.prog X.w X.K X.mg X.base CX k f fd ps (spInit C)) (hr : Room (k + 1) X.A) (hm : X.mg "Fraction" = some (.ref C))
    (hb : Binds X.K fd ps ds) (hd : Vals [V.int 1] ds) (hx : Passes CX X E) (ha : ED X e Γ (iD i)) (hg : Gl X "Fraction" := by rfl) (he : starEach (e :: []) X.env = (false, eval e X.env) :: starEach [] X.env := by rfl)
    (hpl : (backTo pos (starEach [] X.env)).any (·.1) = false := by rfl) : ED X (.Call (.Name "Fraction" p) [e] [] pos) Γ (fr C (i : Rat)) := by
  obtain ⟨t, pp, q⟩ := ha
  have e0 : (i : Rat) = Rat.divInt i 1 := (Rat.num_divInt_den (i : Rat)).symm
  rw [e0]
  refine ⟨_, pe_make M F hr hg hm hb hd hx (pa_cons pp pa_nil he) (by decide) he hpl, fun σ H Cc Q r => q σ H Cc _ fun v H1 e1 h1 x dx nx ndx ne => ?_⟩
  rw [den_v.mp h1]
  exact init_new (by decide) (Nat.one_lt_two_pow (by decide)) nx ndx ne e1 r
end
/-! ### sizes -/
theorem Sz.num {n : Nat} {q : Rat} (h : Sz n q) : q.num.natAbs < 2 ^ n := h.1
theorem Sz.denI {n : Nat} {q : Rat} (h : Sz n q) : ((q.den : Int)).natAbs < 2 ^ n := h.2
theorem Sz.mono {n m : Nat} {q : Rat} (h : Sz n q) (hm : n ≤ m) : Sz m q := ⟨Nat.lt_of_lt_of_le h.1 (Nat.pow_le_pow_right (by decide) hm), Nat.lt_of_lt_of_le h.2 (Nat.pow_le_pow_right (by decide) hm)⟩
theorem cdivZ_of {i j : Int} (h : j ≠ 0) (hb : j.natAbs < 2 ^ 8900) : CDivZ i j := ⟨h, Nat.lt_of_lt_of_le (PySem.Flt.log2_lt_of (by decide) hb) (by decide)⟩
end Trk

namespace Trk
open PySem L2 Evl
section
variable {X : Cx} {Γ : Gm} {d d1 d2 : D} {e a b c : Expr} {es : List Expr} {pos : Pos} {st : Stmt} {sts body rest : List Stmt} {Φ Ψ : Out → Prop}
/-- what a piece of the text does, by itself -/
def allS (X : Cx) (st : List Stmt) : TS := fun E σ H => ∀ (pins : List (Addr × Obj)) (s : Shared), Inv X pins σ H s → wpAny (model X.prog X.w) X.A (execs st X.env) (SP X pins E) X.xe s
def allT (X : Cx) (c : Expr) : TT := fun σ H Q => ∀ (pins : List (Addr × Obj)) (s : Shared), Inv X pins σ H s → wpAny (model X.prog X.w) X.A (isTrue c X.env (eval c X.env)) (TP X pins σ Q) X.xe s
theorem pss_all : PSs X st' (allS X st') := ⟨fun pins s σ H E I h => h pins s I⟩
theorem pt_all : PT X c (allT X c) := ⟨fun pins s σ H Q I h => h pins s I⟩
theorem SsD.all (h : SsD X sts Γ Φ) {σ : L2.St} {H : Hp} {E : Ends} (hl : σ.length = X.N.length) (C : Ctx X.K H Γ σ) (T : Tk X H Φ E) : allS X sts E σ H := by
  obtain ⟨t, p, q⟩ := h
  exact fun pins s I => p.run pins s σ H E I (q σ H hl C E T)
theorem TD.all {k : Bool} (h : TD X c Γ k) {σ : L2.St} {H : Hp} {Q : Bool → Hp → Prop} (C : Ctx X.K H Γ σ) (q : ∀ H', Ex H H' → Q k H') : allT X c σ H Q := by
  obtain ⟨t, p, r⟩ := h
  exact fun pins s I => p.run pins s σ H Q I (r σ H C Q q)

/-! ### lists read -/
theorem denL_at {K : PySem.W.Frag} {H : Hp} {ds : List D} {ys : List V} {i : Int} (h : DenL K H ds ys) (e : atI ds i = some d) : ∃ y, atI ys i = some y ∧ Den K H d y := by
  unfold atI at e ⊢
  rw [← h.len]
  cases hx : ixN ds.length i with
  | none =>
    rw [hx] at e
    cases e
  | some j =>
    rw [hx] at e
    exact h.get e
theorem ed_ix {ds : List D} {i : Int} (ha : ED X a Γ (.lst ds)) (hb : ED X b Γ (iD i)) (h : atI ds i = some d) (hs : PlainIx b := by exact fun _ _ => rfl) : ED X (.Subscript a b pos) Γ d := by
  obtain ⟨ta, pa, qa⟩ := ha
  obtain ⟨tb, pb, qb⟩ := hb
  refine ⟨_, pe_ix ix_list pa pb hs, fun σ H C Q q => qa σ H C _ fun x H1 e1 h1 => qb σ H1 (C.mono e1) _ fun y H2 e2 h2 => ?_⟩
  have h1' := h1.mono e2
  simp only [Den] at h1'
  obtain ⟨p, ys, rfl, hq, hL⟩ := h1'
  obtain ⟨z, hz, hd⟩ := denL_at hL h
  exact ⟨p, ys, i, z, rfl, den_v.mp h2, SqL.of hq, hz, q z H2 (e1.trans e2) hd⟩
theorem ed_ixT {ds : List D} {i : Int} (ha : ED X a Γ (.tup ds)) (hb : ED X b Γ (iD i)) (h : atI ds i = some d) (hs : PlainIx b := by exact fun _ _ => rfl) : ED X (.Subscript a b pos) Γ d := by
  obtain ⟨ta, pa, qa⟩ := ha
  obtain ⟨tb, pb, qb⟩ := hb
  refine ⟨_, pe_ix ix_tup pa pb hs, fun σ H C Q q => qa σ H C _ fun x H1 e1 h1 => qb σ H1 (C.mono e1) _ fun y H2 e2 h2 => ?_⟩
  have h1' := h1.mono e2
  simp only [Den] at h1'
  obtain ⟨p, ys, rfl, hq, hL⟩ := h1'
  obtain ⟨z, hz, hd⟩ := denL_at hL h
  exact ⟨p, ys, i, z, rfl, den_v.mp h2, hq, hz, q z H2 (e1.trans e2) hd⟩
theorem ed_len {ds : List D} {p : Pos} (hm : X.mg "len" = none) (ha : ED X a Γ (.lst ds)) (hg : Gl X "len" := by rfl) (he : starEach (a :: []) X.env = (false, eval a X.env) :: starEach [] X.env := by rfl) (hpl : (backTo pos (starEach [] X.env)).any (·.1) = false := by rfl) :
    ED X (.Call (.Name "len" p) [a] [] pos) Γ (iD (ds.length : Int)) := by
  refine ed_callB (d := iD (ds.length : Int)) call_len_seq hm PySem.boot_len (ad_cons ha ad_nil he) (fun xs H h Q q => ?_) hg (by decide) (by decide) he hpl
  obtain ⟨x, rfl, h1⟩ := denL_one h
  simp only [Den] at h1
  obtain ⟨p, ys, rfl, hq, hL⟩ := h1
  refine ⟨p, ys, rfl, .inl (SqL.of hq), ?_⟩
  rw [← hL.len]
  exact q _ H (Ex.refl H) (den_v.mpr rfl)
theorem ed_lenS {ns : List Int} {p : Pos} (hm : X.mg "len" = none) (ha : ED X a Γ (.scr ns)) (hg : Gl X "len" := by rfl) (he : starEach (a :: []) X.env = (false, eval a X.env) :: starEach [] X.env := by rfl) (hpl : (backTo pos (starEach [] X.env)).any (·.1) = false := by rfl) :
    ED X (.Call (.Name "len" p) [a] [] pos) Γ (iD (ns.length : Int)) := by
  refine ed_callB (d := iD (ns.length : Int)) call_len_seq hm PySem.boot_len (ad_cons ha ad_nil he) (fun xs H h Q q => ?_) hg (by decide) (by decide) he hpl
  obtain ⟨x, rfl, h1⟩ := denL_one h
  simp only [Den] at h1
  obtain ⟨p, rfl, hq⟩ := h1
  refine ⟨p, _, rfl, .inl hq, ?_⟩
  rw [List.length_map]
  exact q _ H (Ex.refl H) (den_v.mpr rfl)
theorem ed_ixC {ns : List Int} {i n : Int} (ha : ED X a Γ (.scr ns)) (hb : ED X b Γ (iD i)) (h : atI ns i = some n) (hs : PlainIx b := by exact fun _ _ => rfl) : ED X (.Subscript a b pos) Γ (iD n) := by
  obtain ⟨ta, pa, qa⟩ := ha
  obtain ⟨tb, pb, qb⟩ := hb
  refine ⟨_, pe_ix ix_list pa pb hs, fun σ H C Q q => qa σ H C _ fun x H1 e1 h1 => qb σ H1 (C.mono e1) _ fun y H2 e2 h2 => ?_⟩
  have h1' := h1.mono e2
  simp only [Den] at h1'
  obtain ⟨p, rfl, hq⟩ := h1'
  refine ⟨p, _, i, .int n, rfl, den_v.mp h2, hq, ?_, q _ H2 (e1.trans e2) (den_v.mpr rfl)⟩
  unfold atI at h ⊢
  rw [List.length_map]
  cases hx : ixN ns.length i with
  | none =>
    rw [hx] at h
    cases h
  | some j =>
    rw [hx] at h
    show (ns.map V.int)[j]? = some (V.int n)
    rw [List.getElem?_map]
    have h' : ns[j]? = some n := h
    rw [h']
    rfl
/-- abs(e), int(e) of an int -/
theorem ed_abs {i : Int} {p : Pos} (hm : X.mg "abs" = none) (ha : ED X a Γ (iD i)) (hg : Gl X "abs" := by rfl) (he : starEach (a :: []) X.env = (false, eval a X.env) :: starEach [] X.env := by rfl) (hpl : (backTo pos (starEach [] X.env)).any (·.1) = false := by rfl) :
    ED X (.Call (.Name "abs" p) [a] [] pos) Γ (iD (if i < 0 then -i else i)) := by
  refine ed_callB (d := iD (if i < 0 then -i else i)) call_abs hm (by decide +kernel) (ad_cons ha ad_nil he) (fun xs H h Q q => ?_) hg (by decide) (by decide) he hpl
  obtain ⟨x, rfl, h1⟩ := denL_one h
  rw [den_v.mp h1]
  exact ⟨i, rfl, q _ H (Ex.refl H) (den_v.mpr rfl)⟩
theorem ed_toInt {i : Int} {p : Pos} (hm : X.mg "int" = none) (ha : ED X a Γ (iD i)) (hg : Gl X "int" := by rfl) (he : starEach (a :: []) X.env = (false, eval a X.env) :: starEach [] X.env := by rfl) (hpl : (backTo pos (starEach [] X.env)).any (·.1) = false := by rfl) :
    ED X (.Call (.Name "int" p) [a] [] pos) Γ (iD i) := by
  refine ed_callTy (d := iD i) call_int1 hm (by decide +kernel) (ad_cons ha ad_nil he) (fun xs H h Q q => ?_) hg (by decide) (by decide) he hpl
  obtain ⟨x, rfl, h1⟩ := denL_one h
  rw [den_v.mp h1]
  exact .inl ⟨i, rfl, q _ H (Ex.refl H) (den_v.mpr rfl)⟩

/-! ### loops -/
/-- for x in range(n) -/
theorem z_forR (i : Nat) {x : Str} {n : Nat} {p1 p2 p3 : Pos} (J : Nat → Gm → Prop) (hc : X.calm = true) (hm : X.mg "range" = none) (ha : ED X e Γ (iD (n : Int))) (hd : X.N.Nodup) (hn : (n : Int) < 2 ^ 62) (h0 : J 0 Γ)
    (hs : ∀ j Γ', j < n → J j Γ' → SsD X body (Γ'.set i (some (iD (j : Int)))) (fun o => (∃ Γ'', (o = .nx Γ'' ∨ o = .ct Γ'') ∧ J (j + 1) Γ'') ∨ (∃ d, o = .rt d ∧ Φ (.rt d)) ∨ (∃ Γ'', o = .bk Γ'' ∧ SsD X sts Γ'' Φ) ∨ ∃ c fs Γ'', o = .ex c fs Γ'' ∧ Φ (.ex c fs Γ'')))
    (k : ∀ Γ', J n Γ' → SsD X sts Γ' Φ) (hp : PassesOwn (model X.prog X.w) X.A X.env X.xe := by exact PassesOwn.never) (hN : X.N[i]? = some x := by rfl) (hx : Loc X.env.scope x := by first | exact Or.inl rfl | exact Or.inr rfl) (hg : Gl X "range" := by rfl)
    (he : starEach [e] X.env = [(false, eval e X.env)] := by rfl) (hse : starEach (e :: []) X.env = (false, eval e X.env) :: starEach [] X.env := by rfl)
    (hf : X.fn x = true ∨ X.env.scope.names.lookup x = some .local := by first | exact .inl rfl | exact .inr rfl)
    (hfs : ∀ x, foldedSetIterable (.Call (.Name "range" p1) [e] [] p2) X.env x = pure x := by intro _; rfl) : SsD X (.For (.Name x p3) (.Call (.Name "range" p1) [e] [] p2) body [] pos :: sts) Γ Φ := by
  obtain ⟨ta, pa, qa⟩ := ha
  refine ⟨_, pss_cons (ps_for hp hc (pi_range1 hg hm (pa_cons pa pa_nil hse) he) (pg_name (i := i) hd hN hx hf) (pss_all (st' := body)) hfs) (pss_all (st' := sts)), fun σ H hl C E T => ?_⟩
  refine qa σ H C _ fun v H1 e1 h1 => ?_
  refine ⟨(n : Int), by rw [den_v.mp h1], by omega, hn, ?_⟩
  rw [Int.toNat_natCast]
  have hi : i < X.N.length := (List.getElem?_eq_some_iff.mp hN).1
  refine for_range (lo := 0) (n := n) (fun j σ' H' => ∃ Γ', J j Γ' ∧ σ'.length = X.N.length ∧ Ctx X.K H' Γ' σ' ∧ Ex H1 H') ⟨Γ, h0, hl, C.mono e1, Ex.refl H1⟩ ?_ ?_
  · rintro j σ' H' hj ⟨Γ', g1, g2, g3, g4⟩
    show allS X body _ (σ'.set i (some (.int ((0 : Int) + (j : Int))))) H'
    rw [Int.zero_add]
    refine (hs j Γ' hj g1).all (by rw [List.length_set]; exact g2) (g3.set (by rw [g2]; exact hi) (den_v.mpr rfl)) ?_
    refine ⟨fun Γ'' σ2 H2 z e2 l2 c2 => ?_, fun d v H2 z e2 hv => ?_, fun Γ'' σ2 H2 z e2 l2 c2 => ?_, fun Γ'' σ2 H2 z e2 l2 c2 => ?_, fun cl fs Γ'' d σ2 H2 z e2 l2 c2 x2 => ?_⟩
    · rcases z with ⟨Γ3, z | z, w⟩ | ⟨_, z, _⟩ | ⟨_, z, _⟩ | ⟨_, _, _, z, _⟩ <;> cases z
      exact ⟨Γ'', w, l2, c2, g4.trans e2⟩
    · rcases z with ⟨Γ3, z | z, w⟩ | ⟨_, z, w⟩ | ⟨_, z, _⟩ | ⟨_, _, _, z, _⟩ <;> cases z
      exact T.rt d v H2 w ((e1.trans g4).trans e2) hv
    · rcases z with ⟨Γ3, z | z, w⟩ | ⟨_, z, w⟩ | ⟨_, z, w⟩ | ⟨_, _, _, z, _⟩ <;> cases z
      exact w.all l2 c2 (T.mono ((e1.trans g4).trans e2))
    · rcases z with ⟨Γ3, z | z, w⟩ | ⟨_, z, w⟩ | ⟨_, z, w⟩ | ⟨_, _, _, z, _⟩ <;> cases z
      exact ⟨Γ'', w, l2, c2, g4.trans e2⟩
    · rcases z with ⟨Γ3, z | z, w⟩ | ⟨_, z, w⟩ | ⟨_, z, w⟩ | ⟨_, _, _, z, w⟩ <;> cases z
      exact T.ex cl fs Γ'' d σ2 H2 w ((e1.trans g4).trans e2) l2 c2 x2
  · rintro σ' H' ⟨Γ', g1, g2, g3, g4⟩
    exact (k Γ' g1).all g2 g3 (T.mono (e1.trans g4))
/-- while -/
theorem z_while (J : Nat → Gm → Prop) (m0 : Nat) (h0 : J m0 Γ)
    (hs : ∀ m Γ', J m Γ' → ∃ k, TD X c Γ' k ∧ (k = true → SsD X body Γ' (fun o => (∃ Γ'' m', (o = .nx Γ'' ∨ o = .ct Γ'') ∧ m' < m ∧ J m' Γ'') ∨ (∃ d, o = .rt d ∧ Φ (.rt d)) ∨ (∃ Γ'', o = .bk Γ'' ∧ SsD X sts Γ'' Φ) ∨ ∃ c fs Γ'', o = .ex c fs Γ'' ∧ Φ (.ex c fs Γ''))) ∧ (k = false → SsD X sts Γ' Φ))
    (hp : PassesOwn (model X.prog X.w) X.A X.env X.xe := by exact PassesOwn.never) : SsD X (.While c body [] pos :: sts) Γ Φ := by
  refine ⟨_, pss_cons (ps_while hp (pt_all (c := c)) (pss_all (st' := body))) (pss_all (st' := sts)), fun σ H hl C E T => ?_⟩
  refine ⟨fun m σ' H' => ∃ Γ', J m Γ' ∧ σ'.length = X.N.length ∧ Ctx X.K H' Γ' σ' ∧ Ex H H', ⟨m0, Γ, h0, hl, C, Ex.refl H⟩, ?_⟩
  rintro m σ' H' ⟨Γ', g1, g2, g3, g4⟩
  obtain ⟨k, ht, hb, hn⟩ := hs m Γ' g1
  refine ht.all g3 fun H2 e2 => ?_
  cases k with
  | false =>
    show allS X sts E σ' H2
    exact (hn rfl).all g2 (g3.mono e2) (T.mono (g4.trans e2))
  | true =>
    show ∃ N : L2.St → Hp → Prop, _
    refine ⟨fun σ3 H3 => ∃ m' Γ3, m' < m ∧ J m' Γ3 ∧ σ3.length = X.N.length ∧ Ctx X.K H3 Γ3 σ3 ∧ Ex H H3, fun σ3 H3 ⟨m', Γ3, q1, q2, q3, q4, q5⟩ => ⟨m', q1, Γ3, q2, q3, q4, q5⟩, ?_⟩
    refine (hb rfl).all g2 (g3.mono e2) ?_
    refine ⟨fun Γ'' σ2 H2 z e3 l2 c2 => ?_, fun d v H2 z e3 hv => ?_, fun Γ'' σ2 H2 z e3 l2 c2 => ?_, fun Γ'' σ2 H2 z e3 l2 c2 => ?_, fun cl fs Γ'' d σ2 H2 z e3 l2 c2 x2 => ?_⟩
    · rcases z with ⟨Γ3, m', z | z, w1, w2⟩ | ⟨_, z, _⟩ | ⟨_, z, _⟩ | ⟨_, _, _, z, _⟩ <;> cases z
      exact ⟨m', Γ'', w1, w2, l2, c2, (g4.trans e2).trans e3⟩
    · rcases z with ⟨Γ3, m', z | z, w⟩ | ⟨_, z, w⟩ | ⟨_, z, _⟩ | ⟨_, _, _, z, _⟩ <;> cases z
      exact T.rt d v _ w ((g4.trans e2).trans e3) hv
    · rcases z with ⟨Γ3, m', z | z, w⟩ | ⟨_, z, w⟩ | ⟨_, z, w⟩ | ⟨_, _, _, z, _⟩ <;> cases z
      exact w.all l2 c2 (T.mono ((g4.trans e2).trans e3))
    · rcases z with ⟨Γ3, m', z | z, w1, w2⟩ | ⟨_, z, w⟩ | ⟨_, z, w⟩ | ⟨_, _, _, z, _⟩ <;> cases z
      exact ⟨m', Γ'', w1, w2, l2, c2, (g4.trans e2).trans e3⟩
    · rcases z with ⟨Γ3, m', z | z, w⟩ | ⟨_, z, w⟩ | ⟨_, z, w⟩ | ⟨_, _, _, z, w⟩ <;> cases z
      exact T.ex cl fs Γ'' d σ2 _ w ((g4.trans e2).trans e3) l2 c2 x2
/-- if c: body, joined behind: from whatever Γ' the two ways leave -/
theorem z_if {k : Bool} {sa sb : List Stmt} (J : Gm → Prop) (hc : TD X c Γ k) (ha : k = true → SsD X sa Γ (fun o => ∃ Γ', o = .nx Γ' ∧ J Γ')) (hb : k = false → SsD X sb Γ (fun o => ∃ Γ', o = .nx Γ' ∧ J Γ')) (h : ∀ Γ', J Γ' → SsD X sts Γ' Φ) : SsD X (.If c sa sb pos :: sts) Γ Φ :=
  ss_seq (Ψ := fun o => ∃ Γ', o = .nx Γ' ∧ J Γ') (sd_if hc ha hb) (fun Γ' ⟨Γ2, e, j⟩ => by
    cases e
    exact h _ j) fun o h1 ⟨Γ2, e, _⟩ => absurd e (h1 _)
end
end Trk

namespace Trk
open PySem L2 Evl
/-! ### comparisons of numbers, of which one at least is a Fraction -/
def R_cmp (C : Addr) (b : Rat → Rat → Bool) : List D → D → Prop := fun ds d => ∃ p y q, ds = [fr C p, y] ∧ NumV C y q ∧ Sz 4000 p ∧ Sz 4000 q ∧ d = bD (b p q)
def cmpB : CmpOp → Rat → Rat → Bool
  | .Eq, p, q => decide (p = q)
  | .NotEq, p, q => !decide (p = q)
  | .Lt, p, q => decide (p < q)
  | .LtE, p, q => decide (p ≤ q)
  | .Gt, p, q => decide (q < p)
  | .GtE, p, q => decide (q ≤ p)
  | _, _, _ => false
def six : CmpOp → Bool
  | .Eq | .NotEq | .Lt | .LtE | .Gt | .GtE => true
  | _ => false
def mirr : CmpOp → CmpOp
  | .Lt => .Gt
  | .LtE => .GtE
  | .Gt => .Lt
  | .GtE => .LtE
  | o => o
theorem cmpB_mirr {op : CmpOp} (p q : Rat) : cmpB (mirr op) q p = cmpB op p q := by
  cases op <;> first | rfl | (show decide (q = p) = decide (p = q); exact decide_eq_decide.mpr eq_comm) | (show (!decide (q = p)) = !decide (p = q); rw [show decide (q = p) = decide (p = q) from decide_eq_decide.mpr eq_comm])
/-- the six methods keep their promises -/
structure CmpOk (P : Program) (w : World) (K : PySem.W.Frag) (mg : Str → Option Value) (base : Heap) (C : Addr) (op : CmpOp) : Prop where
  ex : ∃ f fd ps, CmpM K C (cmpInfo op).2.1 f ∧ FnOk P w K mg base CX0 6 f fd ps (spD K 2 (R_cmp C (cmpB op))) ∧ Binds K fd ps []
def PairV (C : Addr) (x y : D) (p q : Rat) : Prop := (x = fr C p ∧ NumV C y q) ∨ (y = fr C q ∧ NumV C x p)
section
variable {X : Cx} {Γ : Gm} {d1 d2 : D} {a b : Expr} {pos : Pos} {C : Addr} {p q : Rat}
theorem ed_cmpN {op : CmpOp} (T : FrTxt X.K X.mg C) (HC : ∀ op, six op = true → CmpOk X.prog X.w X.K X.mg X.base C op) (h6 : six op = true) (hr : Room 6 X.A) (ha : ED X a Γ d1) (hb : ED X b Γ d2) (h : PairV C d1 d2 p q) (hp : Sz 4000 p) (hq : Sz 4000 q)
    (hm : behindInMarks op b = false := by exact nomark _) : ED X (.Compare a [op] [b] pos) Γ (bD (cmpB op p q)) := by
  obtain ⟨f, fd, ps, M, F, B⟩ := (HC op h6).ex
  have ro : ∀ a b, compareOp op a b = richCompare op a b := by cases op <;> first | (intro _ _; rfl) | cases h6
  rcases h with ⟨rfl, hy⟩ | ⟨rfl, hx⟩
  · rcases id hy with rfl | ⟨n, rfl, rfl⟩
    · exact ed_cmp (cmp_own ro M F hr B pass0) ha hb (rd_own ⟨p, _, q, rfl, hy, hp, hq, rfl⟩) hm
    · exact ed_cmp (cmp_ownI ro M T.sub1 F hr B pass0) ha hb (rd_ownI ⟨p, _, _, rfl, hy, hp, hq, rfl⟩) hm
  · rcases id hx with rfl | ⟨n, rfl, rfl⟩
    · exact ed_cmp (cmp_own ro M F hr B pass0) ha hb (rd_own ⟨p, _, q, rfl, .inl rfl, hp, hq, rfl⟩) hm
    · have h6' : six (mirr op) = true := by cases op <;> first | rfl | cases h6
      obtain ⟨g, gd, qs, M', F', B'⟩ := (HC (mirr op) h6').ex
      have e : (cmpInfo op).2.2 = (cmpInfo (mirr op)).2.1 := by cases op <;> first | rfl | cases h6
      have M2 : CmpM X.K C (cmpInfo op).2.2 g := by rw [e]; exact M'
      have S : ∃ id B, CmpSlot op id B := by
        cases op <;> first | exact ⟨_, _, cEq⟩ | exact ⟨_, _, cNe⟩ | exact ⟨_, _, cLt⟩ | exact ⟨_, _, cLe⟩ | exact ⟨_, _, cGt⟩ | exact ⟨_, _, cGe⟩ | cases h6
      obtain ⟨id, B0, S⟩ := S
      refine ed_is (ed_cmp (cmp_iown ro S M2 T.sub2 F' hr B' pass0) ha hb (rd_iown ⟨q, _, _, rfl, .inr ⟨n, rfl, rfl⟩, hq, hp, rfl⟩) hm) ?_
      rw [cmpB_mirr]
end
/-! ### the script -/
theorem denL_ints {K : PySem.W.Frag} {H : Hp} : ∀ ns : List Int, DenL K H (ns.map iD) (ns.map V.int)
  | [] => DenL.nil
  | n :: ns => DenL.cons (den_v.mpr rfl) (denL_ints ns)
theorem den_script {K : PySem.W.Frag} {H : Hp} {a : Addr} {ns : List Int} (h : SqL K H a (ns.map V.int)) : Den K H (.scr ns) (.ref a) := by
  simp only [Den]
  exact ⟨a, rfl, h⟩
/-- _law_cell -/
def R_cell : List D → D → Prop := fun ds d => ∃ (ns : List Int) (k : Nat), ds = [.scr ns, iD (k : Int)] ∧ d = iD (ns.getD k 0)
theorem at_nat {α : Type} {xs : List α} {j : Nat} {v : α} (h : xs[j]? = some v) : atI xs (j : Int) = some v := atI_nat h
/-- the law itself -/
def R_law : List D → D → Prop := fun ds d => ∃ ns : List Int, ds = [.scr ns] ∧ ns.length ≤ 63 ∧ d = bD true
theorem sp_law {K : PySem.W.Frag} {H : Hp} {a : Addr} {ns : List Int} {Q : VK} {E : XK} (hl : ns.length ≤ 63) (hS : SqL K H a (ns.map V.int)) (h : ∀ H', Q (.bl true) H') : spD K 1 R_law [.ref a] H Q E :=
  ⟨_, _, rfl, DenL.cons (den_script hS) DenL.nil, ⟨ns, rfl, hl, rfl⟩, fun v H' _ hv => by
    rw [den_v.mp hv]
    exact h H'⟩
end Trk

namespace Trk
open PySem L2 Evl
section
variable {X : Cx} {Γ : Gm} {d d1 d2 : D} {e a b c : Expr} {es : List Expr} {pos : Pos} {st : Stmt} {sts body rest : List Stmt} {Φ Ψ : Out → Prop} {cls : Value} {fs : List (Str × D)}
/-- an expression that raises -/
def XD (X : Cx) (e : Expr) (Γ : Gm) (cls : Value) (fs : List (Str × D)) : Prop :=
  ∃ t, PE X e t ∧ ∀ σ H, Ctx X.K H Γ σ → (∀ d H', Ex H H' → DenX X.K H' d fs → W0 X cls d σ H') → ∀ Q : VK, t σ H Q
theorem sd_exprX (h : XD X e Γ cls fs) (hp : Φ (.ex cls fs Γ)) (hs : swapsWith e none pos.line X.env = pure false := by rfl) : SD X (.Expr e pos) Γ Φ := by
  obtain ⟨t, p, q⟩ := h
  exact ⟨_, ps_expr p hs, fun σ H hl C E T => q σ H C (fun d H' e1 hx => T.ex cls fs Γ d σ H' hp e1 hl (C.mono e1) hx) _⟩
theorem sd_retX (h : XD X e Γ cls fs) (hp : Φ (.ex cls fs Γ)) : SD X (.Return (some e) pos) Γ Φ := by
  obtain ⟨t, p, q⟩ := h
  exact ⟨_, ps_ret p, fun σ H hl C E T => q σ H C (fun d H' e1 hx => T.ex cls fs Γ d σ H' hp e1 hl (C.mono e1) hx) _⟩
theorem sd_asgX (i : Nat) {x : Str} {pos' : Pos} (h : XD X e Γ cls fs) (hd : X.N.Nodup) (hp : Φ (.ex cls fs Γ)) (hN : X.N[i]? = some x := by rfl) (hx : Loc X.env.scope x := by first | exact Or.inl rfl | exact Or.inr rfl)
    (hs : swapsWith e (some (.Name x pos')) pos.line X.env = pure false := by rfl) (hf : X.fn x = true ∨ X.env.scope.names.lookup x = some .local := by first | exact .inl rfl | exact .inr rfl) : SD X (.Assign [.Name x pos'] e pos) Γ Φ := by
  obtain ⟨t, p, q⟩ := h
  exact ⟨_, ps_set (i := i) hd hN hx p hs hf, fun σ H hl C E T => q σ H C (fun d H' e1 hx => T.ex cls fs Γ d σ H' hp e1 hl (C.mono e1) hx) _⟩
/-- a statement that leaves: nothing of the rest is asked -/
theorem ss_out (h : SD X st Γ Φ) (hn : ∀ Γ', ¬ Φ (.nx Γ')) : SsD X (st :: sts) Γ Φ := ss_seq h (fun Γ' z => absurd z (hn Γ')) fun o _ z => z

/-! ### raise X(), an own class without __init__ -/
structure ErT (K : PySem.W.Frag) (mg : Str → Option Value) (x : Str) (C : Addr) : Prop where
  mg : mg x = some (.ref C)
  exc : PySem.W.excIn K C [.type "ValueError", .type "Exception", .type "BaseException", .type "object"] "ValueError.__new__" = true
  kp : PySem.W.keepIn K (.ref C) = true
  be : PySem.W.subIn K (.ref C) (.type "BaseException") = some true
  ty : PySem.W.typeIn K (.ref C) = some (.type "type")
  hd : PySem.W.hasDictIn K C = true
  self : PySem.W.subIn K (.ref C) (.ref C) = some true
theorem pmk_own0 {x : Str} {C : Addr} {p : Pos} (T : ErT X.K X.mg x C) (hg : Gl X x) (hdb : (x == ("__debug__" : Str)) = false := by decide) : PMk X (.Call (.Name x p) [] [] pos) (fun _ H Q => Q (.ref C) none H) := by
  intro pins s σ H Q I h
  refine wpAny_Call_Name_kw (ld_glob I hg T.mg ?_ hdb)
  refine PySem.W.callWith_K0 (first := []) I.kIn T.kp ?_
  obtain ⟨bm, N, nm, qn, bs, hdct, sn, sub, ab, col, dd, k0, k1, k2, k3, k5, mN, hC, hN, hni, OT⟩ := exc_obj I.kIn T.exc
  obtain ⟨hp, g, dr, tk, os⟩ := s
  refine wpAny_call_exc_subT PySem.F.excBase_ValueError OT hC hN hni (fun h' e hm => ?_) (Nat.zero_le _)
  exact mk_of I hm (raises_own T.be T.ty) h (I.hok.gone hm.new)
theorem sd_raise0 {x : Str} {C : Addr} {p p2 : Pos} (hc : X.calm = true) (T : ErT X.K X.mg x C) (h : Φ (.ex (.ref C) [] Γ)) (hg : Gl X x := by rfl) (hdb : (x == ("__debug__" : Str)) = false := by decide) : SD X (.Raise (some (.Call (.Name x p) [] [] pos)) none p2) Γ Φ :=
  ⟨_, ps_raise hc tk0 (pmk_own0 T hg hdb), fun σ H hl C E T => T.ex _ _ Γ none σ H h (Ex.refl H) hl C (.inl ⟨rfl, rfl⟩)⟩

/-! ### what a def that may raise promises -/
def spX (K : PySem.W.Frag) (n : Nat) (R : List D → D → Prop) (RX : List D → Value → List (Str × D) → Prop) : Sp := fun vs H Q E => ∃ ds, ds.length = n ∧ DenL K H ds vs ∧
  ((∃ d, R ds d ∧ ∀ v H', Ex H H' → Den K H' d v → Q v H') ∨ ∃ cls fs, RX ds cls fs ∧ ∀ d H', Ex H H' → DenX K H' d fs → E cls d H')
abbrev WS (X : Cx) : L2.St → XK := fun σ cls d H => W0 X cls d σ H
theorem passW {σ : L2.St} : PassesAt (L2.CX X.prog X.w) X σ (WS X σ) := passAt tk0 σ
/-- f(e, ..) that may raise -/
theorem ed_callX {k n : Nat} {f : Addr} {fd : FuncData} {ps : List Str} {R : List D → D → Prop} {RX : List D → Value → List (Str × D) → Prop} {x : Str} {p : Pos} {ds : List D} (F : FnOk X.prog X.w X.K X.mg X.base (L2.CX X.prog X.w) k f fd ps (spX X.K n R RX)) (hr : Room k X.A) (hm : X.mg x = some (.ref f))
    (hk : PySem.W.keepIn X.K (.ref f) = true) (hb : Binds X.K fd ps []) (ha : AD X (e :: es) Γ ds) (hR : R ds d) (hn : ds.length = n := by rfl) (hg : Gl X x := by rfl) (hdb : (x == ("__debug__" : Str)) = false := by decide)
    (he : starEach (e :: es) X.env = (false, eval e X.env) :: starEach es X.env := by rfl) (hpl : (backTo pos (starEach es X.env)).any (·.1) = false := by rfl) : ED X (.Call (.Name x p) (e :: es) [] pos) Γ d := by
  obtain ⟨t, p, q⟩ := ha
  exact ⟨_, pe_callS F hr hg hm hk hb (fun σ => passW) p hdb he hpl, fun σ H C Q r => q σ H C _ fun vs H1 e1 h1 => ⟨ds, hn, h1, .inl ⟨d, hR, fun v H' e2 h2 => r v H' (e1.trans e2) h2⟩⟩⟩
theorem xd_callX {k n : Nat} {f : Addr} {fd : FuncData} {ps : List Str} {R : List D → D → Prop} {RX : List D → Value → List (Str × D) → Prop} {x : Str} {p : Pos} {ds : List D} (F : FnOk X.prog X.w X.K X.mg X.base (L2.CX X.prog X.w) k f fd ps (spX X.K n R RX)) (hr : Room k X.A) (hm : X.mg x = some (.ref f))
    (hk : PySem.W.keepIn X.K (.ref f) = true) (hb : Binds X.K fd ps []) (ha : AD X (e :: es) Γ ds) (hR : RX ds cls fs) (hn : ds.length = n := by rfl) (hg : Gl X x := by rfl) (hdb : (x == ("__debug__" : Str)) = false := by decide)
    (he : starEach (e :: es) X.env = (false, eval e X.env) :: starEach es X.env := by rfl) (hpl : (backTo pos (starEach es X.env)).any (·.1) = false := by rfl) : XD X (.Call (.Name x p) (e :: es) [] pos) Γ cls fs := by
  obtain ⟨t, p, q⟩ := ha
  exact ⟨_, pe_callS F hr hg hm hk hb (fun σ => passW) p hdb he hpl, fun σ H C r Q => q σ H C _ fun vs H1 e1 h1 => ⟨ds, hn, h1, .inr ⟨cls, fs, hR, fun d H' e2 h2 => r d H' (e1.trans e2) h2⟩⟩⟩

/-- a new instance whose __init__ may raise, at the slots σ -/
theorem new_at {CX : CXT} {k : Nat} {f C : Addr} {fd : FuncData} {ps : List Str} {sp : Sp} {dvs : List V} {ds : List Value} {E : XK} {pins : List (Addr × Obj)} {σ : L2.St} {H : Hp} {s : Shared} {Q : VK} {us : List Value} {vs : List V} (M : Mk X.K C f) (F : FnOk X.prog X.w X.K X.mg X.base CX k f fd ps sp)
    (hr : Room (k + 1) X.A) (hb : Binds X.K fd ps ds) (hd : Vals dvs ds) (pa : PassesAt CX X σ E) (I : Inv X pins σ H s) (r : Vals vs us)
    (go : ∀ x dx, H x = none → H dx = none → dx ≠ x → sp (.ref x :: (vs ++ dvs)) (upd (upd H dx (.own x)) x (.ins C dx [])) (fun v H2 => v = .non ∧ Q (.ref x) H2) E) : wpAny (model X.prog X.w) X.A (call (.ref C) us) (EP X pins σ Q) X.xe s := by
  let n := s.heap.objs.size
  have J : Inv X pins σ _ _ := Inv.made (C := C) I
  have told := go (n + 1) n (I.hok.fresh (Nat.le_succ _)) (I.hok.fresh (Nat.le_refl _)) (Nat.ne_of_lt (Nat.lt_succ_self _))
  have rel : Vals (V.ref (n + 1) :: (vs ++ dvs)) (Value.ref (n + 1) :: (us ++ ds)) := .cons (show RelV (V.ref (n + 1)) (Value.ref (n + 1)) from rfl) (r.append hd)
  have len : (Value.ref (n + 1) :: us ++ ds).length = ps.length := (rel.length.symm.trans (F.len _ _ _ _ told))
  have bound := hb _ (Value.ref (n + 1) :: us) J.kIn len
  have ran := F.run _ X.stack _ _ ⟨Value.ref (n + 1) :: us, []⟩ (Value.ref (n + 1) :: (us ++ ds)) _ _ E (hr.make C us []) (J.env0.make C us []) bound rel told
  refine wpAny_call (make_map (f := f) I.kIn M.makes M.init (beq_iff_eq.mp M.fn) (codeAny_mono ran fun res s' out => ?_))
  rcases res with err | fl
  · exact pa pins _ _ err s' J out
  · cases fl with
    | ret u =>
      obtain ⟨y, H', I3, ry, ey, q3⟩ := J.after out
      subst ey
      exact ⟨ry, ⟨V.ref (n + 1), H', I3, rfl, q3⟩⟩
    | next => exact out.elim
    | brk => exact out.elim
    | cont => exact out.elim
def tMakeS (C : Addr) (sp : Sp) (dvs : List V) (E : L2.St → XK) (t : TA) : TE := fun σ H Q => t σ H fun vs H1 => ∀ x dx, H1 x = none → H1 dx = none → dx ≠ x → sp (.ref x :: (vs ++ dvs)) (upd (upd H1 dx (.own x)) x (.ins C dx [])) (fun v H2 => v = .non ∧ Q (.ref x) H2) (E σ)
theorem pe_makeS {CX : CXT} {k : Nat} {f C : Addr} {fd : FuncData} {ps : List Str} {sp : Sp} {dvs : List V} {ds : List Value} {E : L2.St → XK} {x : Str} {p : Pos} {t : TA} (M : Mk X.K C f) (F : FnOk X.prog X.w X.K X.mg X.base CX k f fd ps sp) (hr : Room (k + 1) X.A) (hg : Gl X x) (hm : X.mg x = some (.ref C))
    (hb : Binds X.K fd ps ds) (hd : Vals dvs ds) (pa : ∀ σ, PassesAt CX X σ (E σ)) (ha : PA X (e :: es) t) (hdb : (x == ("__debug__" : Str)) = false := by decide) (he : starEach (e :: es) X.env = (false, eval e X.env) :: starEach es X.env := by rfl)
    (hpl : (backTo pos (starEach es X.env)).any (·.1) = false := by rfl) : PE X (.Call (.Name x p) (e :: es) [] pos) (tMakeS C sp dvs E t) := by
  refine ⟨fun pins s σ H Q I h => wpAny_Call_Name_kw (ld_glob I hg hm ?_ hdb)⟩
  exact PySem.W.callWith_K (h₀ := X.base) I.ok.mod.kin M.kp (thn (ha.run pos pins s σ H _ I h) fun us s1 ⟨vs, H1, I1, r, q⟩ => ⟨I1.kIn, new_at M F hr hb hd (pa σ) I1 r q⟩) he hpl

/-! ### try: .. except X: .. -/
theorem names_own {x : Str} {C : Addr} (hm : X.mg x = some (.ref C)) (hg : Gl X x := by rfl) (hdb : (x == ("__debug__" : Str)) = false := by decide) : Names X x (.ref C) := ⟨hg, hdb, .inl hm⟩
/-- what the body does, whatever is around it -/
def bodyT (X : Cx) (body : List Stmt) : WX → TS := fun W E σ H => ∀ (pn : List (Addr × Obj)) (xe : Value → Shared → Prop), L2.Takes (X.tr pn xe) W → PassesOwn (model X.prog X.w) X.A X.env xe → allS (X.tr pn xe) body E σ H
def suiteT (X : Cx) (suite : List Stmt) : Addr → Value → Option Addr → TS := fun a cls d E σ H => ∀ (oe : Obj) (pn : List (Addr × Obj)), Zc cls d oe → (∃ vs, oe.data = .fields vs) → allS (X.suite a ((a, oe) :: pn)) suite E σ H
theorem sd_try {x : Str} {C : Addr} {b₀ : Stmt} {suite : List Stmt} {np pos' : Pos} (hs : X.stack = X.env :: X.outer) (hf : X.env.frame = some X.env.locals) (hc : Names X x (.ref C))
    (hb : ∀ pn xe, PassesOwn (model X.prog X.w) X.A X.env xe → SsD (X.tr pn xe) body Γ Ψ)
    (ho : ∀ o, (∀ c fs Γ', o ≠ .ex c fs Γ') → Ψ o → Φ o)
    (hx : ∀ c fs Γ', Ψ (.ex c fs Γ') → ∃ k, PySem.W.exmOne X.K c (.ref C) = some k ∧ (k = true → ∀ a oe d pn, Zc c d oe → (∃ vs, oe.data = .fields vs) → SsD (X.suite a ((a, oe) :: pn)) (b₀ :: suite) Γ' (fun o => (∀ c fs Γ2, o ≠ .ex c fs Γ2) ∧ Φ o)) ∧ (k = false → Φ (.ex c fs Γ'))) :
    SD X (.Try body [.ExceptHandler (some (.Name x np)) none (b₀ :: suite) pos'] [] [] pos) Γ Φ := by
  refine ⟨_, ps_try_only hs hf hc (tk0 (X := X)) (tb := bodyT X body) (ts := suiteT X (b₀ :: suite)) (fun W pn xe tk hp => ⟨fun pins s σ H E I h => h pn xe tk hp pins s I⟩)
    (fun a oe cls d pn hz hfl => ⟨fun pins s σ H E I h => h oe pn hz hfl pins s I⟩), fun σ H hl C0 E T => ?_⟩
  intro pn xe tk hp
  refine (hb pn xe hp).all hl C0 ?_
  refine ⟨fun Γ' σ' H' z e1 l1 c1 => T.nx Γ' σ' H' (ho _ (fun _ _ _ w => by cases w) z) e1 l1 c1, fun d v H' z e1 hv => T.rt d v H' (ho _ (fun _ _ _ w => by cases w) z) e1 hv,
    fun Γ' σ' H' z e1 l1 c1 => T.bk Γ' σ' H' (ho _ (fun _ _ _ w => by cases w) z) e1 l1 c1, fun Γ' σ' H' z e1 l1 c1 => T.ct Γ' σ' H' (ho _ (fun _ _ _ w => by cases w) z) e1 l1 c1, fun c fs Γ' d σ' H' z e1 l1 c1 x1 => ?_⟩
  refine w0_of tk ?_
  obtain ⟨k, h1, h2, h3⟩ := hx c fs Γ' z
  refine ⟨k, h1, fun hk a na => ?_, fun hk => T.ex c fs Γ' d σ' H' (h3 hk) e1 l1 c1 x1⟩
  intro oe pn2 hz hfl
  refine (h2 hk a oe d pn2 hz hfl).all l1 c1 ?_
  have T' := T.mono e1
  exact ⟨fun Γ2 σ2 H2 z2 => T'.nx Γ2 σ2 H2 z2.2, fun d2 v H2 z2 => T'.rt d2 v H2 z2.2, fun Γ2 σ2 H2 z2 => T'.bk Γ2 σ2 H2 z2.2, fun Γ2 σ2 H2 z2 => T'.ct Γ2 σ2 H2 z2.2, fun c2 fs2 Γ2 d2 σ2 H2 z2 => absurd rfl (z2.1 c2 fs2 Γ2)⟩
theorem Ctx.unset {K : PySem.W.Frag} {H : Hp} {Γ : Gm} {σ : L2.St} {i : Nat} (c : Ctx K H Γ σ) : Ctx K H (Γ.set i none) (σ.set i none) := fun j d' e => by
  by_cases hj : i = j
  · subst hj
    rw [List.getElem?_set] at e
    simp only [if_true] at e
    split at e <;> cases e
  · rw [List.getElem?_set_ne hj] at e
    obtain ⟨w, h1, h2⟩ := c j d' e
    exact ⟨w, by rw [List.getElem?_set_ne hj]; exact h1, h2⟩
/-- what is behind the suite: the name is gone -/
def gone (i : Nat) (Φ : Out → Prop) : Out → Prop
  | .nx Γ => Φ (.nx (Γ.set i none))
  | .bk Γ => Φ (.bk (Γ.set i none))
  | .ct Γ => Φ (.ct (Γ.set i none))
  | .rt d => Φ (.rt d)
  | .ex _ _ _ => False
theorem sd_tryAs (i : Nat) {x n : Str} {C : Addr} {b₀ : Stmt} {suite : List Stmt} {np pos' : Pos} (hs : X.stack = X.env :: X.outer) (hf : X.env.frame = some X.env.locals) (hd : X.N.Nodup) (hc : Names X x (.ref C))
    (hb : ∀ pn xe, PassesOwn (model X.prog X.w) X.A X.env xe → SsD (X.tr pn xe) body Γ Ψ)
    (ho : ∀ o, (∀ c fs Γ', o ≠ .ex c fs Γ') → Ψ o → Φ o)
    (hx : ∀ c fs Γ', Ψ (.ex c fs Γ') → ∃ k, PySem.W.exmOne X.K c (.ref C) = some k ∧ (k = true → ∀ a oe d pn, Zc c d oe → (fs = [] → d = none) → (∃ vs, oe.data = .fields vs) → SsD (X.suite a ((a, oe) :: pn)) (b₀ :: suite) (Γ'.set i (some (.v (.ref a)))) (gone i Φ)) ∧ (k = false → Φ (.ex c fs Γ')))
    (hN : X.N[i]? = some n := by rfl) (hln : X.env.kindOf n = some .local := by rfl) :
    SD X (.Try body [.ExceptHandler (some (.Name x np)) (some n) (b₀ :: suite) pos'] [] [] pos) Γ Φ := by
  refine ⟨_, ps_try_as (i := i) hs hf hd hN hln hc (tk0 (X := X)) (tb := bodyT X body) (ts := suiteT X (b₀ :: suite)) (fun W pn xe tk hp => ⟨fun pins s σ H E I h => h pn xe tk hp pins s I⟩)
    (fun a oe cls d pn hz hfl => ⟨fun pins s σ H E I h => h oe pn hz hfl pins s I⟩), fun σ H hl C0 E T => ?_⟩
  intro pn xe tk hp
  refine (hb pn xe hp).all hl C0 ?_
  refine ⟨fun Γ' σ' H' z e1 l1 c1 => T.nx Γ' σ' H' (ho _ (fun _ _ _ w => by cases w) z) e1 l1 c1, fun d v H' z e1 hv => T.rt d v H' (ho _ (fun _ _ _ w => by cases w) z) e1 hv,
    fun Γ' σ' H' z e1 l1 c1 => T.bk Γ' σ' H' (ho _ (fun _ _ _ w => by cases w) z) e1 l1 c1, fun Γ' σ' H' z e1 l1 c1 => T.ct Γ' σ' H' (ho _ (fun _ _ _ w => by cases w) z) e1 l1 c1, fun c fs Γ' d σ' H' z e1 l1 c1 x1 => ?_⟩
  refine w0_of tk ?_
  obtain ⟨k, h1, h2, h3⟩ := hx c fs Γ' z
  refine ⟨k, h1, fun hk a na => ?_, fun hk => T.ex c fs Γ' d σ' H' (h3 hk) e1 l1 c1 x1⟩
  intro oe pn2 hz hfl
  have hi : i < σ'.length := by
    rw [l1]
    exact (List.getElem?_eq_some_iff.mp hN).1
  have hd0 : fs = [] → d = none := fun e0 => by
    rcases x1 with ⟨_, q⟩ | ⟨dd, gs, q, _⟩
    · exact q
    · exact absurd e0 q
  refine (h2 hk a oe d pn2 hz hd0 hfl).all (by rw [List.length_set]; exact l1) (c1.set hi (den_v.mpr rfl)) ?_
  have T' := T.mono e1
  exact ⟨fun Γ2 σ2 H2 z2 e2 l2 c2 => T'.nx _ _ H2 z2 e2 (by rw [List.length_set]; exact l2) c2.unset, fun d2 v H2 z2 => T'.rt d2 v H2 z2, fun Γ2 σ2 H2 z2 e2 l2 c2 => T'.bk _ _ H2 z2 e2 (by rw [List.length_set]; exact l2) c2.unset,
    fun Γ2 σ2 H2 z2 e2 l2 c2 => T'.ct _ _ H2 z2 e2 (by rw [List.length_set]; exact l2) c2.unset, fun c2 fs2 Γ2 d2 σ2 H2 z2 => z2.elim⟩
end

/-! ### lists of ints compared -/
theorem py_ints {K : PySem.W.Frag} {H : Hp} : ∀ {ns : List Int} {ys : List V}, DenL K H (ns.map iD) ys → DpAll K H ys (ns.map PyData.int)
  | [], ys, h => by
    simp only [List.map_nil, DenL] at h
    subst h
    exact .nil
  | n :: ns, ys, h => by
    simp only [List.map_cons, DenL] at h
    obtain ⟨z, zs, rfl, h1, h2⟩ := h
    rw [den_v.mp h1]
    exact .cons (.int n) (py_ints h2)
theorem py_lay : ∀ ns : List Int, PyData.canLayAll0 (ns.map PyData.int) = true
  | [] => by simp [PyData.canLayAll0]
  | n :: ns => by
    rw [List.map_cons]
    simp only [PyData.canLayAll0, PyData.canLay0, py_lay ns, Bool.and_self]
theorem py_dep : ∀ ns : List Int, PyData.depthAll (ns.map PyData.int) = 0
  | [] => by simp [PyData.depthAll]
  | n :: ns => by
    rw [List.map_cons]
    simp [PyData.depthAll, PyData.depth, py_dep ns]
theorem py_shaped (ns : List Int) : SeqAt.shaped (.list (ns.map PyData.int)) = true := by
  unfold SeqAt.shaped
  simp [PyData.canLay0, PyData.depth, py_lay, py_dep]
theorem py_eqv : ∀ ns ms : List Int, PyData.eqvAll (ns.map PyData.int) (ms.map PyData.int) = decide (ns = ms)
  | [], [] => by simp [PyData.eqvAll]
  | [], m :: ms => by simp [PyData.eqvAll]
  | n :: ns, [] => by simp [PyData.eqvAll]
  | n :: ns, m :: ms => by
    simp only [List.map_cons, PyData.eqvAll, PyData.eqv, py_eqv ns ms]
    by_cases h : n = m
    · subst h
      simp
    · simp [h]
theorem dp_ints {K : PySem.W.Frag} {H : Hp} {ns : List Int} {y : V} (h : Den K H (.lst (ns.map iD)) y) : Dp K H y (.list (ns.map PyData.int)) := by
  simp only [Den] at h
  obtain ⟨a, ys, rfl, h1, h2⟩ := h
  exact .lst (SqL.of h1) (py_ints h2)
theorem rd_eqL {K : PySem.W.Frag} {ns ms : List Int} : RD K (rEqD K) (.lst (ns.map iD)) (.lst (ms.map iD)) (bD (decide (ns = ms))) := fun x y H h1 h2 Q q =>
  ⟨_, _, dp_ints h1, dp_ints h2, py_shaped ns, py_shaped ms, by
    have e : PyData.eqv (.list (ns.map PyData.int)) (.list (ms.map PyData.int)) = decide (ns = ms) := by
      simp only [PyData.eqv]
      exact py_eqv ns ms
    rw [e]
    exact q _ H (Ex.refl H) (den_v.mpr rfl)⟩
theorem rd_neL {K : PySem.W.Frag} {ns ms : List Int} : RD K (rNeD K) (.lst (ns.map iD)) (.lst (ms.map iD)) (bD (!decide (ns = ms))) := fun x y H h1 h2 Q q =>
  ⟨_, _, dp_ints h1, dp_ints h2, py_shaped ns, py_shaped ms, by
    have e : PyData.eqv (.list (ns.map PyData.int)) (.list (ms.map PyData.int)) = decide (ns = ms) := by
      simp only [PyData.eqv]
      exact py_eqv ns ms
    rw [e]
    exact q _ H (Ex.refl H) (den_v.mpr rfl)⟩

/-! ### Fraction(a, 0) -/
def spInitX (C CB : Addr) : Sp := fun vs H Q E => ∃ (p dx : Addr) (a b : Int), vs = [.ref p, .int a, .int b] ∧ H p = some (.ins C dx []) ∧
  ((b ≠ 0 ∧ b.natAbs < 2 ^ 8900 ∧ Q .non (upd H p (.ins C dx [("top", .int (Rat.divInt a b).num), ("bottom", .int ((Rat.divInt a b).den : Int))]))) ∨ (b = 0 ∧ E (.ref CB) none H))
section
variable {X : Cx} {Γ : Gm} {d : D} {e a c : Expr} {es : List Expr} {pos : Pos} {C CB : Addr}
theorem ex_new2 {H H1 : Hp} {x dx : Addr} {o u : HO} (e1 : Ex H H1) (nx : H1 x = none) (ndx : H1 dx = none) : Ex H (upd (upd H1 dx o) x u) := fun b w hw => by
  have h1 := e1 b w hw
  rw [upd_ne (ne_of_none h1 nx), upd_ne (ne_of_none h1 ndx)]
  exact h1
theorem xd_mk {k : Nat} {f : Addr} {fd : FuncData} {ps : List Str} {p : Pos} {i : Int} (M : Mk X.K C f) (F : FnOk X.prog X.w X.K X.mg X.base (L2.CX X.prog X.w) k f fd ps (spInitX C CB)) (hr : Room (k + 1) X.A) (hm : X.mg "Fraction" = some (.ref C))
    (hb : Binds X.K fd ps []) (ha : AD X (e :: es) Γ [iD i, iD 0]) (hg : Gl X "Fraction" := by rfl) (he : starEach (e :: es) X.env = (false, eval e X.env) :: starEach es X.env := by rfl)
    (hpl : (backTo pos (starEach es X.env)).any (·.1) = false := by rfl) : XD X (.Call (.Name "Fraction" p) (e :: es) [] pos) Γ (.ref CB) [] := by
  obtain ⟨t, pp, q⟩ := ha
  refine ⟨_, pe_makeS M F hr hg hm hb .nil (fun σ => passW) pp (by decide) he hpl, fun σ H Cc w Q => q σ H Cc _ fun vs H1 e1 h1 x dx nx ndx ne => ?_⟩
  obtain ⟨x1, x2, rfl, h2, h3⟩ := denL_two h1
  rw [den_v.mp h2, den_v.mp h3]
  exact ⟨x, dx, i, 0, rfl, upd_same, .inr ⟨rfl, w none _ (ex_new2 e1 nx ndx) (.inl ⟨rfl, rfl⟩)⟩⟩
theorem ed_mkX {k : Nat} {f : Addr} {fd : FuncData} {ps : List Str} {p : Pos} {i j : Int} (M : Mk X.K C f) (F : FnOk X.prog X.w X.K X.mg X.base (L2.CX X.prog X.w) k f fd ps (spInitX C CB)) (hr : Room (k + 1) X.A) (hm : X.mg "Fraction" = some (.ref C))
    (hb : Binds X.K fd ps []) (ha : AD X (e :: es) Γ [iD i, iD j]) (h0 : j ≠ 0) (hz : j.natAbs < 2 ^ 8900) (hg : Gl X "Fraction" := by rfl) (he : starEach (e :: es) X.env = (false, eval e X.env) :: starEach es X.env := by rfl)
    (hpl : (backTo pos (starEach es X.env)).any (·.1) = false := by rfl) : ED X (.Call (.Name "Fraction" p) (e :: es) [] pos) Γ (fr C (Rat.divInt i j)) := by
  obtain ⟨t, pp, q⟩ := ha
  refine ⟨_, pe_makeS M F hr hg hm hb .nil (fun σ => passW) pp (by decide) he hpl, fun σ H Cc r => fun w => q σ H Cc _ fun vs H1 e1 h1 x dx nx ndx ne => ?_⟩
  obtain ⟨x1, x2, rfl, h2, h3⟩ := denL_two h1
  rw [den_v.mp h2, den_v.mp h3]
  refine ⟨x, dx, i, j, rfl, upd_same, .inl ⟨h0, hz, rfl, w _ _ (fun b o ho => ?_) (den_fr.mpr ⟨x, dx, rfl, upd_same⟩)⟩⟩
  have h1 : H1 b = some o := e1 b o ho
  rw [upd_ne (ne_of_none h1 nx), upd_ne (ne_of_none h1 nx), upd_ne (ne_of_none h1 ndx)]
  exact h1
/-- Fraction(bottom=b, top=a) -/
theorem ed_mkK {CX : CXT} {k : Nat} {f : Addr} {fd : FuncData} {ps : List Str} {E : XK} {p q1 q2 : Pos} {i j : Int} {eb ea : Expr} (M : Mk X.K C f) (F : FnOk X.prog X.w X.K X.mg X.base CX k f fd ps (spInit C)) (hr : Room (k + 1) X.A) (hm : X.mg "Fraction" = some (.ref C))
    {g : List Value → List Value → List Value} {gV : List V → List V → List V} (hb : KBn X.K fd ps 1 ["bottom", "top"] g gV) (hgV : ∀ x y z, gV [x] [y, z] = [x, z, y]) (hx : Passes CX X E) (hB : ED X eb Γ (iD j)) (hA : ED X ea Γ (iD i)) (h0 : j ≠ 0) (hz : j.natAbs < 2 ^ 8900)
    (hg : Gl X "Fraction" := by rfl) (hall : (backToKw pos (keywordEach [⟨some "bottom", eb, q1⟩, ⟨some "top", ea, q2⟩] X.env)).all (·.1.isSome) = true := by rfl) (hks : (backToKw pos (keywordEach [⟨some "bottom", eb, q1⟩, ⟨some "top", ea, q2⟩] X.env)).filterMap (·.1) = (["bottom", "top"] : List Str) := by rfl)
    (hpl : ((backTo pos (starEach [] X.env)).any (·.1) || (backToKw pos (keywordEach [⟨some "bottom", eb, q1⟩, ⟨some "top", ea, q2⟩] X.env)).any (·.1.isNone)) = false := by rfl) :
    ED X (.Call (.Name "Fraction" p) [] [⟨some "bottom", eb, q1⟩, ⟨some "top", ea, q2⟩] pos) Γ (fr C (Rat.divInt i j)) := by
  obtain ⟨tb, pb, qb⟩ := hB
  obtain ⟨ta, pa, qa⟩ := hA
  refine ⟨_, pe_makeK0 M F hr hg hm hb hx (pk_cons pb (pk_cons pa pk_nil)) hall hks (by decide) hpl, fun σ H Cc Q r => ?_⟩
  refine qb σ H Cc _ fun v1 H1 e1 h1 => qa σ H1 (Cc.mono e1) _ fun v2 H2 e2 h2 => ⟨rfl, rfl, fun x dx nx ndx ne => ?_⟩
  rw [hgV, den_v.mp h1, den_v.mp h2]
  exact init_new h0 hz nx ndx ne (e1.trans e2) r

/-! ### isinstance of the error that a suite holds -/
theorem ed_isE {A0 DA : Addr} {oe : Obj} {pn : List (Addr × Obj)} {k : Bool} {u : Value} {cv : V} {p : Pos} (EC : ExcC X.K DA) (hz : Zc (.ref DA) none oe) (hf : ∃ vs, oe.data = .fields vs) (hm : X.mg "isinstance" = none)
    (ha : ED (X.suite A0 ((A0, oe) :: pn)) a Γ (.v (.ref A0))) (hc : ED (X.suite A0 ((A0, oe) :: pn)) c Γ (.v cv)) (hcv : ClsV cv u) (hk : PySem.W.kitOne X.K (.ref DA) u = some k) (hg : Gl X "isinstance" := by rfl)
    (he : starEach (a :: [c]) X.env = (false, eval a X.env) :: starEach [c] X.env := by rfl) (hs1 : starEach (c :: []) X.env = (false, eval c X.env) :: starEach [] X.env := by rfl) (hpl : (backTo pos (starEach [c] X.env)).any (·.1) = false := by rfl) :
    ED (X.suite A0 ((A0, oe) :: pn)) (.Call (.Name "isinstance" p) [a, c] [] pos) Γ (bD k) := by
  refine ed_callB (X := X.suite A0 ((A0, oe) :: pn)) (d := bD k) (r := rIsE X.K DA A0) (call_isE EC hz hf) hm (by decide +kernel) (ad_cons ha (ad_cons hc ad_nil hs1) he) (fun xs H h Q q => ?_) hg (by decide) (by decide) he hpl
  obtain ⟨x, y, rfl, h1, h2⟩ := denL_two h
  rw [den_v.mp h2, den_v.mp h1]
  exact ⟨cv, u, k, rfl, fun w hw => hcv.eq hw, hk, q _ H (Ex.refl H) (den_v.mpr rfl)⟩
end
end Trk

namespace Trk
open PySem L2 Evl
def R_bin (C : Addr) (b : Rat → Rat → Rat) : List D → D → Prop := fun ds d => ∃ p y q, ds = [fr C p, y] ∧ NumV C y q ∧ Sz 4000 p ∧ Sz 4000 q ∧ d = fr C (b p q)
/-- a sign's two methods keep their promises -/
structure BinOk (P : Program) (w : World) (K : PySem.W.Frag) (mg : Str → Option Value) (base : Heap) (C : Addr) (op : Operator) (b : Rat → Rat → Rat) : Prop where
  ex : ∃ f g fd gd ps qs, NumOp K C op f g ∧ FnOk P w K mg base CX0 8 f fd ps (spD K 2 (R_bin C b)) ∧ Binds K fd ps [] ∧ FnOk P w K mg base CX0 8 g gd qs (spD K 2 (R_bin C fun p q => b q p)) ∧ Binds K gd qs []
/-- what int says of the sign -/
structure IntOp (K : PySem.W.Frag) (op : Operator) : Prop where
  ex : ∃ id B fo ro, Trk.IntSlot op.info.2 id B ∧ PySem.W.findIn K (.type "int") (PySem.dunder op.info.2) = some fo ∧ PySem.W.findIn K (.type "int") (dunderR op.info.2) = some ro ∧ ((fo.isSome && !isSeqSlot fo) || (ro.isSome && !isSeqSlot ro)) = true
theorem iAdd {K : PySem.W.Frag} : IntOp K .Add := ⟨_, _, some (.builtin "int.__add__"), some (.builtin "int.__radd__"), sAdd, by kernel_rfl, by kernel_rfl, by decide +kernel⟩
theorem iSub {K : PySem.W.Frag} : IntOp K .Sub := ⟨_, _, some (.builtin "int.__sub__"), some (.builtin "int.__rsub__"), sSub, by kernel_rfl, by kernel_rfl, by decide +kernel⟩
theorem iMul {K : PySem.W.Frag} : IntOp K .Mult := ⟨_, _, some (.builtin "int.__mul__"), some (.builtin "int.__rmul__"), sMul, by kernel_rfl, by kernel_rfl, by decide +kernel⟩
section
variable {X : Cx} {Γ : Gm} {d d1 d2 : D} {a b e : Expr} {es : List Expr} {pos : Pos} {C : Addr} {p q : Rat} {op : Operator} {bf : Rat → Rat → Rat} {Φ : Out → Prop} {sts : List Stmt}
theorem ed_binN (T : FrTxt X.K X.mg C) (O : BinOk X.prog X.w X.K X.mg X.base C op bf) (S : IntOp X.K op) (hr : Room 8 X.A) (ha : ED X a Γ d1) (hb : ED X b Γ d2) (h : PairV C d1 d2 p q) (hp : Sz 4000 p) (hq : Sz 4000 q) : ED X (.BinOp a op b pos) Γ (fr C (bf p q)) := by
  obtain ⟨f, g, fd, gd, ps, qs, M, F, B, G, B'⟩ := O.ex
  obtain ⟨sid, BB, fo, ro, sl, h1, h2, hl⟩ := S.ex
  rcases h with ⟨rfl, hy⟩ | ⟨rfl, hx⟩
  · rcases id hy with rfl | ⟨n, rfl, rfl⟩
    · exact ed_op (op_own M F hr B pass0) ha hb (rd_own ⟨p, _, q, rfl, hy, hp, hq, rfl⟩)
    · exact ed_op (op_ownI M h1 h2 F hr B pass0) ha hb (rd_ownI ⟨p, _, _, rfl, hy, hp, hq, rfl⟩)
  · rcases id hx with rfl | ⟨n, rfl, rfl⟩
    · exact ed_op (op_own M F hr B pass0) ha hb (rd_own ⟨p, _, q, rfl, .inl rfl, hp, hq, rfl⟩)
    · exact ed_op (op_iown sl M h1 h2 hl G hr B' pass0) ha hb (rd_iown ⟨q, _, _, rfl, .inr ⟨n, rfl, rfl⟩, hq, hp, rfl⟩)
/-! ### x op= e -/
structure InpOk (K : PySem.W.Frag) (C : Addr) (op : Operator) : Prop where
  under : Trk.underObject K C = true
  no : PySem.W.findIn K (.ref C) (dunderI op.info.2) = some none
  noO : PySem.W.findIn K (.type "object") (dunderI op.info.2) = some none
theorem pip_own {CX : CXT} {k : Nat} {f g : Addr} {fd : FuncData} {ps : List Str} {sp : Sp} {E : XK} (N : InpOk X.K C op) (M : NumOp X.K C op f g) (F : FnOk X.prog X.w X.K X.mg X.base CX k f fd ps sp) (hr : Room k X.A) (hb : Binds X.K fd ps []) (hx : Passes CX X E) : PIp X op (rOwn C sp E) := by
  intro pins s σ H x y v u Q I rx ry h
  obtain ⟨a, b, dx, dy, fs, gs, rfl, rfl, ha, hb', hsp⟩ := h
  cases rx
  cases ry
  obtain ⟨mA, J, _⟩ := ins_get I.hok ha
  obtain ⟨mB, J', _⟩ := ins_get I.hok hb'
  obtain ⟨od, J, _⟩ := J.look
  obtain ⟨od', J', _⟩ := J'.look
  obtain ⟨m, hF⟩ := I.fr
  refine Trk.inplace_by I.kIn J N.under N.no N.noO (Trk.bin1_own hF I.ok.mod.kin J J'.type M.first M.find M.fn ?_)
  refine thn (back_of F hr hb hx I (vals_rr a b) hsp) fun z s' hz => ?_
  cases z <;> first | exact hz | exact ⟨_, rfl, hz⟩
theorem pip_ownI {CX : CXT} {k : Nat} {f g : Addr} {fd : FuncData} {ps : List Str} {sp : Sp} {E : XK} {fo ro : Option Value} (N : InpOk X.K C op) (M : NumOp X.K C op f g) (h1 : PySem.W.findIn X.K (.type "int") (PySem.dunder op.info.2) = some fo) (h2 : PySem.W.findIn X.K (.type "int") (dunderR op.info.2) = some ro)
    (F : FnOk X.prog X.w X.K X.mg X.base CX k f fd ps sp) (hr : Room k X.A) (hb : Binds X.K fd ps []) (hx : Passes CX X E) : PIp X op (rOwnI C sp E) := by
  intro pins s σ H x y v u Q I rx ry h
  obtain ⟨a, dx, fs, n, rfl, rfl, ha, hsp⟩ := h
  cases rx
  obtain ⟨t, rfl⟩ := ry
  obtain ⟨mA, J, _⟩ := ins_get I.hok ha
  obtain ⟨od, J, _⟩ := J.look
  obtain ⟨m, hF⟩ := I.fr
  refine Trk.inplace_by I.kIn J N.under N.no N.noO (Trk.bin1_int hF I.ok.mod.kin J M.first M.find M.fn M.rfind (.inr ⟨_, rfl⟩) h1 h2 M.sub1 ?_)
  refine thn (back_of F hr hb hx I (vals_ri a n t) hsp) fun z s' hz => ?_
  cases z <;> first | exact hz | exact ⟨_, rfl, hz⟩
theorem sd_aug {ti : TIp} (i : Nat) {x : Str} {pos' : Pos} (hi : PIp X op ti) (hg : Γ[i]? = some (some d1)) (he : ED X e Γ d2) (hr : RD X.K ti d1 d2 d) (hd : X.N.Nodup) (h : Φ (.nx (Γ.set i (some d)))) (hN : X.N[i]? = some x := by rfl) (hx : Loc X.env.scope x := by first | exact Or.inl rfl | exact Or.inr rfl)
    (hf : X.fn x = true ∨ X.env.scope.names.lookup x = some .local := by first | exact .inl rfl | exact .inr rfl) : SD X (.AugAssign (.Name x pos') op e pos) Γ Φ := by
  obtain ⟨t, p, q⟩ := he
  refine ⟨_, ps_aug (i := i) hd hN hx p hi hf, fun σ H hl C E T => ?_⟩
  obtain ⟨v, h1, h2⟩ := C i d1 hg
  refine ⟨v, h1, q σ H C _ fun y H1 e1 hy => hr v y H1 (h2.mono e1) hy _ fun z H2 e2 hz => ?_⟩
  exact T.nx _ _ H2 h (e1.trans e2) (by rw [List.length_set]; exact hl) ((C.mono (e1.trans e2)).set (by rw [hl]; exact (List.getElem?_eq_some_iff.mp hN).1) hz)
theorem z_augN (i : Nat) {x : Str} {pos' : Pos} (O : BinOk X.prog X.w X.K X.mg X.base C op bf) (S : IntOp X.K op) (N : InpOk X.K C op) (hr : Room 8 X.A) (hg : Γ[i]? = some (some (fr C p))) (he : ED X e Γ d2) (hy : NumV C d2 q) (hp : Sz 4000 p) (hq : Sz 4000 q) (hd : X.N.Nodup)
    (k : SsD X sts (Γ.set i (some (fr C (bf p q)))) Φ) (hN : X.N[i]? = some x := by rfl) (hx : Loc X.env.scope x := by first | exact Or.inl rfl | exact Or.inr rfl)
    (hf : X.fn x = true ∨ X.env.scope.names.lookup x = some .local := by first | exact .inl rfl | exact .inr rfl) : SsD X (.AugAssign (.Name x pos') op e pos :: sts) Γ Φ := by
  refine ss_seq (Ψ := fun o => o = .nx (Γ.set i (some (fr C (bf p q))))) ?_ (fun Γ' h => by
    cases h
    exact k) fun o h1 h2 => absurd h2 (h1 _)
  obtain ⟨f, g, fd, gd, ps, qs, M, F, B, G, B'⟩ := O.ex
  obtain ⟨sid, BB, fo, ro, sl, h1, h2, hl⟩ := S.ex
  rcases id hy with rfl | ⟨n, rfl, rfl⟩
  · exact sd_aug i (pip_own N M F hr B pass0) hg he (rd_own ⟨p, _, q, rfl, hy, hp, hq, rfl⟩) hd rfl hN hx hf
  · exact sd_aug i (pip_ownI N M h1 h2 F hr B pass0) hg he (rd_ownI ⟨p, _, _, rfl, hy, hp, hq, rfl⟩) hd rfl hN hx hf
/-! ### -x, abs(x), bool(x) -/
def R_un (C : Addr) (u : Rat → D) : List D → D → Prop := fun ds d => ∃ p, ds = [fr C p] ∧ Sz 4000 p ∧ d = u p
theorem run_in {A : Around} {CX : CXT} {k : Nat} {f : Addr} {fd : FuncData} {ps : List Str} {sp : Sp} {E : XK} {pins : List (Addr × Obj)} {σ : L2.St} {H : Hp} {s : Shared} {Q : VK} {us : List Value} {vs : List V} (F : FnOk X.prog X.w X.K X.mg X.base CX k f fd ps sp) (hr : Room k A)
    (e0 : Env0 X.prog X.w X.K X.mg X.base A X.stack s H) (hb : Binds X.K fd ps []) (hx : Passes CX X E) (I : Inv X pins σ H s) (r : Vals vs us) (h : sp vs H Q E) : wpAny (model X.prog X.w) A (call (.ref f) us) (EP X pins σ Q) X.xe s := by
  have len : (us ++ []).length = ps.length := by
    rw [List.append_nil, ← r.length]
    exact F.len _ _ _ _ h
  have bound := hb s us I.kIn len
  rw [List.append_nil] at bound
  refine wpAny_call (codeAny_mono (F.run A X.stack s H ⟨us, []⟩ us vs Q E hr e0 bound r h) fun res s' out => ?_)
  rcases res with err | fl
  · exact hx pins σ H s err s' I out
  · cases fl with
    | ret u => exact I.after out
    | next => exact out.elim
    | brk => exact out.elim
    | cont => exact out.elim
theorem vals_r (a : Addr) : Vals [V.ref a] [Value.ref a] := .cons (show RelV (V.ref a) (Value.ref a) from rfl) .nil
theorem ed_negN {CX : CXT} {k : Nat} {f : Addr} {fd : FuncData} {ps : List Str} {E : XK} {u : Rat → D} (M : CmpM X.K C "__neg__" f) (F : FnOk X.prog X.w X.K X.mg X.base CX k f fd ps (spD X.K 1 (R_un C u))) (hr : Room k X.A) (hb : Binds X.K fd ps []) (hx : Passes CX X E) (ha : ED X a Γ (fr C p)) (hp : Sz 4000 p) :
    ED X (.UnaryOp .USub a pos) Γ (u p) := by
  refine ed_un (r := fun x H Q => ∃ a dx fs, x = .ref a ∧ H a = some (.ins C dx fs) ∧ spD X.K 1 (R_un C u) [x] H Q E) ?_ ha ?_
  · intro pins s σ H x v Q I rx h
    obtain ⟨a, dx, fs, rfl, ha, hsp⟩ := h
    cases rx
    obtain ⟨mA, J, _⟩ := ins_get I.hok ha
    obtain ⟨od, J, _⟩ := J.look
    obtain ⟨m, hF⟩ := I.fr
    exact PySem.W.ksp_neg hF I.ok.mod.kin J M.find M.fn (run_in F hr I.env0 hb hx I (vals_r a) hsp)
  · intro x H hx Q q
    have hx' := hx
    obtain ⟨a, dx, rfl, h⟩ := den_fr.mp hx
    exact ⟨a, dx, _, rfl, h, _, _, rfl, DenL.cons hx' DenL.nil, ⟨p, rfl, hp, rfl⟩, q⟩
theorem ed_absN {CX : CXT} {k : Nat} {f : Addr} {fd : FuncData} {ps : List Str} {E : XK} {u : Rat → D} {p1 : Pos} (M : CmpM X.K C "__abs__" f) (F : FnOk X.prog X.w X.K X.mg X.base CX k f fd ps (spD X.K 1 (R_un C u))) (hr : Room (k + 1) X.A) (hb : Binds X.K fd ps []) (hx : Passes CX X E) (hm : X.mg "abs" = none)
    (ha : ED X a Γ (fr C p)) (hp : Sz 4000 p) (hg : Gl X "abs" := by rfl) (he : starEach (a :: []) X.env = (false, eval a X.env) :: starEach [] X.env := by rfl) (hpl : (backTo pos (starEach [] X.env)).any (·.1) = false := by rfl) :
    ED X (.Call (.Name "abs" p1) [a] [] pos) Γ (u p) := by
  refine ed_callB (id := "abs") (r := fun xs H Q => ∃ a dx fs, xs = [.ref a] ∧ H a = some (.ins C dx fs) ∧ spD X.K 1 (R_un C u) xs H Q E) ?_ hm (by decide +kernel) (ad_cons ha ad_nil he) ?_ hg (by decide) (by decide) he hpl
  · intro pins s σ H xs us Q I r h
    obtain ⟨a, dx, fs, rfl, ha, hsp⟩ := h
    obtain ⟨w1, rfl, rx⟩ := vals1 r
    cases rx
    obtain ⟨mA, J, _⟩ := ins_get I.hok ha
    obtain ⟨od, J, _⟩ := J.look
    exact Trk.abs_own I.kIn J M.find M.fn (run_in F hr.in1 I.env0.in1 hb hx I (vals_r a) hsp)
  · intro xs H hxs Q q
    have hx' := hxs
    obtain ⟨x, rfl, hx1⟩ := denL_one hxs
    obtain ⟨a, dx, rfl, h⟩ := den_fr.mp hx1
    exact ⟨a, dx, _, rfl, h, _, _, rfl, hx', ⟨p, rfl, hp, rfl⟩, q⟩
theorem ed_boolN {CX : CXT} {k : Nat} {f : Addr} {fd : FuncData} {ps : List Str} {E : XK} {u : Rat → Bool} {p1 : Pos} (M : CmpM X.K C "__bool__" f) (F : FnOk X.prog X.w X.K X.mg X.base CX k f fd ps (spD X.K 1 (R_un C fun q => bD (u q)))) (hr : Room (k + 2) X.A) (hb : Binds X.K fd ps []) (hx : Passes CX X E) (hm : X.mg "bool" = none)
    (ha : ED X a Γ (fr C p)) (hp : Sz 4000 p) (hg : Gl X "bool" := by rfl) (he : starEach (a :: []) X.env = (false, eval a X.env) :: starEach [] X.env := by rfl) (hpl : (backTo pos (starEach [] X.env)).any (·.1) = false := by rfl) :
    ED X (.Call (.Name "bool" p1) [a] [] pos) Γ (bD (u p)) := by
  refine ed_callTy (T := "bool") (r := fun xs H Q => ∃ a dx fs, xs = [.ref a] ∧ H a = some (.ins C dx fs) ∧ spD X.K 1 (R_un C fun q => bD (u q)) xs H (fun v H' => v = .bl (u p) ∧ Q v H') E) ?_ hm (by decide +kernel) (ad_cons ha ad_nil he) ?_ hg (by decide) (by decide) he hpl
  · intro pins s σ H xs us Q I r h
    obtain ⟨a, dx, fs, rfl, ha, hsp⟩ := h
    obtain ⟨w1, rfl, rx⟩ := vals1 r
    cases rx
    obtain ⟨mA, J, _⟩ := ins_get I.hok ha
    obtain ⟨od, J, _⟩ := J.look
    obtain ⟨m, hF⟩ := I.fr
    refine Trk.bool_own hF I.ok.mod.kin J M.find M.fn (thn (run_in F hr.in1.in1 I.env0.in1.in1 hb hx I (vals_r a) hsp) fun z s' hz => ?_)
    obtain ⟨v, H', I', rv, ev, q⟩ := hz
    subst ev
    cases rv
    exact ⟨V.bl (u p), H', I', rfl, q⟩
  · intro xs H hxs Q q
    have hx' := hxs
    obtain ⟨x, rfl, hx1⟩ := denL_one hxs
    obtain ⟨a, dx, rfl, h⟩ := den_fr.mp hx1
    exact ⟨a, dx, _, rfl, h, _, _, rfl, hx', ⟨p, rfl, hp, rfl⟩, fun v H' e hv => ⟨den_v.mp hv, q v H' e hv⟩⟩
/-- a sign within the class's own text: the left one is of the class -/
theorem ed_leftN {CX : CXT} {k : Nat} {f g : Addr} {fd : FuncData} {ps : List Str} {E : XK} (M : NumOp X.K C op f g) (S : IntOp X.K op) (F : FnOk X.prog X.w X.K X.mg X.base CX k f fd ps (spD X.K 2 (R_bin C bf))) (hr : Room k X.A) (hb : Binds X.K fd ps []) (hx : Passes CX X E)
    (ha : ED X a Γ (fr C p)) (hB : ED X b Γ d2) (hy : NumV C d2 q) (hp : Sz 4000 p) (hq : Sz 4000 q) : ED X (.BinOp a op b pos) Γ (fr C (bf p q)) := by
  obtain ⟨sid, BB, fo, ro, sl, h1, h2, hl⟩ := S.ex
  rcases id hy with rfl | ⟨n, rfl, rfl⟩
  · exact ed_op (op_own M F hr hb hx) ha hB (rd_own ⟨p, _, q, rfl, hy, hp, hq, rfl⟩)
  · exact ed_op (op_ownI M h1 h2 F hr hb hx) ha hB (rd_ownI ⟨p, _, _, rfl, hy, hp, hq, rfl⟩)
theorem ed_toBool {i : Int} {p : Pos} (hm : X.mg "bool" = none) (ha : ED X a Γ (iD i)) (hg : Gl X "bool" := by rfl) (he : starEach (a :: []) X.env = (false, eval a X.env) :: starEach [] X.env := by rfl) (hpl : (backTo pos (starEach [] X.env)).any (·.1) = false := by rfl) :
    ED X (.Call (.Name "bool" p) [a] [] pos) Γ (bD (i != 0)) := by
  refine ed_callTy (d := bD (i != 0)) call_bool1 hm (by decide +kernel) (ad_cons ha ad_nil he) (fun xs H h Q q => ?_) hg (by decide) (by decide) he hpl
  obtain ⟨x, rfl, h1⟩ := denL_one h
  rw [den_v.mp h1]
  exact .inl ⟨i, rfl, q _ H (Ex.refl H) (den_v.mpr rfl)⟩
/-! ### o.m(k = v) that may raise -/
def tMethKS (C : Addr) (m : Str) (n : Nat) (sp : Sp) (gV : List V → List V → List V) (E : L2.St → XK) (ta : TE) (tk : TA) : TE := fun σ H Q => ta σ H fun x H1 => ∃ a dx fs, x = .ref a ∧ H1 a = some (.ins C dx fs) ∧ fs.lookup m = none ∧
  tk σ H1 fun zs H2 => zs.length = n ∧ sp (gV [x] zs) H2 Q (E σ)
theorem pe_methKS {CX : CXT} {k : Nat} {f : Addr} {fd : FuncData} {ps ks : List Str} {sp : Sp} {E : L2.St → XK} {pl : Sem Bool} {o : Expr} {m : Str} {apos : Pos} {kws : List Keyword} {ta : TE} {tk : TA} {g : List Value → List Value → List Value} {gV : List V → List V → List V}
    (he : PE X o ta) (c : Cls X.K C) (hm : Meth X.K C m f) (F : FnOk X.prog X.w X.K X.mg X.base CX k f fd ps sp) (hr : Room k X.A) (hb : KBn X.K fd ps 1 ks g gV) (pa : ∀ σ, PassesAt CX X σ (E σ)) (hkw : PK X kws tk)
    (hall : (backToKw pos (keywordEach kws X.env)).all (·.1.isSome) = true := by rfl) (hks : (backToKw pos (keywordEach kws X.env)).filterMap (·.1) = ks := by rfl)
    (hpl : ((backTo pos (starEach [] X.env)).any (·.1) || (backToKw pos (keywordEach kws X.env)).any (·.1.isNone)) = false := by rfl)
    (ht : eval (.Call (.Attribute o m apos) [] kws pos) X.env = (do
      let ov ← eval o X.env
      standAt apos.atName
      let (f, first) ← holding [ov] (getMethod ov m pl)
      callWith pos f first (backTo pos (starEach [] X.env)) (backToKw pos (keywordEach kws X.env))) := by rfl) :
    PE X (.Call (.Attribute o m apos) [] kws pos) (tMethKS C m ks.length sp gV E ta tk) := by
  refine ⟨fun pins s σ H Q I h => ?_⟩
  refine PySem.W.methodCall_KW (pl := pl) (thn (he.run pins s σ H _ I h) fun u s1 got => ?_) ht
  obtain ⟨x, H1, I1, rx, a, dx, fs, ex, ea, l, q⟩ := got
  subst ex
  obtain rfl : u = Value.ref a := rx
  refine getmeth_ok I1 ea c hm l ?_
  refine PySem.W.callWith_KW0 (first := [.ref a]) (h₀ := X.base) I.ok.mod.kin hm.kp hall ?_ hpl
  refine thn (hkw.run pos pins s1 σ H1 _ I1 q) fun ws s2 got2 => ?_
  obtain ⟨zs, H2, I2, rz, lz, q2⟩ := got2
  refine ⟨I2.kIn, ?_⟩
  rw [hks, List.append_nil]
  have rel := hb.rel (vals_r a) rz
  have bound := hb.to s2 [Value.ref a] ws I2.kIn rfl (rz.length.symm.trans lz)
  refine wpAny_call (codeAny_mono (F.run X.A X.stack s2 H2 ⟨[Value.ref a], ks.zip ws⟩ _ _ Q (E σ) hr I2.env0 bound rel q2) fun res s' out => ?_)
  rcases res with err | fl
  · exact pa σ pins H2 s2 err s' I2 out
  · cases fl with
    | ret u => exact I2.after out
    | next => exact out.elim
    | brk => exact out.elim
    | cont => exact out.elim
/-- one keyword -/
theorem kw_one {k : Nat} {f : Addr} {fd : FuncData} {ps : List Str} {R : List D → D → Prop} {RX : List D → Value → List (Str × D) → Prop} {pl : Sem Bool} {o ev : Expr} {m kn : Str} {apos q1 : Pos} {g : List Value → List Value → List Value} {gV : List V → List V → List V} {fs : List (Str × D)}
    (ho : ED X o Γ (.obj C fs)) (hl : ∀ {H gs}, DenF X.K H fs gs → gs.lookup m = none) (c : Cls X.K C) (hm : Meth X.K C m f) (F : FnOk X.prog X.w X.K X.mg X.base (L2.CX X.prog X.w) k f fd ps (spX X.K 2 R RX)) (hr : Room k X.A) (hb : KBn X.K fd ps 1 [kn] g gV) (hgV : ∀ x y, gV [x] [y] = [x, y]) (hv : ED X ev Γ d2)
    (hall : (backToKw pos (keywordEach [⟨some kn, ev, q1⟩] X.env)).all (·.1.isSome) = true := by rfl) (hks : (backToKw pos (keywordEach [⟨some kn, ev, q1⟩] X.env)).filterMap (·.1) = [kn] := by rfl)
    (hpl : ((backTo pos (starEach [] X.env)).any (·.1) || (backToKw pos (keywordEach [⟨some kn, ev, q1⟩] X.env)).any (·.1.isNone)) = false := by rfl)
    (ht : eval (.Call (.Attribute o m apos) [] [⟨some kn, ev, q1⟩] pos) X.env = (do
      let ov ← eval o X.env
      standAt apos.atName
      let (f, first) ← holding [ov] (getMethod ov m pl)
      callWith pos f first (backTo pos (starEach [] X.env)) (backToKw pos (keywordEach [⟨some kn, ev, q1⟩] X.env))) := by rfl) :
    (∀ d, R [.obj C fs, d2] d → ED X (.Call (.Attribute o m apos) [] [⟨some kn, ev, q1⟩] pos) Γ d) ∧ ∀ cls xs, RX [.obj C fs, d2] cls xs → XD X (.Call (.Attribute o m apos) [] [⟨some kn, ev, q1⟩] pos) Γ cls xs := by
  obtain ⟨ta, pa, qa⟩ := ho
  obtain ⟨tv, pv, qv⟩ := hv
  have P := pe_methKS pa c hm F hr hb (fun σ => passW) (pk_cons pv pk_nil) hall hks hpl ht
  constructor
  · intro d hR
    refine ⟨_, P, fun σ H Cc Q r => qa σ H Cc _ fun x H1 e1 h1 => ?_⟩
    have h1' := h1
    simp only [Den] at h1'
    obtain ⟨a, dx, gs, rfl, ha, hF⟩ := h1'
    refine ⟨a, dx, gs, rfl, ha, hl hF, qv σ H1 (Cc.mono e1) _ fun y H2 e2 h2 => ⟨rfl, ?_⟩⟩
    rw [hgV]
    exact ⟨_, rfl, DenL.cons (h1.mono e2) (DenL.cons h2 DenL.nil), .inl ⟨d, hR, fun v H' e3 h3 => r v H' ((e1.trans e2).trans e3) h3⟩⟩
  · intro cls xs hR
    refine ⟨_, P, fun σ H Cc r Q => qa σ H Cc _ fun x H1 e1 h1 => ?_⟩
    have h1' := h1
    simp only [Den] at h1'
    obtain ⟨a, dx, gs, rfl, ha, hF⟩ := h1'
    refine ⟨a, dx, gs, rfl, ha, hl hF, qv σ H1 (Cc.mono e1) _ fun y H2 e2 h2 => ⟨rfl, ?_⟩⟩
    rw [hgV]
    exact ⟨_, rfl, DenL.cons (h1.mono e2) (DenL.cons h2 DenL.nil), .inr ⟨cls, xs, hR, fun d H' e3 h3 => r d H' ((e1.trans e2).trans e3) h3⟩⟩
end
/-- a def that may raise -/
theorem fn_X {P : Program} {w : World} {K : PySem.W.Frag} {mg : Str → Option Value} {base : Heap} {x qual : Str} {st : Stmt} {f : Addr} {fd : FuncData} {N ps : List Str} {k : Nat} {R : List D → D → Prop} {RX : List D → Value → List (Str × D) → Prop} (F : Fun K x qual st f fd) (S : FnScope N ps (defScope st))
    (hN : ps.length ≤ N.length)
    (h : ∀ (cdv : Value) (A : Around) (outer : List Env) (s : Shared) (H : Hp) (E : XK) (ds : List D) (Φ : Out → Prop), Room k (A.deeper (PyProof.Rows.envOfC qual (defScope st) s.heap.objs.size f cdv)) → ds.length = ps.length →
      ((∃ d, R ds d ∧ Φ = fun o => o = .rt d ∨ (d = .v .non ∧ ∃ Γ, o = .nx Γ)) ∨ ∃ cls fs, RX ds cls fs ∧ Φ = fun o => ∃ Γ, o = .ex cls fs Γ) →
      SsD (cxOf (L2.CX P w) P w K mg base N qual (defScope st) f cdv A outer s H E) (defBody st) (ds.map some ++ List.replicate (N.length - ds.length) none) Φ) :
    FnOk P w K mg base (L2.CX P w) (k + 1) f fd ps (spX K ps.length R RX) := by
  refine F.okX S (fun vs H Q E ⟨ds, h1, h2, _⟩ => by rw [← h2.len, h1]) fun cdv A outer s H vs Q E hr hsp => ?_
  obtain ⟨ds, h1, h2, h3⟩ := hsp
  have hl : (L2.start N vs).length = N.length := by
    unfold L2.start
    rw [List.length_append, List.length_map, List.length_replicate, ← h2.len, h1]
    omega
  rcases h3 with ⟨d, hR, q⟩ | ⟨cls, fs, hR, q⟩
  · obtain ⟨t, p, r⟩ := h cdv A outer s H E ds _ hr h1 (.inl ⟨d, hR, rfl⟩)
    refine ⟨t, p, r (L2.start N vs) H hl (start_ctx h2) _ ⟨fun Γ σ H' z e1 _ _ => ?_, fun d' v H' z e1 hv => ?_, fun Γ σ H' z => ?_, fun Γ σ H' z => ?_, fun c fs Γ d σ H' z => ?_⟩⟩
    · rcases z with z | ⟨z, _⟩
      · cases z
      · subst z
        exact q _ H' e1 (den_v.mpr rfl)
    · rcases z with z | ⟨_, _, z⟩
      · cases z
        exact q v H' e1 hv
      · cases z
    · rcases z with z | ⟨_, _, z⟩ <;> cases z
    · rcases z with z | ⟨_, _, z⟩ <;> cases z
    · rcases z with z | ⟨_, _, z⟩ <;> cases z
  · obtain ⟨t, p, r⟩ := h cdv A outer s H E ds _ hr h1 (.inr ⟨cls, fs, hR, rfl⟩)
    refine ⟨t, p, r (L2.start N vs) H hl (start_ctx h2) _ ⟨fun Γ σ H' ⟨_, z⟩ => (by cases z), fun d' v H' ⟨_, z⟩ => (by cases z), fun Γ σ H' ⟨_, z⟩ => (by cases z), fun Γ σ H' ⟨_, z⟩ => (by cases z), fun c fs' Γ d σ H' ⟨_, z⟩ e1 l1 c1 x1 => ?_⟩⟩
    cases z
    exact w0_of (W := fun cls d _ H => E cls d H) (takes_of rfl rfl rfl rfl) (q d H' e1 x1)
/-- a def without defaults, called with keywords -/
theorem fun_kb {K : PySem.W.Frag} {x qual : Str} {st : Stmt} {f : Addr} {fd : FuncData} {ps : List Str} (F : Fun K x qual st f fd) (n : Nat) (ks : List Str) (g : {α : Type} → List α → List α → List α) (hrel : ∀ {vs zs : List V} {us ws : List Value}, Vals vs us → Vals zs ws → Vals (g vs zs) (g us ws))
    (h : ∀ (kV doc pm : Value) (an : Option Addr) (cdv ct : Value) (us ws : List Value), us.length = n → ws.length = ks.length → bindArgs (PySem.W.fnOf x qual (defArgs st) (defBody st) (defScope st) .none kV doc pm an cdv ct) ⟨us, ks.zip ws⟩ = pure (ps.zip (g us ws))) :
    KBn K fd ps n ks (fun us ws => g us ws) (fun vs zs => g vs zs) := by
  obtain ⟨oc, od, kV, doc, pm, an, cdv, ct, osl, rfl, lk, hcd⟩ := F.ex
  exact ⟨fun s us ws X l1 l2 => .of_eq (h kV doc pm an cdv ct us ws l1 l2), fun r1 r2 => hrel r1 r2⟩
end Trk

namespace Trk
open PySem L2 Evl
/-! ### a class of errors right below another one, that below ValueError -/
def ecB (K : PySem.W.Frag) (C BE : Addr) : Bool :=
  match K.lookup C with
  | some ⟨.type "type", _, .cls cd, sl⟩ => (match sl.toList with
    | [_, _, _, _, some (.builtin n), _] => n == "ValueError.__new__" && !cd.hasDel && cd.hasDict && cd.mro == [.ref C, .ref BE, .type "ValueError", .type "Exception", .type "BaseException", .type "object"]
    | _ => false)
  | _ => false
theorem ec_of {K : PySem.W.Frag} {C BE : Addr} (h : ecB K C BE = true) : ∃ nm q N bs sn sub ab col dd k0 k1 k2 k3 k5, K.lookup C = some (excClassObj nm q C N bs [.ref BE, .type "ValueError", .type "Exception", .type "BaseException", .type "object"] true sn sub ab col dd k0 k1 k2 k3 k5 "ValueError.__new__") := by
  unfold ecB at h
  split at h
  · rename_i dd cd sl ho
    split at h
    · rename_i k0 k1 k2 k3 n k5 hs
      simp only [Bool.and_eq_true, beq_iff_eq, Bool.not_eq_true'] at h
      obtain ⟨⟨⟨rfl, hdel⟩, hd⟩, hm⟩ := h
      obtain ⟨nm, bs, mro, ns, qn, hd', sn, sub, ab, col, del⟩ := cd
      dsimp only at hm hdel hd
      subst hm hdel hd
      have hsl : sl = #[k0, k1, k2, k3, some (.builtin "ValueError.__new__"), k5] := by
        obtain ⟨l⟩ := sl
        simp only at hs
        rw [hs]
      subst hsl
      exact ⟨nm, qn, ns, bs, sn, sub, ab, col, dd, k0, k1, k2, k3, k5, ho⟩
    · cases h
  · cases h
theorem ec_cls {K : PySem.W.Frag} {C BE : Addr} (h : ecB K C BE = true) : ∃ cd, PySem.W.clsIn K C = some cd ∧ cd.mro = [.ref C, .ref BE, .type "ValueError", .type "Exception", .type "BaseException", .type "object"] ∧ cd.hasDict = true := by
  obtain ⟨nm, q, N, bs, sn, sub, ab, col, dd, k0, k1, k2, k3, k5, e⟩ := ec_of h
  unfold PySem.W.clsIn
  rw [e]
  exact ⟨_, rfl, rfl, rfl⟩
theorem ec_ty {K : PySem.W.Frag} {C BE : Addr} (h : ecB K C BE = true) : PySem.W.typeIn K (.ref C) = some (.type "type") := by
  obtain ⟨nm, q, N, bs, sn, sub, ab, col, dd, k0, k1, k2, k3, k5, e⟩ := ec_of h
  show (K.lookup C).map (·.cls) = _
  rw [e]
  rfl
theorem ec_mro {K : PySem.W.Frag} {C BE : Addr} (h : ecB K C BE = true) (v : Value) : PySem.W.mroIn K C v = some ([Value.ref C, .ref BE, .type "ValueError", .type "Exception", .type "BaseException", .type "object"].contains v) := by
  obtain ⟨cd, e, m, _⟩ := ec_cls h
  unfold PySem.W.mroIn
  rw [e, Option.bind_some, m]
  rfl
theorem ec_hd {K : PySem.W.Frag} {C BE : Addr} (h : ecB K C BE = true) : PySem.W.hasDictIn K C = true := by
  obtain ⟨cd, e, _, m⟩ := ec_cls h
  unfold PySem.W.hasDictIn
  rw [e]
  exact m
structure EcT (K : PySem.W.Frag) (mg : Str → Option Value) (x : Str) (C BE : Addr) : Prop where
  mg : mg x = some (.ref C)
  ec : ecB K C BE = true
  sa : PySem.W.findIn K (.ref C) "__setattr__" = some (some (.builtin "object.__setattr__"))
  ga : PySem.W.findIn K (.ref C) "__getattribute__" = some (some (.builtin "BaseException.__getattribute__"))
  gg : PySem.W.findIn K (.ref C) "__getattr__" = some none
  ca : PySem.W.findIn K (.ref C) "__class__" = some (some (.builtin "object.__class__"))
  cn : PySem.W.specialIn K (.builtin "object.__class__") "__get__" = some (some (.builtin "getset_descriptor.__get__"))
  ct : PySem.W.takesIn K (.builtin "object.__class__") = some true
  kp : PySem.W.keepIn K (.ref C) = true
section
variable {K : PySem.W.Frag} {mg : Str → Option Value} {x : Str} {C BE U : Addr}
theorem EcT.be (T : EcT K mg x C BE) : PySem.W.subIn K (.ref C) (.type "BaseException") = some true := by
  show PySem.W.mroIn K C _ = _
  rw [ec_mro T.ec]
  simp
theorem EcT.ve (T : EcT K mg x C BE) : PySem.W.subIn K (.ref C) (.type "ValueError") = some true := by
  show PySem.W.mroIn K C _ = _
  rw [ec_mro T.ec]
  simp
theorem EcT.ob (T : EcT K mg x C BE) : PySem.W.mroIn K C (.type "object") = some true := by
  rw [ec_mro T.ec]
  simp
theorem EcT.sub (T : EcT K mg x C BE) : PySem.W.subIn K (.ref C) (.ref U) = some (decide (U = C) || decide (U = BE)) := by
  show PySem.W.mroIn K C _ = _
  rw [ec_mro T.ec]
  congr 1
  rw [Bool.eq_iff_iff]
  simp
theorem EcT.oex (T : EcT K mg x C BE) : OexC K C := by
  obtain ⟨nm, q, N, bs, sn, sub, ab, col, dd, k0, k1, k2, k3, k5, e⟩ := ec_of T.ec
  exact ⟨⟨nm, q, N, bs, _, sn, sub, ab, col, dd, k0, k1, k2, k3, k5, e, (by show HandSPX.refsVE [.type "ValueError", .type "Exception", .type "BaseException", .type "object"] = true; decide +kernel)⟩, T.sa, T.be, ec_ty T.ec, T.kp⟩
theorem EcT.xf (T : EcT K mg x C BE) : XfC K C := ⟨T.ga, T.gg, T.be, ec_hd T.ec⟩
theorem EcT.erT (T : EcT K mg x C BE) (e : PySem.W.excIn K C [.type "ValueError", .type "Exception", .type "BaseException", .type "object"] "ValueError.__new__" = true) : ErT K mg x C := ⟨T.mg, e, T.kp, T.be, ec_ty T.ec, ec_hd T.ec, by
  rw [T.sub]
  simp⟩
theorem EcT.isC (T : EcT K mg x C BE) : (PySem.W.clsIn K C).isSome = true := by
  obtain ⟨cd, e, _⟩ := ec_cls T.ec
  rw [e]
  rfl
theorem EcT.kit {mg2 : Str → Option Value} {y : Str} {V : Addr} (T : EcT K mg x C BE) (T2 : EcT K mg2 y U V) (hn : U ≠ BE) : PySem.W.kitOne K (.ref C) (.ref U) = some (decide (C = U)) := by
  by_cases h : C = U
  · subst h
    rw [kit_self, decide_eq_true rfl]
  · rw [kit_sub T2.isC (ec_ty T2.ec) T.sub (rf_ne h), decide_eq_false h, decide_eq_false (fun z => h z.symm), decide_eq_false hn]
    rfl
theorem EcT.kitT (T : EcT K mg x C BE) (ic : PySem.W.isClsIn K BE = true) (ty : PySem.W.typeIn K (.ref BE) = some (.type "type")) (hn : C ≠ BE) : PySem.W.kitOne K (.ref C) (.ref BE) = some true := by
  rw [kit_sub ic ty T.sub (rf_ne hn), decide_eq_true (rfl : BE = BE), Bool.or_true]
theorem EcT.kitV (T : EcT K mg x C BE) : PySem.W.kitOne K (.ref C) (.type "ValueError") = some true := by
  unfold PySem.W.kitOne PySem.W.kitCls
  rw [if_neg (by rw [show (Value.ref C == Value.type "ValueError") = false from Bool.eq_false_iff.mpr fun q => by cases beq_iff_eq.mp q]; exact Bool.false_ne_true)]
  show (if PySem.W.kitMeta "ValueError" = true then PySem.W.subIn K (.ref C) (.type "ValueError") else none) = some true
  rw [if_pos (by decide +kernel), T.ve]
end
/-! ### what isinstance and a dot see of such an object -/
/-- the object at a is an exception of the class C: by what is tracked, or by a pin -/
theorem instX {X : Cx} {pins : List (Addr × Obj)} {σ : L2.St} {H : Hp} {s : Shared} {a C : Addr} {d : Option Addr} {oe : Obj} {vs : Array Value} (I : Inv X pins σ H s) (hget : s.heap.get? a = some oe) (hz : Zc (.ref C) d oe) (hv : oe.data = .fields vs)
    (hd : d = none ∨ ∃ dd gs, d = some dd ∧ (H dd = some (exd dd gs) ∨ H dd = some (.xd gs))) : ∃ od, PySem.W.InstAt s.heap a oe C od ∧ ∀ dd gs, d = some dd → (H dd = some (exd dd gs) ∨ H dd = some (.xd gs)) → ∀ f v, gs.lookup f = some v → ∃ o u, od = some o ∧ PySem.W.lookIn f o = some (some u) ∧ RelV v u := by
  have nc : PySem.W.notCls oe = true := by
    unfold PySem.W.notCls
    rw [hv] <;> rfl
  have ns : ∀ dd gs, (H dd = some (exd dd gs) ∨ H dd = some (.xd gs)) → ∃ mA, s.heap.Ns1 dd mA ∧ ∀ f, RelO (gs.lookup f) (mA f) := fun dd gs z => by
    rcases z with z | z
    · exact exd_at I.hok z
    · have x : ObjOk X.prog X.w H s.heap dd (.xd gs) := I.hok dd _ z
      exact x
  rcases hd with rfl | ⟨dd, gs, rfl, hd⟩
  · exact ⟨none, ⟨hget, hz.1, nc, by rw [hz.2]; trivial⟩, fun dd gs z => by cases z⟩
  · obtain ⟨mA, hns, _⟩ := ns dd gs hd
    obtain ⟨od, ho, hl⟩ := lookIn_ns hns
    refine ⟨some od, ⟨hget, hz.1, nc, by rw [hz.2]; exact ho⟩, fun dd2 gs2 z hd2 f v l => ?_⟩
    cases z
    obtain ⟨mA2, hns2, hr2⟩ := ns dd gs2 hd2
    obtain ⟨od2, ho2, hl2⟩ := lookIn_ns hns2
    rw [ho] at ho2
    cases ho2
    obtain ⟨u, hu, ru⟩ := RelO.some_of (v := v) (o := mA2 f) (by rw [← l]; exact hr2 f)
    exact ⟨od, u, rfl, by rw [hl2, hu], ru⟩
/-- the object of the D-value at a -/
def SeenX (X : Cx) (C : Addr) (d : D) (fs : List (Str × D)) : Prop := d = .exc C fs ∨ ∃ a oe dx vs, d = .ced a dx fs ∧ (a, oe) ∈ X.pn ∧ Zc (.ref C) dx oe ∧ oe.data = .fields vs
theorem seenX {X : Cx} {C : Addr} {d : D} {fs : List (Str × D)} {pins : List (Addr × Obj)} {σ : L2.St} {H : Hp} {s : Shared} {v : V} (h : SeenX X C d fs) (I : Inv X pins σ H s) (hd : Den X.K H d v) :
    ∃ a oe od, v = .ref a ∧ PySem.W.InstAt s.heap a oe C od ∧ ∀ f d2, fs.lookup f = some d2 → ∃ y o u, od = some o ∧ PySem.W.lookIn f o = some (some u) ∧ RelV y u ∧ Den X.K H d2 y := by
  have key : ∀ {fs : List (Str × D)} {gs : List (Str × V)} {f : Str} {d2 : D}, DenF X.K H fs gs → fs.lookup f = some d2 → ∃ y, gs.lookup f = some y ∧ Den X.K H d2 y := by
    intro fs
    induction fs with
    | nil =>
      intro gs f d2 _ h
      cases h
    | cons p r ih =>
      intro gs f d2 hF hl
      obtain ⟨g, x⟩ := p
      simp only [DenF] at hF
      obtain ⟨z, zs, rfl, hz, hzs⟩ := hF
      rw [lookup_put] at hl ⊢
      by_cases hfg : f = g
      · rw [if_pos hfg] at hl ⊢
        cases hl
        exact ⟨z, rfl, hz⟩
      · rw [if_neg hfg] at hl ⊢
        exact ih hzs hl
  rcases h with rfl | ⟨a, oe, dx, vs, rfl, hp, hz, hv⟩
  · simp only [Den] at hd
    obtain ⟨a, o, rfl, ha, hd⟩ := hd
    rcases hd with ⟨rfl, hx⟩ | ⟨dd, gs, hne, hx, hdd, hF⟩
    · obtain ⟨oe, vs, hg, hz, hv⟩ := hx _ _ _ _ (I.hok a o ha)
      obtain ⟨od, J, _⟩ := instX I hg hz hv (.inl rfl)
      exact ⟨a, oe, od, rfl, J, fun f d2 l => by cases l⟩
    · obtain ⟨oe, vs, hg, hz, hv⟩ := hx _ _ _ _ (I.hok a o ha)
      obtain ⟨od, J, L⟩ := instX I hg hz hv (.inr ⟨dd, gs, rfl, .inl hdd⟩)
      refine ⟨a, oe, od, rfl, J, fun f d2 l => ?_⟩
      obtain ⟨y, ly, hy⟩ := key hF l
      obtain ⟨o2, u, eo, lu, ru⟩ := L dd gs rfl (.inl hdd) f y ly
      exact ⟨y, o2, u, eo, lu, ru, hy⟩
  · simp only [Den] at hd
    obtain ⟨rfl, hd⟩ := hd
    obtain ⟨hg, _⟩ := I.pin (a, oe) (List.mem_append_left _ hp)
    rcases hd with ⟨rfl, rfl⟩ | ⟨dd, gs, hne, rfl, hdd, hF⟩
    · obtain ⟨od, J, _⟩ := instX I hg hz hv (.inl rfl)
      exact ⟨a, oe, od, rfl, J, fun f d2 l => by cases l⟩
    · obtain ⟨od, J, L⟩ := instX I hg hz hv (.inr ⟨dd, gs, rfl, .inr hdd⟩)
      refine ⟨a, oe, od, rfl, J, fun f d2 l => ?_⟩
      obtain ⟨y, ly, hy⟩ := key hF l
      obtain ⟨o2, u, eo, lu, ru⟩ := L dd gs rfl (.inr hdd) f y ly
      exact ⟨y, o2, u, eo, lu, ru, hy⟩
section
variable {X : Cx} {Γ : Gm} {d d1 d2 : D} {e a b c : Expr} {es : List Expr} {pos : Pos} {st : Stmt} {sts body rest : List Stmt} {Φ Ψ : Out → Prop} {C BE : Addr} {fs : List (Str × D)} {x : Str}
/-- isinstance(e, c) -/
theorem ed_isX {mg : Str → Option Value} {k : Bool} {u : Value} {cv : V} {p : Pos} (T : EcT X.K mg x C BE) (hm : X.mg "isinstance" = none) (ha : ED X a Γ d1) (hs : SeenX X C d1 fs) (hc : ED X c Γ (.v cv)) (hcv : ClsV cv u) (hk : PySem.W.kitOne X.K (.ref C) u = some k) (hg : Gl X "isinstance" := by rfl)
    (he : starEach (a :: [c]) X.env = (false, eval a X.env) :: starEach [c] X.env := by rfl) (hs1 : starEach (c :: []) X.env = (false, eval c X.env) :: starEach [] X.env := by rfl) (hpl : (backTo pos (starEach [c] X.env)).any (·.1) = false := by rfl) :
    ED X (.Call (.Name "isinstance" p) [a, c] [] pos) Γ (bD k) := by
  have hcall : CallR X (.builtin "isinstance") (fun xs H Q => ∃ z, xs = [z, cv] ∧ Den X.K H d1 z ∧ Q (.bl k) H) := by
    intro pins s σ H xs us Q I r h
    obtain ⟨z, rfl, hz, q⟩ := h
    obtain ⟨a, oe, od, rfl, J, _⟩ := seenX hs I hz
    cases r with
    | cons rx rr =>
      cases rr with
      | cons rt rr =>
        cases rr
        cases rx
        have ec := hcv.eq rt
        subst ec
        exact PySem.W.kia_one (PySem.W.kitx_exc T.isC T.ga T.gg T.be T.ca T.cn T.ct T.ob) I.kIn J hk (fun z => nomatch z) fun tk => ⟨.bl k, H, I.kept (t' := tk) fun _ _ z => z, rfl, q⟩
  refine ed_callB (d := bD k) hcall hm (by decide +kernel) (ad_cons ha (ad_cons hc ad_nil hs1) he) (fun xs H h Q q => ?_) hg (by decide) (by decide) he hpl
  obtain ⟨z, y, rfl, h1, h2⟩ := denL_two h
  rw [den_v.mp h2]
  exact ⟨z, rfl, h1, q _ H (Ex.refl H) (den_v.mpr rfl)⟩
/-- e.f -/
theorem ed_xf {mg : Str → Option Value} {f : Str} {p : Pos} (T : EcT X.K mg x C BE) (ha : ED X a Γ d1) (hs : SeenX X C d1 fs) (hno : PySem.W.findIn X.K (.ref C) f = some none) (l : fs.lookup f = some d) (hb : attributeBase a f X.env (eval a X.env) = eval a X.env := by rfl) : ED X (.Attribute a f p) Γ d := by
  obtain ⟨t, pp, qq⟩ := ha
  refine ⟨fun σ H Q => t σ H fun z H1 => Den X.K H1 d1 z ∧ ∀ v, Den X.K H1 d v → Q v H1, ⟨fun pins s σ H Q I h => ?_⟩, fun σ H Cc Q q => qq σ H Cc _ fun v H1 e1 h1 => ⟨h1, fun w hw => q w H1 e1 hw⟩⟩
  refine attr_of hb (thn (pp.run pins s σ H _ I h) fun u s1 hh => ?_)
  obtain ⟨z, H1, I1, rz, hz, k⟩ := hh
  obtain ⟨a, oe, od, rfl, J, L⟩ := seenX hs I1 hz
  obtain rfl : u = Value.ref a := rz
  obtain ⟨y, o2, w, eo, lw, ry, hy⟩ := L f d l
  subst eo
  exact HandSPX.exc_get I1.kIn J T.ga T.gg T.be (PySem.W.findObj_own (ec_hd T.ec) hno rfl lw) (handed_of ry) ⟨y, H1, I1.tok _, ry, k y hy⟩
/-! ### C(e, ..), kept -/
theorem isx_exo {a C : Addr} {d : Option Addr} : IsX a C d (exo a C d) := fun P w H h x => by
  have x' : ObjOk P w H h a (.ext fun h => ∃ t1 : Addr, h.get? a = some ({ cls := .ref C, dict := d, data := .fields #[.ref t1, .none, .none, .none, .bool false, .none] } : Obj)) := x
  obtain ⟨⟨t1, he⟩, _⟩ := x'
  exact ⟨_, _, he, ⟨rfl, rfl⟩, rfl⟩
def tNewX (C : Addr) (sp : Sp) (ta : TA) : TE := fun σ H Q => ta σ H fun vs H1 => vs.length ≤ 1000 ∧ ∀ a, H1 a = none → sp (.ref a :: vs) (upd H1 a (exo a C none)) (fun v H2 => v = .non ∧ Q (.ref a) H2) (fun _ _ _ => False)
theorem pe_newX {CX : CXT} {fI : Addr} {k : Nat} {fd : FuncData} {ps : List Str} {sp : Sp} {ta : TA} {p : Pos} (T : OexC X.K C) (iC : PySem.W.findIn X.K (.ref C) "__init__" = some (some (.ref fI))) (tI : PySem.W.typeIn X.K (.ref fI) = some (.type "function"))
    (F1 : FnOk X.prog X.w X.K X.mg X.base CX k fI fd ps sp) (hr : Room (k + 1) X.A) (hb : Binds X.K fd ps []) (hx : Passes CX X (fun _ _ _ => False)) (hg : Gl X x) (hm : X.mg x = some (.ref C)) (ha : PA X (e :: es) ta)
    (hdb : (x == ("__debug__" : Str)) = false := by decide) (he : starEach (e :: es) X.env = (false, eval e X.env) :: starEach es X.env := by rfl) (hpl : (backTo pos (starEach es X.env)).any (·.1) = false := by rfl) :
    PE X (.Call (.Name x p) (e :: es) [] pos) (tNewX C sp ta) := by
  refine ⟨fun pins s σ H Q I h => wpAny_Call_Name_kw (ld_glob I hg hm ?_ hdb)⟩
  obtain ⟨nm, q, N, bs, bm, sn, sub, ab, col, dd, k0, k1, k2, k3, k5, hC, hbm⟩ := T.cls
  refine PySem.W.callWith_K (h₀ := X.base) I.ok.mod.kin T.kC (thn (ha.run pos pins s σ H _ I h) fun us s1 got => ?_) he hpl
  obtain ⟨vs, H1, I1, r1, hz, q1⟩ := got
  refine ⟨I1.kIn, ?_⟩
  show wpAny _ _ (call (.ref C) us) _ _ _
  obtain ⟨hp, g, dr, tk, os⟩ := s1
  let n := hp.objs.size
  let hh := (hp.push (PySem.W.kdv_tup us)).push (PySem.HandSPX.excO C n)
  have told := q1 (n + 1) (I1.hok.fresh (Nat.le_succ _))
  have there : hh.get? (n + 1) = some (PySem.HandSPX.excO C n) := by
    show ((hp.push (PySem.W.kdv_tup us)).push (PySem.HandSPX.excO C hp.objs.size)).get? (hp.objs.size + 1) = some (PySem.HandSPX.excO C hp.objs.size)
    heap_get
  have J : Inv X pins σ (upd H1 (n + 1) (exo (n + 1) C none)) ⟨hh, g, dr, tk, os⟩ :=
    I1.laid (t' := tk) (a := n + 1) (o := exo (n + 1) C none) (h' := hh) (fun b o z => Heap.get?_push_of_some _ (Heap.get?_push_of_some _ z)) (Nat.le_succ _) (exo_ok there)
  have rel : Vals (V.ref (n + 1) :: vs) (Value.ref (n + 1) :: us) := .cons rfl r1
  have len : (Value.ref (n + 1) :: us ++ []).length = ps.length := by
    rw [List.append_nil]
    exact rel.length.symm.trans (F1.len _ _ _ _ told)
  have bound := hb ⟨hh, g, dr, tk, os⟩ (Value.ref (n + 1) :: us) J.kIn len
  rw [List.append_nil] at bound
  have short : us.length ≤ sizeLine := by
    rw [← Paired.length r1, sizeLine_eq]
    omega
  refine wpAny_call (PySem.HandSPX.call_own F.excBase_ValueError (fun Y => PySem.HandSPX.refsVE_contains Y bm hbm) (I1.kIn _ _ hC) (PySem.W.looks_findIn I1.kIn iC) (fun self => PySem.W.bind_fn I1.kIn self tI) short
    (codeAny_mono (F1.run _ X.stack _ _ ⟨Value.ref (n + 1) :: us, []⟩ _ _ _ (fun _ _ _ => False) (hr.make C us []) (J.env0.make C us []) bound rel told) fun res s' out => ?_))
  rcases res with err | fl
  · exact hx pins σ _ _ err s' J out
  · cases fl with
    | ret u =>
      obtain ⟨v, H', I3, rv, ev, q3⟩ := J.after out
      subst ev
      exact ⟨rv, ⟨V.ref (n + 1), H', I3, rfl, q3⟩⟩
    | next => exact out.elim
    | brk => exact out.elim
    | cont => exact out.elim
end
/-- __init__ that keeps what it gets: one thing, two things -/
def spE1 (C : Addr) (f : Str) : Sp := fun vs H Q _ => ∃ a v, vs = [.ref a, v] ∧ H a = some (exo a C none) ∧ ∀ dx, H dx = none → dx ≠ a → Q .non (upd (upd H dx (exd dx [(f, v)])) a (exo a C (some dx)))
def spE2 (C : Addr) (f g : Str) : Sp := fun vs H Q _ => ∃ a v u, vs = [.ref a, v, u] ∧ H a = some (exo a C none) ∧ ∀ dx, H dx = none → dx ≠ a → Q .non (upd (upd (upd H dx (exd dx [(f, v)])) a (exo a C (some dx))) dx (exd dx [(g, u), (f, v)]))
section
variable {X : Cx} {Γ : Gm} {d d1 d2 : D} {e a b c : Expr} {es : List Expr} {pos : Pos} {st : Stmt} {sts body rest : List Stmt} {Φ Ψ : Out → Prop} {C BE fI : Addr} {fs : List (Str × D)} {x : Str} {fd : FuncData} {ps : List Str}
theorem ex_up {H H1 : Hp} {a : Addr} {o : HO} (e1 : Ex H H1) (n : H1 a = none) : Ex H (upd H1 a o) := fun b u hb => by
  have h := e1 b u hb
  rw [upd_ne (ne_of_none h n)]
  exact h
theorem denF_nil {K : PySem.W.Frag} {H : Hp} : DenF K H [] [] := by simp only [DenF]
theorem denF_cons {K : PySem.W.Frag} {H : Hp} {f : Str} {y : V} {gs : List (Str × V)} (h : Den K H d y) (t : DenF K H fs gs) : DenF K H ((f, d) :: fs) ((f, y) :: gs) := by
  simp only [DenF]
  exact ⟨y, gs, rfl, h, t⟩
theorem den1 {K : PySem.W.Frag} {H1 : Hp} {a dx : Addr} {f : Str} {y : V} (hy : Den K H1 d1 y) (n1 : H1 a = none) (n2 : H1 dx = none) (ne : dx ≠ a) : Den K (upd (upd (upd H1 a (exo a C none)) dx (exd dx [(f, y)])) a (exo a C (some dx))) (.exc C [(f, d1)]) (.ref a) := by
  simp only [Den]
  refine ⟨a, _, rfl, upd_same, .inr ⟨dx, [(f, y)], by simp, isx_exo, by rw [upd_ne ne, upd_same], ?_⟩⟩
  refine denF_cons (hy.mono fun b u hb => ?_) denF_nil
  rw [upd_ne (ne_of_none hb n1), upd_ne (ne_of_none hb n2), upd_ne (ne_of_none hb n1)]
  exact hb
theorem ed_newE1 {f : Str} {p : Pos} (T : EcT X.K X.mg x C BE) (iC : PySem.W.findIn X.K (.ref C) "__init__" = some (some (.ref fI))) (tI : PySem.W.typeIn X.K (.ref fI) = some (.type "function"))
    (F1 : FnOk X.prog X.w X.K X.mg X.base CX0 1 fI fd ps (spE1 C f)) (hr : Room 2 X.A) (hb : Binds X.K fd ps []) (ha : ED X e Γ d1) (hg : Gl X x := by rfl)
    (hdb : (x == ("__debug__" : Str)) = false := by decide) (he : starEach (e :: []) X.env = (false, eval e X.env) :: starEach [] X.env := by rfl) (hpl : (backTo pos (starEach [] X.env)).any (·.1) = false := by rfl) :
    ED X (.Call (.Name x p) [e] [] pos) Γ (.exc C [(f, d1)]) := by
  obtain ⟨t, pp, q⟩ := ha
  refine ⟨_, pe_newX T.oex iC tI F1 hr hb pass0 hg T.mg (pa_cons pp pa_nil he) hdb he hpl, fun σ H Cc Q k => q σ H Cc _ fun y H1 e1 h1 => ⟨by show 1 ≤ 1000; decide, fun a n => ?_⟩⟩
  refine ⟨a, y, rfl, upd_same, fun dx n2 ne => ⟨rfl, ?_⟩⟩
  rw [upd_ne ne] at n2
  refine k _ _ (fun b u hb => ?_) (den1 h1 n n2 ne)
  have h := e1 b u hb
  rw [upd_ne (ne_of_none h n), upd_ne (ne_of_none h n2), upd_ne (ne_of_none h n)]
  exact h
theorem ed_newE2 {f g : Str} {p : Pos} (T : EcT X.K X.mg x C BE) (iC : PySem.W.findIn X.K (.ref C) "__init__" = some (some (.ref fI))) (tI : PySem.W.typeIn X.K (.ref fI) = some (.type "function"))
    (F1 : FnOk X.prog X.w X.K X.mg X.base CX0 1 fI fd ps (spE2 C f g)) (hr : Room 2 X.A) (hb : Binds X.K fd ps []) (ha : ED X e Γ d1) (hb2 : ED X b Γ d2) (hg : Gl X x := by rfl)
    (hdb : (x == ("__debug__" : Str)) = false := by decide) (he : starEach (e :: [b]) X.env = (false, eval e X.env) :: starEach [b] X.env := by rfl) (he2 : starEach (b :: []) X.env = (false, eval b X.env) :: starEach [] X.env := by rfl) (hpl : (backTo pos (starEach [b] X.env)).any (·.1) = false := by rfl) :
    ED X (.Call (.Name x p) [e, b] [] pos) Γ (.exc C [(g, d2), (f, d1)]) := by
  obtain ⟨t, pp, q⟩ := ha
  obtain ⟨t2, pp2, q2⟩ := hb2
  refine ⟨_, pe_newX T.oex iC tI F1 hr hb pass0 hg T.mg (pa_cons pp (pa_cons pp2 pa_nil he2) he) hdb he hpl, fun σ H Cc Q k => q σ H Cc _ fun y H1 e1 h1 => q2 σ H1 (Cc.mono e1) _ fun z H2 e2 h2 => ⟨by show 2 ≤ 1000; decide, fun a n => ?_⟩⟩
  refine ⟨a, y, z, rfl, upd_same, fun dx n2 ne => ⟨rfl, ?_⟩⟩
  rw [upd_ne ne] at n2
  have up : Ex H2 (upd (upd (upd (upd H2 a (exo a C none)) dx (exd dx [(f, y)])) a (exo a C (some dx))) dx (exd dx [(g, z), (f, y)])) := fun b u hb => by
    rw [upd_ne (ne_of_none hb n2), upd_ne (ne_of_none hb n), upd_ne (ne_of_none hb n2), upd_ne (ne_of_none hb n)]
    exact hb
  refine k _ _ ((e1.trans e2).trans up) ?_
  simp only [Den]
  refine ⟨a, _, rfl, by rw [upd_ne (Ne.symm ne), upd_same], .inr ⟨dx, [(g, z), (f, y)], by simp, isx_exo, upd_same, ?_⟩⟩
  exact denF_cons (h2.mono up) (denF_cons ((h1.mono e2).mono up) denF_nil)
/-- X() -/
theorem isx_ExO {a C : Addr} : IsX a C none (ExO (.ref C) a) := fun P w H h x => by
  have x' : ObjOk P w H h a (.ext fun h => ∃ (oe : Obj) (vs : Array Value), h.get? a = some oe ∧ Zc (.ref C) none oe ∧ oe.data = .fields vs ∧ vs[1]? = some .none ∧ vs[2]? = some .none ∧ 4 < vs.size) := x
  obtain ⟨⟨oe, vs, h1, h2, h3, _⟩, _⟩ := x'
  exact ⟨oe, vs, h1, h2, h3⟩
theorem ed_newE0 {p : Pos} (T : ErT X.K X.mg x C) (hg : Gl X x := by rfl) (hdb : (x == ("__debug__" : Str)) = false := by decide) : ED X (.Call (.Name x p) [] [] pos) Γ (.exc C []) := by
  refine ⟨fun σ H Q => ∀ a, H a = none → Q (.ref a) (upd H a (ExO (.ref C) a)), ⟨fun pins s σ H Q I h => ?_⟩, fun σ H Cc Q k a n => k _ _ (ex_up (Ex.refl H) n) ?_⟩
  · refine wpAny_Call_Name_kw (ld_glob I hg T.mg ?_ hdb)
    refine PySem.W.callWith_K0 (first := []) I.kIn T.kp ?_
    obtain ⟨bm, N, nm, qn, bs, hdct, sn, sub, ab, col, dd, k0, k1, k2, k3, k5, mN, hC, hN, hni, OT⟩ := exc_obj I.kIn T.exc
    obtain ⟨hp, g, dr, tk, os⟩ := s
    refine wpAny_call_exc_subT PySem.F.excBase_ValueError OT hC hN hni (fun h' a hm => ?_) (Nat.zero_le _)
    have hn : H a = none := I.hok.gone hm.new
    obtain ⟨t, ht, _, _⟩ := hm.there
    exact ⟨.ref a, upd H a (ExO (.ref C) a), I.laidN hm.keeps hm.new hn (exO_ok ht ⟨rfl, rfl⟩ rfl rfl rfl (show 4 < 6 by decide)), rfl, h a hn⟩
  · simp only [Den]
    exact ⟨a, _, rfl, upd_same, .inl ⟨True.intro, isx_ExO⟩⟩
/-! ### raise C(e, ..) -/
theorem denX1 {K : PySem.W.Frag} {H1 H2 : Hp} {a dd : Addr} {gs : List (Str × V)} (hF : DenF K H1 fs gs) (hne : fs ≠ []) (up : Ex H1 H2) (hd : H2 dd = some (.xd gs)) : DenX K H2 (some dd) fs := .inr ⟨dd, gs, hne, rfl, hd, hF.mono up⟩
theorem ex_let {H H1 : Hp} {a dx : Addr} {o1 o2 : HO} {gs : List (Str × V)} (e1 : Ex H H1) (n : H1 a = none) (n2 : H1 dx = none) {H2 : Hp} (h2 : ∀ b, b ≠ a → b ≠ dx → H2 b = H1 b) : Ex H (upd (L2.del H2 a) dx (.xd gs)) := fun b u hb => by
  have h := e1 b u hb
  have b1 : b ≠ a := ne_of_none h n
  have b2 : b ≠ dx := ne_of_none h n2
  rw [upd_ne b2, L2.del_ne b1, h2 b b1 b2]
  exact h
theorem sd_raiseE1 {f : Str} {p p2 : Pos} (hc : X.calm = true) (T : EcT X.K X.mg x C BE) (iC : PySem.W.findIn X.K (.ref C) "__init__" = some (some (.ref fI))) (tI : PySem.W.typeIn X.K (.ref fI) = some (.type "function"))
    (F1 : FnOk X.prog X.w X.K X.mg X.base CX0 1 fI fd ps (spE1 C f)) (hr : Room 2 X.A) (hb : Binds X.K fd ps []) (ha : ED X e Γ d1) (hp : Φ (.ex (.ref C) [(f, d1)] Γ)) (hg : Gl X x := by rfl)
    (hdb : (x == ("__debug__" : Str)) = false := by decide) (he : starEach (e :: []) X.env = (false, eval e X.env) :: starEach [] X.env := by rfl) (hpl : (backTo pos (starEach [] X.env)).any (·.1) = false := by rfl) :
    SD X (.Raise (some (.Call (.Name x p) [e] [] pos)) none p2) Γ Φ := by
  obtain ⟨t, pp, q⟩ := ha
  refine ⟨_, ps_raise hc tk0 (pmk_oex T.oex iC tI F1 hr hb .nil pass0 hg T.mg (pa_cons pp pa_nil he) hdb he hpl), fun σ H hl Cc E k => q σ H Cc _ fun y H1 e1 h1 => ⟨by show 1 ≤ 1000; decide, fun a n => ?_⟩⟩
  refine ⟨a, y, rfl, upd_same, fun dx n2 ne => ⟨rfl, dx, [(f, y)], upd_same, by rw [upd_ne ne, upd_same], ?_, ?_⟩⟩
  · rw [upd_ne ne] at n2
    exact n2
  · rw [upd_ne ne] at n2
    have up : Ex H1 (upd (L2.del (upd (upd (upd H1 a (exo a C none)) dx (exd dx [(f, y)])) a (exo a C (some dx))) a) dx (.xd [(f, y)])) := ex_let (o1 := exo a C none) (o2 := exo a C none) (Ex.refl H1) n n2 fun b b1 b2 => by rw [upd_ne b1, upd_ne b2, upd_ne b1]
    refine k.ex _ _ Γ _ σ _ hp (e1.trans up) hl (Cc.mono (e1.trans up)) (.inr ⟨dx, [(f, y)], by simp, rfl, upd_same, ?_⟩)
    exact denF_cons (h1.mono up) denF_nil
theorem sd_raiseE2 {f g : Str} {p p2 : Pos} (hc : X.calm = true) (T : EcT X.K X.mg x C BE) (iC : PySem.W.findIn X.K (.ref C) "__init__" = some (some (.ref fI))) (tI : PySem.W.typeIn X.K (.ref fI) = some (.type "function"))
    (F1 : FnOk X.prog X.w X.K X.mg X.base CX0 1 fI fd ps (spE2 C f g)) (hr : Room 2 X.A) (hb : Binds X.K fd ps []) (ha : ED X e Γ d1) (hb2 : ED X b Γ d2) (hp : Φ (.ex (.ref C) [(g, d2), (f, d1)] Γ)) (hg : Gl X x := by rfl)
    (hdb : (x == ("__debug__" : Str)) = false := by decide) (he : starEach (e :: [b]) X.env = (false, eval e X.env) :: starEach [b] X.env := by rfl) (he2 : starEach (b :: []) X.env = (false, eval b X.env) :: starEach [] X.env := by rfl) (hpl : (backTo pos (starEach [b] X.env)).any (·.1) = false := by rfl) :
    SD X (.Raise (some (.Call (.Name x p) [e, b] [] pos)) none p2) Γ Φ := by
  obtain ⟨t, pp, q⟩ := ha
  obtain ⟨t2, pp2, q2⟩ := hb2
  refine ⟨_, ps_raise hc tk0 (pmk_oex T.oex iC tI F1 hr hb .nil pass0 hg T.mg (pa_cons pp (pa_cons pp2 pa_nil he2) he) hdb he hpl), fun σ H hl Cc E k => q σ H Cc _ fun y H1 e1 h1 => q2 σ H1 (Cc.mono e1) _ fun z H2 e2 h2 => ⟨by show 2 ≤ 1000; decide, fun a n => ?_⟩⟩
  refine ⟨a, y, z, rfl, upd_same, fun dx n2 ne => ⟨rfl, dx, [(g, z), (f, y)], by rw [upd_ne (Ne.symm ne), upd_same], upd_same, ?_, ?_⟩⟩
  · rw [upd_ne ne] at n2
    exact n2
  · rw [upd_ne ne] at n2
    have up : Ex H2 (upd (L2.del (upd (upd (upd (upd H2 a (exo a C none)) dx (exd dx [(f, y)])) a (exo a C (some dx))) dx (exd dx [(g, z), (f, y)])) a) dx (.xd [(g, z), (f, y)])) := ex_let (o1 := exo a C none) (o2 := exo a C none) (Ex.refl H2) n n2 fun b b1 b2 => by rw [upd_ne b2, upd_ne b1, upd_ne b2, upd_ne b1]
    refine k.ex _ _ Γ _ σ _ hp ((e1.trans e2).trans up) hl (Cc.mono ((e1.trans e2).trans up)) (.inr ⟨dx, [(g, z), (f, y)], by simp, rfl, upd_same, ?_⟩)
    exact denF_cons (h2.mono up) (denF_cons ((h1.mono e2).mono up) denF_nil)
/-! ### except x as n, the thing kept -/
theorem sd_tryAsC (i : Nat) {x n : Str} {C : Addr} {b₀ : Stmt} {suite : List Stmt} {np pos' : Pos} (hs : X.stack = X.env :: X.outer) (hf : X.env.frame = some X.env.locals) (hd : X.N.Nodup) (hc : Names X x (.ref C))
    (hb : ∀ pn xe, PassesOwn (model X.prog X.w) X.A X.env xe → SsD (X.tr pn xe) body Γ Ψ)
    (ho : ∀ o, (∀ c fs Γ', o ≠ .ex c fs Γ') → Ψ o → Φ o)
    (hx : ∀ c fs Γ', Ψ (.ex c fs Γ') → ∃ k, PySem.W.exmOne X.K c (.ref C) = some k ∧ (k = true → ∀ a oe d pn, Zc c d oe → (∃ vs, oe.data = .fields vs) → SsD (X.suite a ((a, oe) :: pn)) (b₀ :: suite) (Γ'.set i (some (.ced a d fs))) (gone i Φ)) ∧ (k = false → Φ (.ex c fs Γ')))
    (hN : X.N[i]? = some n := by rfl) (hln : X.env.kindOf n = some .local := by rfl) :
    SD X (.Try body [.ExceptHandler (some (.Name x np)) (some n) (b₀ :: suite) pos'] [] [] pos) Γ Φ := by
  refine ⟨_, ps_try_as (i := i) hs hf hd hN hln hc (tk0 (X := X)) (tb := bodyT X body) (ts := suiteT X (b₀ :: suite)) (fun W pn xe tk hp => ⟨fun pins s σ H E I h => h pn xe tk hp pins s I⟩)
    (fun a oe cls d pn hz hfl => ⟨fun pins s σ H E I h => h oe pn hz hfl pins s I⟩), fun σ H hl C0 E T => ?_⟩
  intro pn xe tk hp
  refine (hb pn xe hp).all hl C0 ?_
  refine ⟨fun Γ' σ' H' z e1 l1 c1 => T.nx Γ' σ' H' (ho _ (fun _ _ _ w => by cases w) z) e1 l1 c1, fun d v H' z e1 hv => T.rt d v H' (ho _ (fun _ _ _ w => by cases w) z) e1 hv,
    fun Γ' σ' H' z e1 l1 c1 => T.bk Γ' σ' H' (ho _ (fun _ _ _ w => by cases w) z) e1 l1 c1, fun Γ' σ' H' z e1 l1 c1 => T.ct Γ' σ' H' (ho _ (fun _ _ _ w => by cases w) z) e1 l1 c1, fun c fs Γ' d σ' H' z e1 l1 c1 x1 => ?_⟩
  refine w0_of tk ?_
  obtain ⟨k, h1, h2, h3⟩ := hx c fs Γ' z
  refine ⟨k, h1, fun hk a na => ?_, fun hk => T.ex c fs Γ' d σ' H' (h3 hk) e1 l1 c1 x1⟩
  intro oe pn2 hz hfl
  have hi : i < σ'.length := by
    rw [l1]
    exact (List.getElem?_eq_some_iff.mp hN).1
  refine (h2 hk a oe d pn2 hz hfl).all (by rw [List.length_set]; exact l1) (c1.set hi (by
    simp only [Den]
    exact ⟨True.intro, x1⟩)) ?_
  have T' := T.mono e1
  exact ⟨fun Γ2 σ2 H2 z2 e2 l2 c2 => T'.nx _ _ H2 z2 e2 (by rw [List.length_set]; exact l2) c2.unset, fun d2 v H2 z2 => T'.rt d2 v H2 z2, fun Γ2 σ2 H2 z2 e2 l2 c2 => T'.bk _ _ H2 z2 e2 (by rw [List.length_set]; exact l2) c2.unset,
    fun Γ2 σ2 H2 z2 e2 l2 c2 => T'.ct _ _ H2 z2 e2 (by rw [List.length_set]; exact l2) c2.unset, fun c2 fs2 Γ2 d2 σ2 H2 z2 => z2.elim⟩
end
/-! ### a def that is called within a suite, with the exception -/
structure FnP (P : Program) (w : World) (K : PySem.W.Frag) (mg : Str → Option Value) (base : Heap) (k : Nat) (f : Addr) (fd : FuncData) (ps : List Str) (p : Addr × Obj) (sp : Sp) : Prop where
  len : ∀ vs H Q E, sp vs H Q E → vs.length = ps.length
  run : ∀ (A : Around) (outer : List Env) (s : Shared) (H : Hp) (args : Args) (us : List Value) (vs : List V) (Q : VK) (E : XK), L2H.RoomH k A → L2H.PinOk outer H s p → Env0 P w K mg base A outer s H → BindsTo s fd args (ps.zip us) → Vals vs us → sp vs H Q E →
    codeAny (model P w) A (.call (.ref f) args) (CR CX0 outer P w H s Q E) s
abbrev cxP (P : Program) (w : World) (K : PySem.W.Frag) (mg : Str → Option Value) (base : Heap) (N : List Str) (qual : Str) (scope : Scope) (f : Addr) (cd : Value) (A : Around) (outer : List Env) (s : Shared) (H : Hp) (E : XK) (p : Addr × Obj) : Cx := L2H.cxH CX0 P w K mg base N qual scope f cd A outer s H E p
theorem fn_P {P : Program} {w : World} {K : PySem.W.Frag} {mg : Str → Option Value} {base : Heap} {x qual : Str} {st : Stmt} {f : Addr} {fd : FuncData} {N ps : List Str} {k : Nat} {R : List D → D → Prop} {p : Addr × Obj} (F : Fun K x qual st f fd) (S : FnScope N ps (defScope st)) (hN : ps.length ≤ N.length)
    (h : ∀ (cdv : Value) (A : Around) (outer : List Env) (s : Shared) (H : Hp) (E : XK) (ds : List D) (d : D), L2H.RoomH k (A.deeper (PyProof.Rows.envOfC qual (defScope st) s.heap.objs.size f cdv)) → ds.length = ps.length → R ds d →
      SsD (cxP P w K mg base N qual (defScope st) f cdv A outer s H E p) (defBody st) (ds.map some ++ List.replicate (N.length - ds.length) none) (fun o => o = .rt d)) :
    FnP P w K mg base (k + 1) f fd ps p (spD K ps.length R) := by
  refine ⟨fun vs H Q E h => spD_len h, fun A outer s H args us vs Q E hr hpin e0 hb r hsp => ?_⟩
  obtain ⟨oc, od, kV, doc, pm, an, cdv, ct, osl, rfl, lk, hcd⟩ := F.ex
  have hl : vs.length = ps.length := spD_len hsp
  have KX : K.In s.heap := e0.mod.kin.keeps fun b o e => (e0.bs b o e).1
  have lim : s.heap.NoLimit := e0.mod.nolimit.keeps fun b o e => (e0.bs b o e).1
  have par : ∀ y ∈ ps.zip us, (defScope st).names.lookup y.1 = some .local ∨ ((defScope st).names.lookup y.1 = some .cell ∧ ((cellsFrom (s.heap.objs.size + 1) (defScope st).names []).lookup y.1).isSome = true) := fun ⟨n, v⟩ hy =>
    (S.par n (List.of_mem_zip hy).1).elim .inl fun q => .inr ⟨q, PySem.W.cellsFrom_some _ _ _ (.inl q)⟩
  refine codeAny_call_function hr.depth (KX _ _ lk) rfl S.co S.gen rfl (PySem.W.codeRec_of KX hcd) (hb _ _ _ _ ?_)
  refine wpAny_newFunctionEnv_cells S.kind par fun env he s1 x => ?_
  subst he
  refine ⟨lim.keeps x.toInCall.keep, codeAny_func ?_⟩
  obtain ⟨ds, d, h1, h2, h3, h4⟩ := hsp
  have I := L2H.inv_startH (CX := CX0) (E := E) S hpin e0 hl r x
  have hlen : (L2.start N vs).length = N.length := by
    unfold L2.start
    rw [List.length_append, List.length_map, List.length_replicate, ← h2.len, h1]
    omega
  have B := (h cdv A outer s H E ds d (hr.deeper _) h1 h3).all (σ := L2.start N vs) (H := H) (E := { nx := fun _ _ => False, rt := Q }) hlen (start_ctx h2)
    ⟨fun Γ σ H' z => (by cases z), fun d' v H' z e1 hv => h4 v H' e1 (by cases z; exact hv), fun Γ σ H' z => (by cases z), fun Γ σ H' z => (by cases z), fun c fs Γ d σ H' z => (by cases z)⟩
  refine wpAny_mono (B [] s1 I) (fun fl s' hs => ?_) fun e s' hs => hs
  cases fl with
  | ret u =>
    obtain ⟨v, σ', H', J, rv, q⟩ := hs
    exact ⟨v, H', J.os, J.bare, J.base, J.hok, rv, q⟩
  | next =>
    obtain ⟨_, _, _, q⟩ := hs
    exact q.elim
  | brk =>
    obtain ⟨_, _, _, q⟩ := hs
    exact q.elim
  | cont =>
    obtain ⟨_, _, _, q⟩ := hs
    exact q.elim
section
variable {X : Cx} {Γ : Gm} {d d1 d2 : D} {e a b c : Expr} {es : List Expr} {pos : Pos} {ds : List D}
theorem ed_callP {R : List D → D → Prop} {k n : Nat} {f : Addr} {fd : FuncData} {ps : List Str} {x : Str} {p : Addr × Obj} {p1 : Pos} (F : FnP X.prog X.w X.K X.mg X.base k f fd ps p (spD X.K n R)) (hp : p ∈ X.pn) (hr : L2H.RoomH k X.A) (hm : X.mg x = some (.ref f)) (hk : PySem.W.keepIn X.K (.ref f) = true)
    (hb : Binds X.K fd ps []) (ha : AD X (e :: es) Γ ds) (hR : R ds d) (hn : ds.length = n := by rfl) (hg : Gl X x := by rfl) (hdb : (x == ("__debug__" : Str)) = false := by decide)
    (he : starEach (e :: es) X.env = (false, eval e X.env) :: starEach es X.env := by rfl) (hpl : (backTo pos (starEach es X.env)).any (·.1) = false := by rfl) : ED X (.Call (.Name x p1) (e :: es) [] pos) Γ d := by
  obtain ⟨t, pp, q⟩ := ha
  refine ⟨fun σ H Q => t σ H fun vs H1 => spD X.K n R vs H1 Q (fun _ _ _ => False), ⟨fun pins s σ H Q I h => wpAny_Call_Name_kw (ld_glob I hg hm ?_ hdb)⟩, fun σ H Cc Q r => q σ H Cc _ fun vs H1 e1 h1 => ⟨ds, d, hn, h1, hR, fun v H2 e2 h2 => r v H2 (e1.trans e2) h2⟩⟩
  refine PySem.W.callWith_K (h₀ := X.base) I.ok.mod.kin hk (thn (pp.run pos pins s σ H _ I h) fun us s1 got => ?_) he hpl
  obtain ⟨vs, H1, I1, r, q1⟩ := got
  refine ⟨I1.kIn, ?_⟩
  have at_ := I1.pin p (List.mem_append_left _ hp)
  have free : p.1 ∉ frs X.stack := fun hm => by
    rcases List.mem_cons.mp (I1.stkSub p.1 hm) with z | z
    · exact at_.2.2.1 z
    · exact at_.2.2.2.1 z
  have bound := hb s1 us I1.kIn (by rw [List.append_nil, ← r.length]; exact F.len _ _ _ _ q1)
  rw [List.append_nil] at bound
  refine wpAny_call (codeAny_mono (F.run X.A X.stack s1 H1 ⟨us, []⟩ us vs Q _ hr ⟨at_.1, at_.2.1, free, at_.2.2.2.2⟩ I1.env0 bound r q1) fun res s' out => ?_)
  rcases res with err | fl
  · exact out.elim
  · cases fl with
    | ret u => exact I1.after out
    | next => exact out.elim
    | brk => exact out.elim
    | cont => exact out.elim
/-! ### texts -/
def rStrMul : R2 := fun x y H Q => ∃ z n, x = .str z ∧ y = .int n ∧ 1 ≤ n ∧ n ≤ 1000 ∧ z.length = 1 ∧ PyData.strOk z = true ∧ ∀ r : Str, r.length ≤ 1000 → PyData.strOk r = true → Q (.str r) H
theorem op_strMul : OpR X (binaryOp .Mult) rStrMul := by
  intro pins s σ H x y v u Q I rx ry h
  obtain ⟨z, n, rfl, rfl, h1, h2, hz, hok, q⟩ := h
  obtain ⟨t, rfl⟩ := rx
  obtain ⟨t', rfl⟩ := ry
  have big : (sizeLine : Nat) ≥ 1000 := by rw [sizeLine_eq]; omega
  refine PySem.P.mul_str (by rw [decide_eq_false (by omega), decide_eq_false (by omega)]; rfl) (fun _ _ => ?_) (fun _ _ => ?_) ?_
  · rw [hz]
    have : (2 ^ 63 - 1 : Int) / n ≥ 1 := (Int.le_ediv_iff_mul_le (by omega)).mpr (by omega)
    omega
  · rw [hz, Nat.one_mul]
    exact notLongL (by omega)
  · rw [if_neg (by omega)]
    by_cases h : (n == 1 || z.length == 0) = true
    · rw [if_pos h]
      exact ⟨.str z, H, I, ⟨_, rfl⟩, q z (by omega) hok⟩
    · rw [if_neg h]
      have hlen : ∀ (m : Nat) (acc : Array Nat), (List.foldl (· ++ ·) acc (List.replicate m z.cps)).size = acc.size + m * z.cps.size := by
        intro m
        induction m with
        | zero => intro acc; simp
        | succ m ih =>
          intro acc
          rw [List.replicate_succ, List.foldl_cons, ih, Array.size_append]
          rw [Nat.succ_mul]
          omega
      have hl : (⟨(List.replicate n.toNat z.cps).foldl (· ++ ·) #[]⟩ : Str).length ≤ 1000 := by
        show Array.size _ ≤ 1000
        rw [hlen]
        have : z.cps.size = 1 := hz
        rw [this]
        simp
        omega
      have hall : ∀ (m : Nat) (acc : Array Nat), acc.all (· < 0x110000) = true → (List.foldl (· ++ ·) acc (List.replicate m z.cps)).all (· < 0x110000) = true := by
        intro m
        induction m with
        | zero => intro acc h; simpa using h
        | succ m ih =>
          intro acc h
          rw [List.replicate_succ, List.foldl_cons]
          refine ih _ ?_
          rw [Array.all_append, h]
          exact hok
      exact ⟨Nat.le_trans hl big, ⟨.str _, H, I.tok _, ⟨_, rfl⟩, q _ hl (hall _ _ (by simp))⟩⟩
theorem ed_ixS {z : Str} {i : Int} {c : Nat} (ha : ED X a Γ (.v (.str z))) (hb : ED X b Γ (iD i)) (h : atI z.cps.toList i = some c) (hz : z.length ≤ 1000) (hs : PlainIx b := by exact fun _ _ => rfl) : ED X (.Subscript a b pos) Γ (.v (.str ⟨#[c]⟩)) := by
  obtain ⟨ta, pa, qa⟩ := ha
  obtain ⟨tb, pb, qb⟩ := hb
  refine ⟨_, pe_ix ix_str pa pb hs, fun σ H C Q q => qa σ H C _ fun x H1 e1 h1 => qb σ H1 (C.mono e1) _ fun y H2 e2 h2 => ?_⟩
  rw [den_v.mp h1, den_v.mp h2]
  exact ⟨z, i, c, rfl, rfl, Nat.le_trans hz (by rw [sizeLine_eq]; omega), h, q _ H2 (e1.trans e2) (den_v.mpr rfl)⟩
/-- a text of at most n signs, whatever it is -/
theorem ed_strMul {z : Str} {n : Int} {Φ : Out → Prop} (i : Nat) {x : Str} {pos' p2 : Pos} {sts : List Stmt} (ha : ED X a Γ (.v (.str z))) (hb : ED X b Γ (iD n)) (h1 : 1 ≤ n) (h2 : n ≤ 1000) (hz : z.length = 1) (hok : PyData.strOk z = true) (hd : X.N.Nodup)
    (k : ∀ r : Str, r.length ≤ 1000 → PyData.strOk r = true → SsD X sts (Γ.set i (some (.v (.str r)))) Φ) (hN : X.N[i]? = some x := by rfl) (hx : Loc X.env.scope x := by first | exact Or.inl rfl | exact Or.inr rfl)
    (hs : swapsWith (.BinOp a .Mult b pos) (some (.Name x pos')) p2.line X.env = pure false := by rfl) (hf : X.fn x = true ∨ X.env.scope.names.lookup x = some .local := by first | exact .inl rfl | exact .inr rfl) : SsD X (.Assign [.Name x pos'] (.BinOp a .Mult b pos) p2 :: sts) Γ Φ := by
  obtain ⟨ta, pa, qa⟩ := ha
  obtain ⟨tb, pb, qb⟩ := hb
  refine ⟨_, pss_cons (ps_set (i := i) hd hN hx (pe_op op_strMul pa pb) hs hf) (pss_all (st' := sts)), fun σ H hl C E T => ?_⟩
  refine qa σ H C _ fun v H1 e1 g1 => qb σ H1 (C.mono e1) _ fun y H2 e2 g2 => ?_
  rw [den_v.mp g1, den_v.mp g2]
  refine ⟨z, n, rfl, rfl, h1, h2, hz, hok, fun r hr ho => ?_⟩
  have hi : i < σ.length := by
    rw [hl]
    exact (List.getElem?_eq_some_iff.mp hN).1
  exact (k r hr ho).all (by rw [List.length_set]; exact hl) ((C.mono (e1.trans e2)).set hi (den_v.mpr rfl)) (T.mono (e1.trans e2))
theorem ed_addS {z w : Str} (ha : ED X a Γ (.v (.str z))) (hb : ED X b Γ (.v (.str w))) (h : z.length + w.length ≤ 5000) : ED X (.BinOp a .Add b pos) Γ (.v (.str (z ++ w))) :=
  ed_op op_add_str ha hb fun x y H h1 h2 Q q => ⟨z, w, den_v.mp h1, den_v.mp h2, Nat.le_trans h (by rw [sizeLine_eq]; omega), q _ H (Ex.refl H) (den_v.mpr rfl)⟩
/-- int(b) -/
theorem ed_toIntB {k : Bool} {p : Pos} (hm : X.mg "int" = none) (ha : ED X a Γ (bD k)) (hg : Gl X "int" := by rfl) (he : starEach (a :: []) X.env = (false, eval a X.env) :: starEach [] X.env := by rfl) (hpl : (backTo pos (starEach [] X.env)).any (·.1) = false := by rfl) :
    ED X (.Call (.Name "int" p) [a] [] pos) Γ (iD (if k then 1 else 0)) := by
  refine ed_callTy (d := iD (if k then 1 else 0)) call_int1 hm (by decide +kernel) (ad_cons ha ad_nil he) (fun xs H h Q q => ?_) hg (by decide) (by decide) he hpl
  obtain ⟨x, rfl, h1⟩ := denL_one h
  rw [den_v.mp h1]
  exact .inr ⟨k, rfl, q _ H (Ex.refl H) (den_v.mpr rfl)⟩
end
/-! ### lists of texts compared -/
abbrev sD (x : Str) : D := .v (.str x)
theorem py_strs {K : PySem.W.Frag} {H : Hp} : ∀ {ns : List Str} {ys : List V}, DenL K H (ns.map sD) ys → DpAll K H ys (ns.map PyData.str)
  | [], ys, h => by
    simp only [List.map_nil, DenL] at h
    subst h
    exact .nil
  | n :: ns, ys, h => by
    simp only [List.map_cons, DenL] at h
    obtain ⟨z, zs, rfl, h1, h2⟩ := h
    rw [den_v.mp h1]
    exact .cons (.str n) (py_strs h2)
theorem pys_lay : ∀ ns : List Str, (∀ n ∈ ns, PyData.strOk n = true) → PyData.canLayAll0 (ns.map PyData.str) = true
  | [], _ => by simp [PyData.canLayAll0]
  | n :: ns, h => by
    rw [List.map_cons]
    simp only [PyData.canLayAll0, PyData.canLay0, pys_lay ns fun m hm => h m (List.mem_cons_of_mem _ hm), h n (List.mem_cons_self ..), Bool.and_self]
theorem pys_dep : ∀ ns : List Str, PyData.depthAll (ns.map PyData.str) = 0
  | [] => by simp [PyData.depthAll]
  | n :: ns => by
    rw [List.map_cons]
    simp [PyData.depthAll, PyData.depth, pys_dep ns]
theorem pys_shaped (ns : List Str) (h : ∀ n ∈ ns, PyData.strOk n = true) : SeqAt.shaped (.list (ns.map PyData.str)) = true := by
  unfold SeqAt.shaped
  simp [PyData.canLay0, PyData.depth, pys_lay ns h, pys_dep]
theorem pys_eqv : ∀ ns : List Str, PyData.eqvAll (ns.map PyData.str) (ns.map PyData.str) = true
  | [] => by simp [PyData.eqvAll]
  | n :: ns => by
    simp only [List.map_cons, PyData.eqvAll, PyData.eqv, pys_eqv ns]
    simp
theorem dp_strs {K : PySem.W.Frag} {H : Hp} {ns : List Str} {y : V} (h : Den K H (.lst (ns.map sD)) y) : Dp K H y (.list (ns.map PyData.str)) := by
  simp only [Den] at h
  obtain ⟨a, ys, rfl, h1, h2⟩ := h
  exact .lst (SqL.of h1) (py_strs h2)
theorem rd_eqS {K : PySem.W.Frag} {ns : List Str} (hs : ∀ n ∈ ns, PyData.strOk n = true) : RD K (rEqD K) (.lst (ns.map sD)) (.lst (ns.map sD)) (bD true) := fun x y H h1 h2 Q q =>
  ⟨_, _, dp_strs h1, dp_strs h2, pys_shaped ns hs, pys_shaped ns hs, by
    have e : PyData.eqv (.list (ns.map PyData.str)) (.list (ns.map PyData.str)) = true := by
      simp only [PyData.eqv]
      exact pys_eqv ns
    rw [e]
    exact q _ H (Ex.refl H) (den_v.mpr rfl)⟩
theorem rd_neS {K : PySem.W.Frag} {ns : List Str} (hs : ∀ n ∈ ns, PyData.strOk n = true) : RD K (rNeD K) (.lst (ns.map sD)) (.lst (ns.map sD)) (bD false) := fun x y H h1 h2 Q q =>
  ⟨_, _, dp_strs h1, dp_strs h2, pys_shaped ns hs, pys_shaped ns hs, by
    have e : PyData.eqv (.list (ns.map PyData.str)) (.list (ns.map PyData.str)) = true := by
      simp only [PyData.eqv]
      exact pys_eqv ns
    rw [e]
    exact q _ H (Ex.refl H) (den_v.mpr rfl)⟩
end Trk

namespace Trk
open PySem L2 Evl
/-! ### lists that are changed in place: own lists -/
mutual
/-- no list lies in it -/
def flat : D → Bool
  | .v _ => true
  | .obj _ fs => flatF fs
  | .lst _ => false
  | .scr _ => false
  | .tup xs => flatL xs
  | .exc _ _ => false
  | .ced _ _ _ => false
def flatL : List D → Bool
  | [] => true
  | x :: xs => flat x && flatL xs
def flatF : List (Str × D) → Bool
  | [] => true
  | (_, x) :: xs => flat x && flatF xs
end
/-- the heap without as -/
def wo (H : Hp) (as : List Addr) : Hp := fun b => if b ∈ as then none else H b
theorem wo_in {H : Hp} {as : List Addr} {a : Addr} (h : a ∈ as) : wo H as a = none := if_pos h
theorem wo_out {H : Hp} {as : List Addr} {a : Addr} (h : a ∉ as) : wo H as a = H a := if_neg h
theorem wo_ex {H : Hp} {as : List Addr} : Ex (wo H as) H := fun b o h => by
  by_cases hb : b ∈ as
  · rw [wo_in hb] at h
    cases h
  · rwa [wo_out hb] at h
section
variable {K : PySem.W.Frag} {H : Hp} {as : List Addr}
theorem wo_keep (hA : ∀ b ∈ as, ∃ ys, H b = some (.lst ys)) {b : Addr} {o : HO} (h : H b = some o) (ho : ∀ ys, o ≠ .lst ys) : wo H as b = some o := by
  have : b ∉ as := fun z => by
    obtain ⟨ys, e⟩ := hA b z
    rw [h] at e
    exact ho ys (Option.some.inj e)
  rw [wo_out this, h]
theorem sqT_wo (hA : ∀ b ∈ as, ∃ ys, H b = some (.lst ys)) {a : Addr} {ys : List V} (h : SqT K H a ys) : SqT K (wo H as) a ys := by
  rcases h with h | h
  · refine .inl ?_
    rcases h with h | ⟨o, h⟩
    · exact .inl (wo_keep hA h fun ys z => by cases z)
    · exact .inr ⟨o, wo_keep hA h fun ys z => by cases z⟩
  · exact .inr h
mutual
theorem Den.wo (hA : ∀ b ∈ as, ∃ ys, H b = some (.lst ys)) : ∀ {d : D} {y : V}, flat d = true → Den K H d y → Den K (wo H as) d y
  | .v x, y, _, h => by
    simp only [Den] at h ⊢
    exact h
  | .obj C fs, y, hf, h => by
    simp only [Den] at h ⊢
    obtain ⟨a, dx, gs, h1, h2, h3⟩ := h
    simp only [flat] at hf
    exact ⟨a, dx, gs, h1, wo_keep hA h2 (fun ys z => by cases z), DenF.wo hA hf h3⟩
  | .lst xs, y, hf, h => by simp only [flat] at hf; cases hf
  | .scr xs, y, hf, h => by simp only [flat] at hf; cases hf
  | .tup xs, y, hf, h => by
    simp only [Den] at h ⊢
    obtain ⟨a, ys, h1, h2, h3⟩ := h
    simp only [flat] at hf
    exact ⟨a, ys, h1, sqT_wo hA h2, DenL.wo hA hf h3⟩
  | .exc C fs, y, hf, h => by simp only [flat] at hf; cases hf
  | .ced a d fs, y, hf, h => by simp only [flat] at hf; cases hf
theorem DenL.wo (hA : ∀ b ∈ as, ∃ ys, H b = some (.lst ys)) : ∀ {ds : List D} {ys : List V}, flatL ds = true → DenL K H ds ys → DenL K (wo H as) ds ys
  | [], ys, _, h => by
    simp only [DenL] at h ⊢
    exact h
  | x :: xs, ys, hf, h => by
    simp only [DenL] at h ⊢
    simp only [flatL, Bool.and_eq_true] at hf
    obtain ⟨z, zs, h1, h2, h3⟩ := h
    exact ⟨z, zs, h1, Den.wo hA hf.1 h2, DenL.wo hA hf.2 h3⟩
theorem DenF.wo (hA : ∀ b ∈ as, ∃ ys, H b = some (.lst ys)) : ∀ {ds : List (Str × D)} {ys : List (Str × V)}, flatF ds = true → DenF K H ds ys → DenF K (wo H as) ds ys
  | [], ys, _, h => by
    simp only [DenF] at h ⊢
    exact h
  | (f, x) :: xs, ys, hf, h => by
    simp only [DenF] at h ⊢
    simp only [flatF, Bool.and_eq_true] at hf
    obtain ⟨z, zs, h1, h2, h3⟩ := h
    exact ⟨z, zs, h1, Den.wo hA hf.1 h2, DenF.wo hA hf.2 h3⟩
end
end
/-- the own lists: their slots and what they hold, their addresses; F the part of the heap that stays -/
abbrev Om := List (Nat × List D)
def OwnL (K : PySem.W.Frag) (F H : Hp) (σ : L2.St) : Om → List Addr → Prop
  | [], [] => True
  | (i, ds) :: Ω, a :: as => (σ[i]? = some (some (.ref a)) ∧ F a = none ∧ a ∉ as ∧ ∃ ys, H a = some (.lst ys) ∧ DenL K F ds ys) ∧ OwnL K F H σ Ω as
  | _, _ => False
section
variable {K : PySem.W.Frag} {F F' H H' : Hp} {σ σ' : L2.St}
theorem OwnL.at : ∀ {Ω : Om} {as : List Addr} {k i : Nat} {ds : List D}, OwnL K F H σ Ω as → Ω[k]? = some (i, ds) → ∃ a ys, as[k]? = some a ∧ σ[i]? = some (some (.ref a)) ∧ F a = none ∧ H a = some (.lst ys) ∧ DenL K F ds ys
  | [], _, k, i, ds, _, h => by simp at h
  | p :: Ω, [], k, i, ds, h, _ => by cases p; exact h.elim
  | (j, es) :: Ω, a :: as, 0, i, ds, h, e => by
    simp at e
    obtain ⟨rfl, rfl⟩ := e
    obtain ⟨⟨h1, h2, h3, ys, h4, h5⟩, _⟩ := h
    exact ⟨a, ys, by simp, h1, h2, h4, h5⟩
  | (j, es) :: Ω, a :: as, k + 1, i, ds, h, e => by
    obtain ⟨_, h⟩ := h
    obtain ⟨b, ys, q1, q2⟩ := OwnL.at (k := k) h (by simpa using e)
    exact ⟨b, ys, by simpa using q1, q2⟩
theorem OwnL.lists : ∀ {Ω : Om} {as : List Addr}, OwnL K F H σ Ω as → ∀ b ∈ as, F b = none ∧ ∃ ys, H b = some (.lst ys)
  | [], [], _, b, hb => by cases hb
  | [], _ :: _, h, _, _ => h.elim
  | p :: Ω, [], h, b, hb => by cases hb
  | (j, es) :: Ω, a :: as, h, b, hb => by
    obtain ⟨⟨h1, h2, h3, ys, h4, h5⟩, h⟩ := h
    rcases List.mem_cons.mp hb with rfl | hb
    · exact ⟨h2, ys, h4⟩
    · exact OwnL.lists h b hb
/-- the rest of the heap may change, the part that stays may grow, slots that are not theirs may be set -/
theorem OwnL.move : ∀ {Ω : Om} {as : List Addr}, OwnL K F H σ Ω as → Ex F F' → (∀ b ∈ as, F' b = none) → (∀ b ∈ as, H' b = H b) → (∀ i ds, (i, ds) ∈ Ω → σ'[i]? = σ[i]?) → OwnL K F' H' σ' Ω as
  | [], [], _, _, _, _, _ => True.intro
  | [], _ :: _, h, _, _, _, _ => h.elim
  | p :: Ω, [], h, _, _, _, _ => by cases p; exact h.elim
  | (j, es) :: Ω, a :: as, h, e, f, g, s => by
    obtain ⟨⟨h1, h2, h3, ys, h4, h5⟩, h⟩ := h
    exact ⟨⟨by rw [s j es (List.mem_cons_self ..)]; exact h1, f a (List.mem_cons_self ..), h3, ys, by rw [g a (List.mem_cons_self ..)]; exact h4, h5.mono e⟩, h.move e (fun b hb => f b (List.mem_cons_of_mem _ hb)) (fun b hb => g b (List.mem_cons_of_mem _ hb)) fun i ds hi => s i ds (List.mem_cons_of_mem _ hi)⟩
/-- the k-th is written -/
theorem OwnL.put : ∀ {Ω : Om} {as : List Addr} {k i : Nat} {ds es : List D} {a : Addr} {ys : List V}, OwnL K F H σ Ω as → Ω[k]? = some (i, ds) → as[k]? = some a → DenL K F es ys → OwnL K F (upd H a (.lst ys)) σ (Ω.set k (i, es)) as
  | [], _, k, i, ds, es, a, ys, _, h, _, _ => by simp at h
  | p :: Ω, [], k, i, ds, es, a, ys, h, _, _, _ => by cases p; exact h.elim
  | (j, fs) :: Ω, b :: as, 0, i, ds, es, a, ys, h, e, ea, hd => by
    simp at e ea
    obtain ⟨rfl, rfl⟩ := e
    subst ea
    obtain ⟨⟨h1, h2, h3, _, h4, h5⟩, h⟩ := h
    exact ⟨⟨h1, h2, h3, ys, upd_same, hd⟩, h.move (Ex.refl F) (fun c hc => (h.lists c hc).1) (fun c hc => upd_ne fun z => h3 (z ▸ hc)) fun _ _ _ => rfl⟩
  | (j, fs) :: Ω, b :: as, k + 1, i, ds, es, a, ys, h, e, ea, hd => by
    obtain ⟨⟨h1, h2, h3, zs, h4, h5⟩, h⟩ := h
    have ha : a ∈ as := List.mem_of_getElem? (i := k) (by simpa using ea)
    exact ⟨⟨h1, h2, h3, zs, (upd_ne (fun z => h3 (by rw [z]; exact ha))).trans h4, h5⟩, OwnL.put (k := k) h (by simpa using e) (by simpa using ea) hd⟩
end
structure COwn (K : PySem.W.Frag) (F H : Hp) (Γ : Gm) (Ω : Om) (as : List Addr) (σ : L2.St) : Prop where
  ex : Ex F H
  cx : Ctx K F Γ σ
  own : OwnL K F H σ Ω as
/-- the slots as they read -/
def pl : Om → Gm → Gm
  | [], Γ => Γ
  | (i, ds) :: Ω, Γ => (pl Ω Γ).set i (some (.lst ds))
theorem Ctx.put {K : PySem.W.Frag} {H : Hp} {Γ : Gm} {σ : L2.St} {i : Nat} {d : D} {v : V} (c : Ctx K H Γ σ) (hi : σ[i]? = some (some v)) (h : Den K H d v) : Ctx K H (Γ.set i (some d)) σ := fun j e g => by
  by_cases hj : i = j
  · subst hj
    rw [List.getElem?_set] at g
    simp only [if_true] at g
    split at g
    · cases Option.some.inj (Option.some.inj g)
      exact ⟨v, hi, h⟩
    · cases g
  · rw [List.getElem?_set_ne hj] at g
    exact c j e g
theorem COwn.read {K : PySem.W.Frag} {F H : Hp} {Γ : Gm} {σ : L2.St} : ∀ {Ω : Om} {as : List Addr}, COwn K F H Γ Ω as σ → Ctx K H (pl Ω Γ) σ := fun {Ω as} c => by
  have key : ∀ {Ω : Om} {as : List Addr}, OwnL K F H σ Ω as → Ctx K H (pl Ω Γ) σ := by
    intro Ω
    induction Ω with
    | nil => intro as _; exact c.cx.mono c.ex
    | cons p Ω ih =>
      obtain ⟨i, ds⟩ := p
      intro as h
      cases as with
      | nil => exact h.elim
      | cons a as =>
        obtain ⟨⟨h1, h2, h3, ys, h4, h5⟩, h⟩ := h
        refine (ih h).put h1 ?_
        simp only [Den]
        exact ⟨a, ys, rfl, h4, h5.mono c.ex⟩
  exact key c.own
/-- behind an expression -/
theorem COwn.grow {K : PySem.W.Frag} {F H H' : Hp} {Γ : Gm} {Ω : Om} {as : List Addr} {σ : L2.St} (c : COwn K F H Γ Ω as σ) (e : Ex H H') : Ex F (wo H' as) ∧ COwn K (wo H' as) H' Γ Ω as σ ∧ ∀ b ∈ as, ∃ ys, H' b = some (.lst ys) := by
  have e2 : Ex F (wo H' as) := fun b o h => by
    have : b ∉ as := fun z => by
      rw [(c.own.lists b z).1] at h
      cases h
    rw [wo_out this]
    exact e b o (c.ex b o h)
  refine ⟨e2, ⟨wo_ex, c.cx.mono e2, c.own.move e2 (fun b hb => wo_in hb) (fun b hb => ?_) fun _ _ _ => rfl⟩, fun b hb => ?_⟩
  · obtain ⟨ys, h⟩ := (c.own.lists b hb).2
    rw [h, e b _ h]
  · obtain ⟨ys, h⟩ := (c.own.lists b hb).2
    exact ⟨ys, e b _ h⟩
/-! ### statements over own lists -/
inductive OutO where
  | nx (Γ : Gm) (Ω : Om)
  | rt (d : D)
  | bk (Γ : Gm) (Ω : Om)
  | ct (Γ : Gm) (Ω : Om)
  | ex (cls : Value) (fs : List (Str × D)) (Γ : Gm) (Ω : Om)
structure TkO (X : Cx) (F : Hp) (Φ : OutO → Prop) (E : Ends) : Prop where
  nx : ∀ Γ Ω σ F' H' as, Φ (.nx Γ Ω) → Ex F F' → σ.length = X.N.length → COwn X.K F' H' Γ Ω as σ → E.nx σ H'
  rt : ∀ d v H', Φ (.rt d) → Ex F H' → Den X.K H' d v → E.rt v H'
  bk : ∀ Γ Ω σ F' H' as, Φ (.bk Γ Ω) → Ex F F' → σ.length = X.N.length → COwn X.K F' H' Γ Ω as σ → E.bk σ H'
  ct : ∀ Γ Ω σ F' H' as, Φ (.ct Γ Ω) → Ex F F' → σ.length = X.N.length → COwn X.K F' H' Γ Ω as σ → E.ct σ H'
  ex : ∀ cls fs Γ Ω d σ F' H' as, Φ (.ex cls fs Γ Ω) → Ex F F' → σ.length = X.N.length → COwn X.K F' H' Γ Ω as σ → DenX X.K H' d fs → W0 X cls d σ H'
theorem TkO.mono {X : Cx} {F F' : Hp} {Φ : OutO → Prop} {E : Ends} (e : Ex F F') (t : TkO X F Φ E) : TkO X F' Φ E :=
  ⟨fun Γ Ω σ G H2 as h e2 => t.nx Γ Ω σ G H2 as h (e.trans e2), fun d v H2 h e2 => t.rt d v H2 h (e.trans e2), fun Γ Ω σ G H2 as h e2 => t.bk Γ Ω σ G H2 as h (e.trans e2), fun Γ Ω σ G H2 as h e2 => t.ct Γ Ω σ G H2 as h (e.trans e2), fun c fs Γ Ω d σ G H2 as h e2 => t.ex c fs Γ Ω d σ G H2 as h (e.trans e2)⟩
def SO (X : Cx) (sts : List Stmt) (Γ : Gm) (Ω : Om) (Φ : OutO → Prop) : Prop := ∀ σ F H as, σ.length = X.N.length → COwn X.K F H Γ Ω as σ → ∀ E : Ends, TkO X F Φ E → allS X sts E σ H
section
variable {X : Cx} {Γ : Gm} {Ω : Om} {d d1 d2 : D} {ds : List D} {e a b c : Expr} {es : List Expr} {pos : Pos} {st : Stmt} {sts body rest : List Stmt} {Φ Ψ : OutO → Prop} {Φ0 : Out → Prop}
/-- no own list yet -/
theorem so_top (h : SO X sts Γ [] Φ) (h1 : ∀ d, Φ (.rt d) → Φ0 (.rt d)) (h2 : ∀ Γ Ω, Φ (.nx Γ Ω) → Φ0 (.nx Γ)) (h3 : ∀ Γ Ω, ¬ Φ (.bk Γ Ω)) (h4 : ∀ Γ Ω, ¬ Φ (.ct Γ Ω)) (h5 : ∀ c fs Γ Ω, Φ (.ex c fs Γ Ω) → Φ0 (.ex c fs Γ)) : SsD X sts Γ Φ0 :=
  ⟨_, pss_all (st' := sts), fun σ H hl C E T => h σ H H [] hl ⟨Ex.refl H, C, True.intro⟩ E ⟨fun Γ' Ω' σ' F' H' as z e l c => T.nx Γ' σ' H' (h2 _ _ z) (e.trans c.ex) l (c.cx.mono c.ex), fun d v H' z e hv => T.rt d v H' (h1 _ z) e hv, fun Γ' Ω' σ' F' H' as z => absurd z (h3 _ _), fun Γ' Ω' σ' F' H' as z => absurd z (h4 _ _),
    fun cls fs Γ' Ω' d σ' F' H' as z e l c x => T.ex cls fs Γ' d σ' H' (h5 _ _ _ _ z) (e.trans c.ex) l (c.cx.mono c.ex) x⟩⟩
theorem so_nil (h : Φ (.nx Γ Ω)) : SO X [] Γ Ω Φ := fun σ F H as hl C E T pins s I => (pss_nil (X := X)).run pins s σ H E I (T.nx Γ Ω σ F H as h (Ex.refl F) hl C)
theorem all_cons {t : TS} {E : Ends} {σ : L2.St} {H : Hp} (p : PS X st t) (h : t { E with nx := fun σ' H' => allS X sts E σ' H' } σ H) : allS X (st :: sts) E σ H := fun pins s I => (pss_cons p (pss_all (st' := sts))).run pins s σ H E I h
theorem slot_lt {x : Str} {i : Nat} {σ : L2.St} (hN : X.N[i]? = some x) (hl : σ.length = X.N.length) : i < σ.length := by
  rw [hl]
  exact (List.getElem?_eq_some_iff.mp hN).1
/-- x = e, nothing of a list in it, x no own list -/
theorem so_asg (i : Nat) {x : Str} {pos' : Pos} (he : ED X e (pl Ω Γ) d) (hf : flat d = true) (ho : ∀ j es, (j, es) ∈ Ω → j ≠ i) (hd : X.N.Nodup) (k : SO X sts (Γ.set i (some d)) Ω Φ) (hN : X.N[i]? = some x := by rfl) (hx : Loc X.env.scope x := by first | exact Or.inl rfl | exact Or.inr rfl)
    (hs : swapsWith e (some (.Name x pos')) pos.line X.env = pure false := by rfl) (hf2 : X.fn x = true ∨ X.env.scope.names.lookup x = some .local := by first | exact .inl rfl | exact .inr rfl) : SO X (.Assign [.Name x pos'] e pos :: sts) Γ Ω Φ := by
  obtain ⟨t, p, q⟩ := he
  intro σ F H as hl C E T
  refine all_cons (ps_set (i := i) hd hN hx p hs hf2) (q σ H C.read _ fun v H1 e1 h1 => ?_)
  obtain ⟨e2, C2, hA⟩ := C.grow e1
  refine k _ (wo H1 as) H1 as (by rw [List.length_set]; exact hl) ⟨C2.ex, C2.cx.set (slot_lt hN hl) (h1.wo hA hf), C2.own.move (Ex.refl _) (fun b hb => wo_in hb) (fun b hb => rfl) fun j es hj => ?_⟩ E (T.mono e2)
  rw [List.getElem?_set_ne (Ne.symm (ho j es hj))]
/-- e gives a list of its own -/
def FD (X : Cx) (e : Expr) (Γ : Gm) (ds : List D) : Prop := ∃ t, PE X e t ∧ ∀ σ H, Ctx X.K H Γ σ → ∀ Q : VK, (∀ p H1 ys, Ex H H1 → H1 p = none → DenL X.K H1 ds ys → Q (.ref p) (upd H1 p (.lst ys))) → t σ H Q
theorem FD.ed (h : FD X e Γ ds) : ED X e Γ (.lst ds) := by
  obtain ⟨t, p, q⟩ := h
  refine ⟨t, p, fun σ H C Q k => q σ H C Q fun p H1 ys e1 n hL => k _ _ (fun b o hb => ?_) ?_⟩
  · have h := e1 b o hb
    rw [upd_ne (ne_of_none h n)]
    exact h
  · simp only [Den]
    refine ⟨p, ys, rfl, upd_same, hL.mono fun b o hb => ?_⟩
    rw [upd_ne (ne_of_none hb n)]
    exact hb
/-- x = a list of its own -/
theorem so_new (i : Nat) {x : Str} {pos' : Pos} (he : FD X e (pl Ω Γ) ds) (hf : flatL ds = true) (ho : ∀ j es, (j, es) ∈ Ω → j ≠ i) (hd : X.N.Nodup) (k : SO X sts (Γ.set i none) ((i, ds) :: Ω) Φ) (hN : X.N[i]? = some x := by rfl) (hx : Loc X.env.scope x := by first | exact Or.inl rfl | exact Or.inr rfl)
    (hs : swapsWith e (some (.Name x pos')) pos.line X.env = pure false := by rfl) (hf2 : X.fn x = true ∨ X.env.scope.names.lookup x = some .local := by first | exact .inl rfl | exact .inr rfl) : SO X (.Assign [.Name x pos'] e pos :: sts) Γ Ω Φ := by
  obtain ⟨t, p, q⟩ := he
  intro σ F H as hl C E T
  refine all_cons (ps_set (i := i) hd hN hx p hs hf2) (q σ H C.read _ fun p H1 ys e1 n hL => ?_)
  obtain ⟨e2, C2, hA⟩ := C.grow e1
  have hi := slot_lt hN hl
  have pn : p ∉ as := fun z => by
    obtain ⟨ys, h⟩ := hA p z
    rw [h] at n
    cases n
  have fp : wo H1 as p = none := by rw [wo_out pn, n]
  refine k _ (wo H1 as) _ (p :: as) (by rw [List.length_set]; exact hl) ⟨fun b o hb => ?_, fun j d2 g => ?_, ⟨List.getElem?_set_self hi, fp, pn, ys, upd_same, hL.wo hA hf⟩, C2.own.move (Ex.refl _) (fun b hb => wo_in hb) (fun b hb => upd_ne fun z => pn (z ▸ hb)) fun j es hj => by rw [List.getElem?_set_ne (Ne.symm (ho j es hj))]⟩ E (T.mono e2)
  · rw [upd_ne (ne_of_none hb fp)]
    exact C2.ex b o hb
  · by_cases hj : i = j
    · subst hj
      rw [List.getElem?_set] at g
      simp only [if_true] at g
      split at g <;> cases g
    · rw [List.getElem?_set_ne hj] at g
      obtain ⟨w, h1, h2⟩ := C2.cx j d2 g
      exact ⟨w, by rw [List.getElem?_set_ne hj]; exact h1, h2⟩
/-- own.append(e) -/
theorem so_app (k i : Nat) {x : Str} {p1 p2 p3 : Pos} (hk : Ω[k]? = some (i, ds)) (he : ED X e (pl Ω Γ) d) (hf : flat d = true) (hz : ds.length < 1000000) (kk : SO X sts Γ (Ω.set k (i, ds ++ [d])) Φ) (hN : X.N[i]? = some x := by rfl)
    (hv : Vis X.env.scope x := by first | exact Or.inl rfl | exact Or.inr (Or.inl rfl) | exact Or.inr (Or.inr rfl)) (hdb : (x == ("__debug__" : Str)) = false := by decide) (hcd : (x == ("__classdict__" : Str)) = false := by decide)
    (hbase : attributeBase (.Name x p1) "append" X.env (eval (.Name x p1) X.env) = eval (.Name x p1) X.env := by rfl)
    (hfew : ((backTo p3 (starEach (e :: []) X.env)).all (fun x => !x.1) && (backToKw p3 (keywordEach [] X.env)).all (fun x => x.1.isSome) && decide ((e :: []).length + ([] : List Keyword).length + (if ([] : List Keyword).isEmpty then 0 else 1) < 30)) = true := by rfl)
    (hline : (p2.endLine == p3.line) = true := by rfl) (hs1 : starEach (e :: []) X.env = (false, eval e X.env) :: starEach [] X.env := by rfl) (hpl : (backTo p3 (starEach [] X.env)).any (·.1) = false := by rfl)
    (hs : swapsWith (.Call (.Attribute (.Name x p1) "append" p2) [e] [] p3) none pos.line X.env = pure false := by rfl) : SO X (.Expr (.Call (.Attribute (.Name x p1) "append" p2) [e] [] p3) pos :: sts) Γ Ω Φ := by
  obtain ⟨t, p, q⟩ := he
  intro σ F H as hl C E T
  refine all_cons (ps_expr (pe_bm PySem.F.plainAttrs_list PySem.F.slot_list_append PySem.F.type_list_append mt_append (pv i hN hv hdb hcd) (pa_cons p pa_nil hs1) hbase hfew hline hs1 hpl) hs) ?_
  obtain ⟨l, ys, h0, h1, h2, h3, h4⟩ := C.own.at hk
  refine ⟨.ref l, h1, .inl ⟨rfl, ys, .inl (.inl h3)⟩, q σ H C.read _ fun v H1 e1 hv1 => ?_⟩
  obtain ⟨e2, C2, hA⟩ := C.grow e1
  have h3' := e1 _ _ h3
  refine ⟨l, ys, v, rfl, rfl, h3', (by rw [← h4.len, sizeLine_eq]; omega), ?_⟩
  have la : l ∈ as := List.mem_of_getElem? h0
  have snoc : ∀ {ds : List D} {ys : List V}, DenL X.K (wo H1 as) ds ys → DenL X.K (wo H1 as) (ds ++ [d]) (ys ++ [v]) := by
    intro ds
    induction ds with
    | nil =>
      intro ys h
      simp only [DenL] at h
      subst h
      exact DenL.cons (hv1.wo hA hf) DenL.nil
    | cons d0 ds ih =>
      intro ys h
      simp only [DenL] at h
      obtain ⟨z, zs, rfl, hz, hzs⟩ := h
      exact DenL.cons hz (ih hzs)
  exact kk σ (wo H1 as) _ as hl ⟨fun b o hb => by rw [upd_ne (ne_of_none hb (wo_in la))]; exact C2.ex b o hb, C2.cx, C2.own.put hk h0 (snoc (h4.mono e2))⟩ E (T.mono e2)
/-- own[e1] = e2 -/
theorem so_set (k i : Nat) {x : Str} {p1 p2 : Pos} {n : Int} {j : Nat} (hk : Ω[k]? = some (i, ds)) (hi : ED X a (pl Ω Γ) (iD n)) (he : ED X e (pl Ω Γ) d) (hf : flat d = true) (hj : ixN ds.length n = some j) (kk : SO X sts Γ (Ω.set k (i, ds.set j d)) Φ) (hN : X.N[i]? = some x := by rfl)
    (hv : Vis X.env.scope x := by first | exact Or.inl rfl | exact Or.inr (Or.inl rfl) | exact Or.inr (Or.inr rfl)) (hdb : (x == ("__debug__" : Str)) = false := by decide) (hcd : (x == ("__classdict__" : Str)) = false := by decide)
    (hpg : ∀ {to ti : TE}, PE X (.Name x p1) to → PE X a ti → PG X (.Subscript (.Name x p1) a p2) (gSub to ti rSetL) := by intro _ _ h1 h2; exact pg_sub h1 h2 set_list)
    (hs : swapsWithSole [.Subscript (.Name x p1) a p2] e pos.line X.env = pure false := by rfl) (hw : swappedStores [.Subscript (.Name x p1) a p2] e X.env = pure none := by rfl)
    (h1 : (assignEach [.Subscript (.Name x p1) a p2] X.env).map (·.2) = [assign (.Subscript (.Name x p1) a p2) X.env] := by rfl) : SO X (.Assign [.Subscript (.Name x p1) a p2] e pos :: sts) Γ Ω Φ := by
  obtain ⟨t, p, q⟩ := he
  obtain ⟨ti, pi, qi⟩ := hi
  intro σ F H as hl C E T
  refine all_cons (ps_asg p (hpg (pv i hN hv hdb hcd) pi) hs hw h1) (q σ H C.read _ fun v H1 e1 hv1 => ?_)
  obtain ⟨e2, C2, hA⟩ := C.grow e1
  obtain ⟨l, ys, g0, g1, g2, g3, g4⟩ := C2.own.at hk
  refine ⟨.ref l, g1, qi σ H1 C2.read _ fun w H2 e3 hw2 => ?_⟩
  rw [den_v.mp hw2]
  obtain ⟨e4, C3, hB⟩ := C2.grow e3
  have la : l ∈ as := List.mem_of_getElem? g0
  refine ⟨l, ys, n, j, rfl, rfl, e3 _ _ g3, by rw [← g4.len]; exact hj, ?_⟩
  have put : ∀ {ds : List D} {ys : List V} {j : Nat}, DenL X.K (wo H2 as) ds ys → DenL X.K (wo H2 as) (ds.set j d) (ys.set j v) := by
    intro ds
    induction ds with
    | nil =>
      intro ys j h
      simp only [DenL] at h
      subst h
      exact DenL.nil
    | cons d0 ds ih =>
      intro ys j h
      simp only [DenL] at h
      obtain ⟨z, zs, rfl, hz, hzs⟩ := h
      cases j with
      | zero => exact DenL.cons ((hv1.mono e3).wo hB hf) hzs
      | succ j => exact DenL.cons hz (ih hzs)
  exact kk σ (wo H2 as) _ as hl ⟨fun b o hb => by rw [upd_ne (ne_of_none hb (wo_in la))]; exact C3.ex b o hb, C3.cx, C3.own.put hk g0 (put (g4.mono e4))⟩ E (T.mono (e2.trans e4))
/-- own.pop() -/
theorem so_pop (k i : Nat) {x : Str} {p1 p2 p3 : Pos} (hk : Ω[k]? = some (i, ds)) (hne : ds ≠ []) (kk : SO X sts Γ (Ω.set k (i, ds.dropLast)) Φ) (hN : X.N[i]? = some x := by rfl)
    (hv : Vis X.env.scope x := by first | exact Or.inl rfl | exact Or.inr (Or.inl rfl) | exact Or.inr (Or.inr rfl)) (hdb : (x == ("__debug__" : Str)) = false := by decide) (hcd : (x == ("__classdict__" : Str)) = false := by decide)
    (hbase : attributeBase (.Name x p1) "pop" X.env (eval (.Name x p1) X.env) = eval (.Name x p1) X.env := by rfl) (hline : (p2.endLine == p3.line) = true := by rfl)
    (hs : swapsWith (.Call (.Attribute (.Name x p1) "pop" p2) [] [] p3) none pos.line X.env = pure false := by rfl) : SO X (.Expr (.Call (.Attribute (.Name x p1) "pop" p2) [] [] p3) pos :: sts) Γ Ω Φ := by
  intro σ F H as hl C E T
  refine all_cons (ps_expr (pe_bm0 PySem.F.plainAttrs_list PySem.F.slot_list_pop PySem.F.type_list_pop mt_pop (pv i hN hv hdb hcd) hbase hline) hs) ?_
  obtain ⟨l, ys, h0, h1, h2, h3, h4⟩ := C.own.at hk
  have la : l ∈ as := List.mem_of_getElem? h0
  have ny : 0 < ys.length := by rw [← h4.len]; exact List.length_pos_iff.mpr hne
  have drop : ∀ {ds : List D} {ys : List V}, DenL X.K F ds ys → DenL X.K F ds.dropLast ys.dropLast := by
    intro ds
    induction ds with
    | nil =>
      intro ys h
      simp only [DenL] at h
      subst h
      exact DenL.nil
    | cons d0 ds ih =>
      intro ys h
      simp only [DenL] at h
      obtain ⟨z, zs, rfl, hz, hzs⟩ := h
      cases ds with
      | nil =>
        simp only [DenL] at hzs
        subst hzs
        exact DenL.nil
      | cons d1 ds =>
        have hzs' := hzs
        simp only [DenL] at hzs
        obtain ⟨y, ys, rfl, _⟩ := hzs
        exact DenL.cons hz (ih hzs')
  refine ⟨.ref l, h1, .inl ⟨rfl, ys, .inl (.inl h3)⟩, l, ys, ys[ys.length - 1], rfl, rfl, h3, List.getElem?_eq_getElem (by omega), ?_⟩
  exact kk σ F _ as hl ⟨fun b o hb => by rw [upd_ne (ne_of_none hb h2)]; exact C.ex b o hb, C.cx, C.own.put hk h0 (drop h4)⟩ E T
/-- return e -/
theorem so_ret (he : ED X e (pl Ω Γ) d) (h : Φ (.rt d)) : SO X (.Return (some e) pos :: sts) Γ Ω Φ := by
  obtain ⟨t, p, q⟩ := he
  intro σ F H as hl C E T
  exact all_cons (ps_ret p) (q σ H C.read _ fun v H1 e1 h1 => T.rt d v H1 h (C.ex.trans e1) h1)
theorem so_ifT {sa sb : List Stmt} (hc : TD X c (pl Ω Γ) true) (ka : SO X sa Γ Ω Ψ) (k : ∀ Γ' Ω', Ψ (.nx Γ' Ω') → SO X sts Γ' Ω' Φ) (ho : ∀ o, (∀ Γ' Ω', o ≠ .nx Γ' Ω') → Ψ o → Φ o) : SO X (.If c sa sb pos :: sts) Γ Ω Φ := by
  obtain ⟨t, p, q⟩ := hc
  intro σ F H as hl C E T
  refine all_cons (ps_if p (pss_all (st' := sa)) pss_nv) (q σ H C.read _ fun H1 e1 => ?_)
  obtain ⟨e2, C2, _⟩ := C.grow e1
  refine ka σ (wo H1 as) H1 as hl C2 _ ⟨fun Γ' Ω' σ' F' H' as' z e l c => k Γ' Ω' z σ' F' H' as' l c E (T.mono (e2.trans e)), fun d v H' z e => T.rt d v H' (ho _ (fun _ _ w => by cases w) z) (e2.trans e), fun Γ' Ω' σ' F' H' as' z e => T.bk Γ' Ω' σ' F' H' as' (ho _ (fun _ _ w => by cases w) z) (e2.trans e), fun Γ' Ω' σ' F' H' as' z e => T.ct Γ' Ω' σ' F' H' as' (ho _ (fun _ _ w => by cases w) z) (e2.trans e),
    fun c fs Γ' Ω' d σ' F' H' as' z e => T.ex c fs Γ' Ω' d σ' F' H' as' (ho _ (fun _ _ w => by cases w) z) (e2.trans e)⟩
theorem so_ifE {sa sb : List Stmt} (hc : TD X c (pl Ω Γ) false) (ka : SO X sb Γ Ω Ψ) (k : ∀ Γ' Ω', Ψ (.nx Γ' Ω') → SO X sts Γ' Ω' Φ) (ho : ∀ o, (∀ Γ' Ω', o ≠ .nx Γ' Ω') → Ψ o → Φ o) : SO X (.If c sa sb pos :: sts) Γ Ω Φ := by
  obtain ⟨t, p, q⟩ := hc
  intro σ F H as hl C E T
  refine all_cons (ps_if p pss_nv (pss_all (st' := sb))) (q σ H C.read _ fun H1 e1 => ?_)
  obtain ⟨e2, C2, _⟩ := C.grow e1
  refine ka σ (wo H1 as) H1 as hl C2 _ ⟨fun Γ' Ω' σ' F' H' as' z e l c => k Γ' Ω' z σ' F' H' as' l c E (T.mono (e2.trans e)), fun d v H' z e => T.rt d v H' (ho _ (fun _ _ w => by cases w) z) (e2.trans e), fun Γ' Ω' σ' F' H' as' z e => T.bk Γ' Ω' σ' F' H' as' (ho _ (fun _ _ w => by cases w) z) (e2.trans e), fun Γ' Ω' σ' F' H' as' z e => T.ct Γ' Ω' σ' F' H' as' (ho _ (fun _ _ w => by cases w) z) (e2.trans e),
    fun c fs Γ' Ω' d σ' F' H' as' z e => T.ex c fs Γ' Ω' d σ' F' H' as' (ho _ (fun _ _ w => by cases w) z) (e2.trans e)⟩
theorem so_ifF {sa : List Stmt} (hc : TD X c (pl Ω Γ) false) (k : SO X sts Γ Ω Φ) : SO X (.If c sa [] pos :: sts) Γ Ω Φ :=
  so_ifE (Ψ := fun o => o = .nx Γ Ω) hc (so_nil rfl) (fun Γ' Ω' z => by cases z; exact k) fun o h z => absurd z (h _ _)
end
end Trk

namespace Trk
open PySem L2 Evl
/-! ### loops over own lists -/
section
variable {X : Cx} {Γ : Gm} {Ω : Om} {d d1 d2 : D} {ds : List D} {e a b c : Expr} {es : List Expr} {pos : Pos} {st : Stmt} {sts body rest : List Stmt} {Φ Ψ : OutO → Prop} {Φ0 : Out → Prop}
theorem COwn.put {K : PySem.W.Frag} {F H : Hp} {as : List Addr} {σ : L2.St} {i : Nat} {v : V} (c : COwn K F H Γ Ω as σ) (ho : ∀ j es, (j, es) ∈ Ω → j ≠ i) (hi : i < σ.length) (h : Den K F d v) : COwn K F H (Γ.set i (some d)) Ω as (σ.set i (some v)) :=
  ⟨c.ex, c.cx.set hi h, c.own.move (Ex.refl _) (fun b hb => (c.own.lists b hb).1) (fun _ _ => rfl) fun j es hj => by rw [List.getElem?_set_ne (Ne.symm (ho j es hj))]⟩
/-- for x in range(n) -/
theorem so_forR (i : Nat) {x : Str} {n : Nat} {p1 p2 p3 : Pos} (J : Nat → Gm → Om → Prop) (hc : X.calm = true) (hm : X.mg "range" = none) (ha : ED X e (pl Ω Γ) (iD (n : Int))) (hd : X.N.Nodup) (hn : (n : Int) < 2 ^ 62) (h0 : J 0 Γ Ω) (ho : ∀ k Γ' Ω', J k Γ' Ω' → ∀ j es, (j, es) ∈ Ω' → j ≠ i)
    (hs : ∀ j Γ' Ω', j < n → J j Γ' Ω' → SO X body (Γ'.set i (some (iD (j : Int)))) Ω' (fun o => (∃ Γ2 Ω2, (o = .nx Γ2 Ω2 ∨ o = .ct Γ2 Ω2) ∧ J (j + 1) Γ2 Ω2) ∨ (∃ d, o = .rt d ∧ Φ (.rt d)) ∨ (∃ Γ2 Ω2, o = .bk Γ2 Ω2 ∧ SO X sts Γ2 Ω2 Φ) ∨ ∃ c fs Γ2 Ω2, o = .ex c fs Γ2 Ω2 ∧ Φ (.ex c fs Γ2 Ω2)))
    (k : ∀ Γ' Ω', J n Γ' Ω' → SO X sts Γ' Ω' Φ) (hp : PassesOwn (model X.prog X.w) X.A X.env X.xe := by exact PassesOwn.never) (hN : X.N[i]? = some x := by rfl) (hx : Loc X.env.scope x := by first | exact Or.inl rfl | exact Or.inr rfl) (hg : Gl X "range" := by rfl)
    (he : starEach [e] X.env = [(false, eval e X.env)] := by rfl) (hse : starEach (e :: []) X.env = (false, eval e X.env) :: starEach [] X.env := by rfl)
    (hf : X.fn x = true ∨ X.env.scope.names.lookup x = some .local := by first | exact .inl rfl | exact .inr rfl)
    (hfs : ∀ x, foldedSetIterable (.Call (.Name "range" p1) [e] [] p2) X.env x = pure x := by intro _; rfl) : SO X (.For (.Name x p3) (.Call (.Name "range" p1) [e] [] p2) body [] pos :: sts) Γ Ω Φ := by
  obtain ⟨ta, pa, qa⟩ := ha
  intro σ F H as hl C E T
  refine all_cons (ps_for hp hc (pi_range1 hg hm (pa_cons pa pa_nil hse) he) (pg_name (i := i) hd hN hx hf) (pss_all (st' := body)) hfs) (qa σ H C.read _ fun v H1 e1 h1 => ?_)
  refine ⟨(n : Int), by rw [den_v.mp h1], by omega, hn, ?_⟩
  rw [Int.toNat_natCast]
  obtain ⟨e2, C2, _⟩ := C.grow e1
  refine for_range (lo := 0) (n := n) (fun j σ' H' => ∃ Γ' Ω' F' as', J j Γ' Ω' ∧ σ'.length = X.N.length ∧ COwn X.K F' H' Γ' Ω' as' σ' ∧ Ex (wo H1 as) F') ⟨Γ, Ω, wo H1 as, as, h0, hl, C2, Ex.refl _⟩ ?_ ?_
  · rintro j σ' H' hj ⟨Γ', Ω', F', as', g1, g2, g3, g4⟩
    show allS X body _ (σ'.set i (some (.int ((0 : Int) + (j : Int))))) H'
    rw [Int.zero_add]
    refine hs j Γ' Ω' hj g1 _ F' H' as' (by rw [List.length_set]; exact g2) (g3.put (ho j Γ' Ω' g1) (slot_lt hN g2) (den_v.mpr rfl)) _ ?_
    refine ⟨fun Γ2 Ω2 σ2 F2 H2 as2 z e3 l2 c2 => ?_, fun d v H2 z e3 hv => ?_, fun Γ2 Ω2 σ2 F2 H2 as2 z e3 l2 c2 => ?_, fun Γ2 Ω2 σ2 F2 H2 as2 z e3 l2 c2 => ?_, fun cl fs Γ2 Ω2 d σ2 F2 H2 as2 z e3 l2 c2 x2 => ?_⟩
    · rcases z with ⟨Γ3, Ω3, z | z, w⟩ | ⟨_, z, _⟩ | ⟨_, _, z, _⟩ | ⟨_, _, _, _, z, _⟩ <;> cases z
      exact ⟨Γ2, Ω2, F2, as2, w, l2, c2, g4.trans e3⟩
    · rcases z with ⟨Γ3, Ω3, z | z, w⟩ | ⟨_, z, w⟩ | ⟨_, _, z, _⟩ | ⟨_, _, _, _, z, _⟩ <;> cases z
      exact T.rt d v H2 w ((e2.trans g4).trans e3) hv
    · rcases z with ⟨Γ3, Ω3, z | z, w⟩ | ⟨_, z, w⟩ | ⟨_, _, z, w⟩ | ⟨_, _, _, _, z, _⟩ <;> cases z
      exact w σ2 F2 H2 as2 l2 c2 E (T.mono ((e2.trans g4).trans e3))
    · rcases z with ⟨Γ3, Ω3, z | z, w⟩ | ⟨_, z, w⟩ | ⟨_, _, z, w⟩ | ⟨_, _, _, _, z, _⟩ <;> cases z
      exact ⟨Γ2, Ω2, F2, as2, w, l2, c2, g4.trans e3⟩
    · rcases z with ⟨Γ3, Ω3, z | z, w⟩ | ⟨_, z, w⟩ | ⟨_, _, z, w⟩ | ⟨_, _, _, _, z, w⟩ <;> cases z
      exact T.ex cl fs Γ2 Ω2 d σ2 F2 H2 as2 w ((e2.trans g4).trans e3) l2 c2 x2
  · rintro σ' H' ⟨Γ', Ω', F', as', g1, g2, g3, g4⟩
    exact k Γ' Ω' g1 σ' F' H' as' g2 g3 E (T.mono (e2.trans g4))
/-- while -/
theorem so_while (J : Nat → Gm → Om → Prop) (m0 : Nat) (h0 : J m0 Γ Ω)
    (hs : ∀ m Γ' Ω', J m Γ' Ω' → ∃ k, TD X c (pl Ω' Γ') k ∧ (k = true → SO X body Γ' Ω' (fun o => (∃ Γ2 Ω2 m', (o = .nx Γ2 Ω2 ∨ o = .ct Γ2 Ω2) ∧ m' < m ∧ J m' Γ2 Ω2) ∨ (∃ d, o = .rt d ∧ Φ (.rt d)) ∨ (∃ Γ2 Ω2, o = .bk Γ2 Ω2 ∧ SO X sts Γ2 Ω2 Φ) ∨ ∃ c fs Γ2 Ω2, o = .ex c fs Γ2 Ω2 ∧ Φ (.ex c fs Γ2 Ω2))) ∧ (k = false → SO X sts Γ' Ω' Φ))
    (hp : PassesOwn (model X.prog X.w) X.A X.env X.xe := by exact PassesOwn.never) : SO X (.While c body [] pos :: sts) Γ Ω Φ := by
  intro σ F H as hl C E T
  refine all_cons (ps_while hp (pt_all (c := c)) (pss_all (st' := body))) ?_
  refine ⟨fun m σ' H' => ∃ Γ' Ω' F' as', J m Γ' Ω' ∧ σ'.length = X.N.length ∧ COwn X.K F' H' Γ' Ω' as' σ' ∧ Ex F F', ⟨m0, Γ, Ω, F, as, h0, hl, C, Ex.refl _⟩, ?_⟩
  rintro m σ' H' ⟨Γ', Ω', F', as', g1, g2, g3, g4⟩
  obtain ⟨k, ht, hb, hn⟩ := hs m Γ' Ω' g1
  refine ht.all g3.read fun H2 e2 => ?_
  obtain ⟨e5, C2, _⟩ := g3.grow e2
  cases k with
  | false =>
    show allS X sts E σ' H2
    exact hn rfl σ' _ H2 as' g2 C2 E (T.mono (g4.trans e5))
  | true =>
    show ∃ N : L2.St → Hp → Prop, _
    refine ⟨fun σ3 H3 => ∃ m' Γ3 Ω3 F3 as3, m' < m ∧ J m' Γ3 Ω3 ∧ σ3.length = X.N.length ∧ COwn X.K F3 H3 Γ3 Ω3 as3 σ3 ∧ Ex F F3, fun σ3 H3 ⟨m', Γ3, Ω3, F3, as3, q1, q2, q3, q4, q5⟩ => ⟨m', q1, Γ3, Ω3, F3, as3, q2, q3, q4, q5⟩, ?_⟩
    refine hb rfl σ' _ H2 as' g2 C2 _ ?_
    refine ⟨fun Γ2 Ω2 σ2 F2 H2 as2 z e3 l2 c2 => ?_, fun d v H2 z e3 hv => ?_, fun Γ2 Ω2 σ2 F2 H2 as2 z e3 l2 c2 => ?_, fun Γ2 Ω2 σ2 F2 H2 as2 z e3 l2 c2 => ?_, fun cl fs Γ2 Ω2 d σ2 F2 H2 as2 z e3 l2 c2 x2 => ?_⟩
    · rcases z with ⟨Γ3, Ω3, m', z | z, w1, w2⟩ | ⟨_, z, _⟩ | ⟨_, _, z, _⟩ | ⟨_, _, _, _, z, _⟩ <;> cases z
      exact ⟨m', Γ2, Ω2, F2, as2, w1, w2, l2, c2, (g4.trans e5).trans e3⟩
    · rcases z with ⟨Γ3, Ω3, m', z | z, w⟩ | ⟨_, z, w⟩ | ⟨_, _, z, _⟩ | ⟨_, _, _, _, z, _⟩ <;> cases z
      exact T.rt d v H2 w ((g4.trans e5).trans e3) hv
    · rcases z with ⟨Γ3, Ω3, m', z | z, w⟩ | ⟨_, z, w⟩ | ⟨_, _, z, w⟩ | ⟨_, _, _, _, z, _⟩ <;> cases z
      exact w σ2 F2 H2 as2 l2 c2 E (T.mono ((g4.trans e5).trans e3))
    · rcases z with ⟨Γ3, Ω3, m', z | z, w1, w2⟩ | ⟨_, z, w⟩ | ⟨_, _, z, w⟩ | ⟨_, _, _, _, z, _⟩ <;> cases z
      exact ⟨m', Γ2, Ω2, F2, as2, w1, w2, l2, c2, (g4.trans e5).trans e3⟩
    · rcases z with ⟨Γ3, Ω3, m', z | z, w⟩ | ⟨_, z, w⟩ | ⟨_, _, z, w⟩ | ⟨_, _, _, _, z, w⟩ <;> cases z
      exact T.ex cl fs Γ2 Ω2 d σ2 F2 H2 as2 w ((g4.trans e5).trans e3) l2 c2 x2
/-! ### new lists -/
theorem fd_lst (ha : AD X es Γ ds) (hz : ds.length ≤ 1000000) : FD X (.List es pos) Γ ds := by
  obtain ⟨t, p, q⟩ := ha
  refine ⟨_, pe_lst p, fun σ H C Q k => q σ H C _ fun vs H1 e1 h1 => ⟨by rw [← h1.len, sizeLine_eq]; omega, fun p n => k p H1 vs e1 n h1⟩⟩
theorem denL_rep {K : PySem.W.Frag} {H : Hp} {x : V} (h : Den K H d x) : ∀ m : Nat, DenL K H (List.replicate m d) (List.replicate m [x]).flatten
  | 0 => DenL.nil
  | m + 1 => by
    rw [List.replicate_succ, List.replicate_succ, List.flatten_cons]
    exact DenL.cons h (denL_rep h m)
/-- [a] * b -/
theorem fd_rep {n : Int} {p2 : Pos} (ha : ED X a Γ d) (hb : ED X b Γ (iD n)) (h1 : -(2 ^ 63) ≤ n) (h2 : n < 1000000) (hse : starEach (a :: []) X.env = (false, eval a X.env) :: starEach [] X.env := by rfl) : FD X (.BinOp (.List [a] p2) .Mult b pos) Γ (List.replicate n.toNat d) := by
  obtain ⟨t, p, q⟩ := ha
  obtain ⟨tb, pb, qb⟩ := hb
  refine ⟨_, pe_op op_rep (pe_lst (pa_cons p pa_nil hse)) pb, fun σ H C Q k => q σ H C _ fun v H1 e1 hv => ⟨(by show 1 ≤ sizeLine; rw [sizeLine_eq]; omega), fun l n1 => ?_⟩⟩
  have up : Ex H1 (upd H1 l (.lst [v])) := ex_up (Ex.refl H1) n1
  refine qb σ _ (C.mono (e1.trans up)) _ fun y H2 e2 h2' => ?_
  rw [den_v.mp h2']
  refine ⟨l, n, [v], rfl, rfl, e2 _ _ upd_same, h1, by omega, ?_, fun p np => k p H2 _ ((e1.trans up).trans e2) np (denL_rep (hv.mono (up.trans e2)) _)⟩
  rw [sizeLine_eq]
  show 1 * n.toNat ≤ _
  omega
/-- list(e) -/
theorem fd_list {p : Pos} (hm : X.mg "list" = none) (ha : ED X a Γ (.lst ds)) (hg : Gl X "list" := by rfl) (he : starEach (a :: []) X.env = (false, eval a X.env) :: starEach [] X.env := by rfl) (hpl : (backTo pos (starEach [] X.env)).any (·.1) = false := by rfl) : FD X (.Call (.Name "list" p) [a] [] pos) Γ ds := by
  obtain ⟨t, pp, q⟩ := ha
  refine ⟨_, pe_callTy (T := "list") call_list_of hg hm (by decide +kernel) (pa_cons pp pa_nil he) (by decide) (by decide) he hpl, fun σ H C Q k => q σ H C _ fun v H1 e1 h1 => ?_⟩
  simp only [Den] at h1
  obtain ⟨a, ys, rfl, h2, h3⟩ := h1
  exact ⟨a, ys, rfl, .inl (SqL.of h2), fun l n => k l H1 ys e1 n h3⟩
end
end Trk

namespace Trk
open PySem L2 Evl
/-! ### comprehensions -/
def allE (X : Cx) (e : Expr) : TE := fun σ H Q => ∀ (pins : List (Addr × Obj)) (s : Shared), Inv X pins σ H s → wpAny (model X.prog X.w) X.A (eval e X.env) (EP X pins σ Q) X.xe s
def blkE (X : Cx) (scope : Scope) (e : Expr) : TE := fun σ H Q => ∀ (s : Shared) (H0 : Hp) (C : Addr) (cl : List (Str × Addr)) (fp : List Addr), allE (X.blk s H0 scope (compEnvC scope cl C X.env) fp) e σ H Q
def BlkE (X : Cx) (scope : Scope) (e : Expr) (Γ : Gm) (d : D) : Prop := ∀ (s : Shared) (H0 : Hp) (C : Addr) (cl : List (Str × Addr)) (fp : List Addr), ED (X.blk s H0 scope (compEnvC scope cl C X.env) fp) e Γ d
theorem wo_upd {H : Hp} {a : Addr} {o : HO} : wo (upd H a o) [a] = wo H [a] := by
  funext b
  by_cases h : b = a
  · subst h
    rw [wo_in (by simp), wo_in (by simp)]
  · rw [wo_out (by simpa using h), wo_out (by simpa using h), upd_ne h]
theorem wo_back {H : Hp} {a : Addr} {o : HO} (h : H a = some o) : upd (wo H [a]) a o = H := by
  funext b
  by_cases hb : b = a
  · subst hb
    rw [upd_same, h]
  · rw [upd_ne hb, wo_out (by simpa using hb)]
theorem wo_grow {H H' : Hp} {a : Addr} (e : Ex H H') : Ex (wo H [a]) (wo H' [a]) := fun b o h => by
  by_cases hb : b = a
  · subst hb
    rw [wo_in (by simp)] at h
    cases h
  · rw [wo_out (by simpa using hb)] at h ⊢
    exact e b o h
theorem denL_snoc {K : PySem.W.Frag} {H : Hp} {d : D} {v : V} (hv : Den K H d v) : ∀ {ds : List D} {ys : List V}, DenL K H ds ys → DenL K H (ds ++ [d]) (ys ++ [v])
  | [], ys, h => by
    simp only [DenL] at h
    subst h
    exact DenL.cons hv DenL.nil
  | d0 :: ds, ys, h => by
    simp only [DenL] at h
    obtain ⟨z, zs, rfl, hz, hzs⟩ := h
    exact DenL.cons hz (denL_snoc hv hzs)
section
variable {X : Cx} {Γ : Gm} {d : D} {ds : List D} {e elt : Expr} {pos : Pos} {scope : Scope} {i : Nat} {x : Str}
/-- one turn -/
theorem lc_step {f : D} {dj : D} {w : V} {D0 : Addr} {H H1 H' : Hp} {σ : L2.St} {ys : List V} {gs : List D} {Qn : Hp → Prop} (C : Ctx X.K H Γ σ) (e1 : Ex H H1) (hN : X.N[i]? = some x) (he : BlkE X scope elt (Γ.set i (some dj)) f) (hf : flat f = true) (hw : Den X.K H' dj w)
    (h2 : H' D0 = some (.lst ys)) (h3 : DenL X.K (wo H' [D0]) gs ys) (h4 : Ex H1 (wo H' [D0])) (hl : ys.length < 1000000)
    (k : ∀ ys2 H4, H4 D0 = some (.lst ys2) → DenL X.K (wo H4 [D0]) (gs ++ [f]) ys2 → Ex H1 (wo H4 [D0]) → Qn H4) :
    gName i w (wipe σ [i]) H' fun σ2 H2 => wipe σ2 [i] = wipe σ [i] ∧ tYes σ2 H2 fun b H3 => if b = true then blkE X scope elt σ2 H3 fun y H4 => ∃ acc, H4 D0 = some (.lst acc) ∧ acc.length < sizeLine ∧ Qn (upd H4 D0 (.lst (acc ++ [y]))) else Qn H3 := by
  refine ⟨?_, ?_⟩
  · show ((σ.set i none).set i (some w)).set i none = σ.set i none
    rw [List.set_set, List.set_set]
  · show blkE X scope elt _ H' _
    intro s H0 Ca cl fp pins s' I
    obtain ⟨t, p, q⟩ := he s H0 Ca cl fp
    have hi : i < (wipe σ [i]).length := by
      have := I.len
      have h0 : i < X.N.length := (List.getElem?_eq_some_iff.mp hN).1
      rw [List.length_set] at this
      rw [this]
      exact h0
    have cx : Ctx X.K H' (Γ.set i (some dj)) ((wipe σ [i]).set i (some w)) := by
      have c0 : Ctx X.K H' (Γ.set i none) (wipe σ [i]) := ((C.mono e1).mono (h4.trans wo_ex)).unset
      have c1 := c0.set hi hw
      rw [List.set_set] at c1
      exact c1
    refine p.run pins s' _ H' _ I (q _ H' cx _ fun v H4 e4 hv => ?_)
    have h2' := e4 _ _ h2
    refine ⟨ys, h2', by rw [sizeLine_eq]; omega, k (ys ++ [v]) _ upd_same ?_ ?_⟩
    · rw [wo_upd]
      exact denL_snoc (hv.wo (fun b hb => by
        rw [List.mem_singleton.mp hb]
        exact ⟨ys, h2'⟩) hf) (h3.mono (wo_grow e4))
    · rw [wo_upd]
      exact h4.trans (wo_grow e4)
/-- [elt for x in range(n)] -/
theorem fd_lcR (i : Nat) {x : Str} {n : Nat} {f : Nat → D} {p p1 p2 : Pos} (hc : X.calm = true) {N ps0 : List Str} {sc0 : Scope} (S0 : FnScope N ps0 sc0) (hm : X.mg "range" = none) (ha : ED X e Γ (iD (n : Int))) (hn : n < 1000000) (he : ∀ j, j < n → BlkE X scope elt (Γ.set i (some (iD (j : Int)))) (f j)) (hf : ∀ j, j < n → flat (f j) = true)
    (hNN : X.N = N := by rfl) (hSS : X.env.scope = sc0 := by rfl) (hx : N[i]? = some x := by rfl) (o1 : scope.kind = .function := by rfl) (o2 : ∀ y ∈ scope.names, scope.names.lookup y.1 = some y.2 := by decide +kernel) (o4 : ∀ y ∈ scope.names, y.2 = .free → sc0.names.lookup y.1 = some .cell ∨ sc0.names.lookup y.1 = some .free := by decide +kernel)
    (o5 : ∀ y ∈ scope.names, y.2 = .local ∨ y.2 = .cell → y.1 ∈ [x] ∨ y.1 ∉ N := by decide +kernel) (o6 : ∀ cl C, (compEnvC scope cl C X.env).scope.names.lookup x = some .local := by intro _ _; rfl)
    (hg : Gl X "range" := by rfl) (he2 : starEach [e] X.env = [(false, eval e X.env)] := by rfl) (hse : starEach (e :: []) X.env = (false, eval e X.env) :: starEach [] X.env := by rfl)
    (hs : ∀ x, foldedSetIterable (.Call (.Name "range" p1) [e] [] p2) X.env x = pure x := by intro _; rfl) : FD X (.ListComp elt [⟨.Name x p, .Call (.Name "range" p1) [e] [] p2, [], 0⟩] scope pos) Γ ((List.range n).map f) := by
  subst hNN
  subst hSS
  have hN := S0.nd
  have ok : BlkOk X.N X.env.scope scope [(x, i)] := ⟨o1, o2, fun q hq => by rw [List.mem_singleton.mp hq]; exact hx, o4, o5⟩
  have hgn : ∀ (s : Shared) (H : Hp) (C : Addr) (cl : List (Str × Addr)) (fp : List Addr), PG (X.blk s H scope (compEnvC scope cl C X.env) fp) (.Name x p) (gName i) := fun s H C cl fp => pg_name (X := X.blk s H scope (compEnvC scope cl C X.env) fp) hN hx (.inl (o6 cl C)) (.inr (o6 cl C))
  obtain ⟨ta, pa, qa⟩ := ha
  refine ⟨_, pe_lc hc hN (pi_range1 hg hm (pa_cons pa pa_nil hse) he2) ok hgn (fun _ _ _ _ _ => pts_nil) (te := blkE X scope elt) (fun s H0 C cl fp => ⟨fun pins s' σ H Q I h => h s H0 C cl fp pins s' I⟩) hs, fun σ H C Q k => qa σ H C _ fun v H1 e1 h1 => ?_⟩
  refine ⟨(n : Int), by rw [den_v.mp h1], by omega, by omega, fun D0 nD => ?_⟩
  rw [Int.toNat_natCast]
  refine lc_range (lo := 0) (n := n) (fun j H' => ∃ ys, H' D0 = some (.lst ys) ∧ DenL X.K (wo H' [D0]) ((List.range j).map f) ys ∧ Ex H1 (wo H' [D0])) ⟨[], upd_same, DenL.nil, fun b o hb => ?_⟩ ?_ ?_
  · rw [wo_upd, wo_out (by simpa using ne_of_none hb nD)]
    exact hb
  · rintro j H' hj ⟨ys, h2, h3, h4⟩
    have hlen : ys.length = j := by rw [← h3.len]; simp
    rw [Int.zero_add]
    refine lc_step C e1 hx (he j hj) (hf j hj) (den_v.mpr rfl) h2 h3 h4 (by omega) fun ys2 H4 g1 g2 g3 => ⟨ys2, g1, ?_, g3⟩
    rw [List.range_succ, List.map_append]
    exact g2
  · rintro H' ⟨ys, h2, h3, h4⟩
    have q := k D0 (wo H' [D0]) ys (e1.trans h4) (wo_in (by simp)) h3
    rw [wo_back h2] at q
    exact q
/-- [elt for x in a list] -/
theorem fd_lcL (i : Nat) {x : Str} {f : Nat → D} {p : Pos} (hc : X.calm = true) {N ps0 : List Str} {sc0 : Scope} (S0 : FnScope N ps0 sc0) (ha : ED X e Γ (.lst ds)) (hn : ds.length < 1000000) (he : ∀ j dj, ds[j]? = some dj → BlkE X scope elt (Γ.set i (some dj)) (f j)) (hf : ∀ j, j < ds.length → flat (f j) = true)
    (hNN : X.N = N := by rfl) (hSS : X.env.scope = sc0 := by rfl) (hx : N[i]? = some x := by rfl) (o1 : scope.kind = .function := by rfl) (o2 : ∀ y ∈ scope.names, scope.names.lookup y.1 = some y.2 := by decide +kernel) (o4 : ∀ y ∈ scope.names, y.2 = .free → sc0.names.lookup y.1 = some .cell ∨ sc0.names.lookup y.1 = some .free := by decide +kernel)
    (o5 : ∀ y ∈ scope.names, y.2 = .local ∨ y.2 = .cell → y.1 ∈ [x] ∨ y.1 ∉ N := by decide +kernel) (o6 : ∀ cl C, (compEnvC scope cl C X.env).scope.names.lookup x = some .local := by intro _ _; rfl)
    (hpi : ∀ {t : TE}, PE X e t → PI X (.Name x p) e (iList X.K t) := by intro _ h; exact pi_list h)
    (hs : ∀ x, foldedSetIterable e X.env x = pure x := by intro _; rfl) : FD X (.ListComp elt [⟨.Name x p, e, [], 0⟩] scope pos) Γ ((List.range ds.length).map f) := by
  subst hNN
  subst hSS
  have hN := S0.nd
  have ok : BlkOk X.N X.env.scope scope [(x, i)] := ⟨o1, o2, fun q hq => by rw [List.mem_singleton.mp hq]; exact hx, o4, o5⟩
  have hgn : ∀ (s : Shared) (H : Hp) (C : Addr) (cl : List (Str × Addr)) (fp : List Addr), PG (X.blk s H scope (compEnvC scope cl C X.env) fp) (.Name x p) (gName i) := fun s H C cl fp => pg_name (X := X.blk s H scope (compEnvC scope cl C X.env) fp) hN hx (.inl (o6 cl C)) (.inr (o6 cl C))
  obtain ⟨ta, pa, qa⟩ := ha
  refine ⟨_, pe_lc hc hN (hpi pa) ok hgn (fun _ _ _ _ _ => pts_nil) (te := blkE X scope elt) (fun s H0 C cl fp => ⟨fun pins s' σ H Q I h => h s H0 C cl fp pins s' I⟩) hs, fun σ H C Q k => qa σ H C _ fun v H1 e1 h1 => ?_⟩
  simp only [Den] at h1
  obtain ⟨a, xs, rfl, hq, hL⟩ := h1
  refine ⟨a, rfl, ⟨xs, SqL.of hq⟩, fun D0 nD => ?_⟩
  have hxl := hL.len
  refine lc_list (K := X.K) (a := a) (xs := xs) (fun j H' => ∃ ys, H' D0 = some (.lst ys) ∧ DenL X.K (wo H' [D0]) ((List.range j).map f) ys ∧ Ex H1 (wo H' [D0])) ⟨[], upd_same, DenL.nil, fun b o hb => ?_⟩ (fun j H' _ ⟨ys, _, _, h4⟩ => SqL.of ((h4.trans wo_ex) _ _ hq)) ?_ ?_
  · rw [wo_upd, wo_out (by simpa using ne_of_none hb nD)]
    exact hb
  · rintro j y H' hj ⟨ys, h2, h3, h4⟩
    have hlen : ys.length = j := by rw [← h3.len]; simp
    have hj2 : j < ds.length := by rw [hxl]; exact (List.getElem?_eq_some_iff.mp hj).1
    obtain ⟨y2, hy2, hd2⟩ := hL.get (i := j) (d := ds[j]) (List.getElem?_eq_getElem hj2)
    rw [hj] at hy2
    cases hy2
    refine lc_step C e1 hx (he j ds[j] (List.getElem?_eq_getElem hj2)) (hf j hj2) (hd2.mono (h4.trans wo_ex)) h2 h3 h4 (by omega) fun ys2 H4 g1 g2 g3 => ⟨ys2, g1, ?_, g3⟩
    rw [List.range_succ, List.map_append]
    exact g2
  · rintro H' ⟨ys, h2, h3, h4⟩
    rw [← hxl] at h3
    have q := k D0 (wo H' [D0]) ys (e1.trans h4) (wo_in (by simp)) h3
    rw [wo_back h2] at q
    exact q
/-- [elt for x in a tuple] -/
theorem fd_lcT (i : Nat) {x : Str} {f : Nat → D} {p : Pos} (hc : X.calm = true) {N ps0 : List Str} {sc0 : Scope} (S0 : FnScope N ps0 sc0) (ha : ED X e Γ (.tup ds)) (hn : ds.length < 1000000) (he : ∀ j dj, ds[j]? = some dj → BlkE X scope elt (Γ.set i (some dj)) (f j)) (hf : ∀ j, j < ds.length → flat (f j) = true)
    (hNN : X.N = N := by rfl) (hSS : X.env.scope = sc0 := by rfl) (hx : N[i]? = some x := by rfl) (o1 : scope.kind = .function := by rfl) (o2 : ∀ y ∈ scope.names, scope.names.lookup y.1 = some y.2 := by decide +kernel) (o4 : ∀ y ∈ scope.names, y.2 = .free → sc0.names.lookup y.1 = some .cell ∨ sc0.names.lookup y.1 = some .free := by decide +kernel)
    (o5 : ∀ y ∈ scope.names, y.2 = .local ∨ y.2 = .cell → y.1 ∈ [x] ∨ y.1 ∉ N := by decide +kernel) (o6 : ∀ cl C, (compEnvC scope cl C X.env).scope.names.lookup x = some .local := by intro _ _; rfl)
    (hpi : ∀ {t : TE}, PE X e t → PI X (.Name x p) e (iTup X.K t) := by intro _ h; exact pi_tup h)
    (hs : ∀ x, foldedSetIterable e X.env x = pure x := by intro _; rfl) : FD X (.ListComp elt [⟨.Name x p, e, [], 0⟩] scope pos) Γ ((List.range ds.length).map f) := by
  subst hNN
  subst hSS
  have hN := S0.nd
  have ok : BlkOk X.N X.env.scope scope [(x, i)] := ⟨o1, o2, fun q hq => by rw [List.mem_singleton.mp hq]; exact hx, o4, o5⟩
  have hgn : ∀ (s : Shared) (H : Hp) (C : Addr) (cl : List (Str × Addr)) (fp : List Addr), PG (X.blk s H scope (compEnvC scope cl C X.env) fp) (.Name x p) (gName i) := fun s H C cl fp => pg_name (X := X.blk s H scope (compEnvC scope cl C X.env) fp) hN hx (.inl (o6 cl C)) (.inr (o6 cl C))
  obtain ⟨ta, pa, qa⟩ := ha
  refine ⟨_, pe_lc hc hN (hpi pa) ok hgn (fun _ _ _ _ _ => pts_nil) (te := blkE X scope elt) (fun s H0 C cl fp => ⟨fun pins s' σ H Q I h => h s H0 C cl fp pins s' I⟩) hs, fun σ H C Q k => qa σ H C _ fun v H1 e1 h1 => ?_⟩
  simp only [Den] at h1
  obtain ⟨a, xs, rfl, hq, hL⟩ := h1
  refine ⟨a, rfl, ⟨xs, hq⟩, fun D0 nD => ?_⟩
  have hxl := hL.len
  refine lc_tup (K := X.K) (a := a) (xs := xs) (fun j H' => ∃ ys, H' D0 = some (.lst ys) ∧ DenL X.K (wo H' [D0]) ((List.range j).map f) ys ∧ Ex H1 (wo H' [D0])) ⟨[], upd_same, DenL.nil, fun b o hb => ?_⟩ (fun j H' _ ⟨ys, _, _, h4⟩ => ex_t (h4.trans wo_ex) hq) ?_ ?_
  · rw [wo_upd, wo_out (by simpa using ne_of_none hb nD)]
    exact hb
  · rintro j y H' hj ⟨ys, h2, h3, h4⟩
    have hlen : ys.length = j := by rw [← h3.len]; simp
    have hj2 : j < ds.length := by rw [hxl]; exact (List.getElem?_eq_some_iff.mp hj).1
    obtain ⟨y2, hy2, hd2⟩ := hL.get (i := j) (d := ds[j]) (List.getElem?_eq_getElem hj2)
    rw [hj] at hy2
    cases hy2
    refine lc_step C e1 hx (he j ds[j] (List.getElem?_eq_getElem hj2)) (hf j hj2) (hd2.mono (h4.trans wo_ex)) h2 h3 h4 (by omega) fun ys2 H4 g1 g2 g3 => ⟨ys2, g1, ?_, g3⟩
    rw [List.range_succ, List.map_append]
    exact g2
  · rintro H' ⟨ys, h2, h3, h4⟩
    rw [← hxl] at h3
    have q := k D0 (wo H' [D0]) ys (e1.trans h4) (wo_in (by simp)) h3
    rw [wo_back h2] at q
    exact q
/-- x = a list of its own: what the statement does -/
def FS (X : Cx) (i : Nat) (st : Stmt) (Γ : Gm) (ds : List D) : Prop := ∃ t, PS X st (tAsg t (gName i)) ∧ ∀ σ H, Ctx X.K H Γ σ → ∀ Q : VK, (∀ p H1 ys, Ex H H1 → H1 p = none → DenL X.K H1 ds ys → Q (.ref p) (upd H1 p (.lst ys))) → t σ H Q
theorem FD.fs (h : FD X e Γ ds) {x : Str} {pos' : Pos} (hd : X.N.Nodup) (hN : X.N[i]? = some x := by rfl) (hx : Loc X.env.scope x := by first | exact Or.inl rfl | exact Or.inr rfl)
    (hs : swapsWith e (some (.Name x pos')) pos.line X.env = pure false := by rfl) (hf2 : X.fn x = true ∨ X.env.scope.names.lookup x = some .local := by first | exact .inl rfl | exact .inr rfl) : FS X i (.Assign [.Name x pos'] e pos) Γ ds := by
  obtain ⟨t, p, q⟩ := h
  exact ⟨t, ps_set (i := i) hd hN hx p hs hf2, q⟩
theorem fs_lcR (i n0 : Nat) {x y0 : Str} {py spos : Pos} {n : Nat} {f : Nat → D} {p p1 p2 : Pos} (hc : X.calm = true) {N ps0 : List Str} {sc0 : Scope} (S0 : FnScope N ps0 sc0) (hm : X.mg "range" = none) (ha : ED X e Γ (iD (n : Int))) (hn : n < 1000000) (he : ∀ j, j < n → BlkE X scope elt (Γ.set i (some (iD (j : Int)))) (f j)) (hf : ∀ j, j < n → flat (f j) = true)
    (hNN : X.N = N := by rfl) (hSS : X.env.scope = sc0 := by rfl) (hx : N[i]? = some x := by rfl) (o1 : scope.kind = .function := by rfl) (o2 : ∀ y ∈ scope.names, scope.names.lookup y.1 = some y.2 := by decide +kernel) (o4 : ∀ y ∈ scope.names, y.2 = .free → sc0.names.lookup y.1 = some .cell ∨ sc0.names.lookup y.1 = some .free := by decide +kernel)
    (o5 : ∀ y ∈ scope.names, y.2 = .local ∨ y.2 = .cell → y.1 ∈ [x] ∨ y.1 ∉ N := by decide +kernel) (o6 : ∀ cl C, (compEnvC scope cl C X.env).scope.names.lookup x = some .local := by intro _ _; rfl)
    (hg : Gl X "range" := by rfl) (he2 : starEach [e] X.env = [(false, eval e X.env)] := by rfl) (hse : starEach (e :: []) X.env = (false, eval e X.env) :: starEach [] X.env := by rfl)
    (hs : ∀ x, foldedSetIterable (.Call (.Name "range" p1) [e] [] p2) X.env x = pure x := by intro _; rfl) 
    (hy0 : N[n0]? = some y0 := by rfl) (hyl : X.env.scope.names.lookup y0 = some .local := by rfl) (hsw : swapsWith (.ListComp elt [⟨.Name x p, .Call (.Name "range" p1) [e] [] p2, [], 0⟩] scope pos) (some (.Name y0 py)) spos.line X.env = pure true := by rfl) : FS X n0 (.Assign [.Name y0 py] (.ListComp elt [⟨.Name x p, .Call (.Name "range" p1) [e] [] p2, [], 0⟩] scope pos) spos) Γ ((List.range n).map f) := by
  subst hNN
  subst hSS
  have hN := S0.nd
  have ok : BlkOk X.N X.env.scope scope [(x, i)] := ⟨o1, o2, fun q hq => by rw [List.mem_singleton.mp hq]; exact hx, o4, o5⟩
  have hgn : ∀ (s : Shared) (H : Hp) (C : Addr) (cl : List (Str × Addr)) (fp : List Addr), PG (X.blk s H scope (compEnvC scope cl C X.env) fp) (.Name x p) (gName i) := fun s H C cl fp => pg_name (X := X.blk s H scope (compEnvC scope cl C X.env) fp) hN hx (.inl (o6 cl C)) (.inr (o6 cl C))
  obtain ⟨ta, pa, qa⟩ := ha
  refine ⟨_, ps_setLc hc hN hy0 hyl hsw (pi_range1 hg hm (pa_cons pa pa_nil hse) he2) ok hgn (fun _ _ _ _ _ => pts_nil) (te := blkE X scope elt) (fun s H0 C cl fp => ⟨fun pins s' σ H Q I h => h s H0 C cl fp pins s' I⟩) hs, fun σ H C Q k => qa σ H C _ fun v H1 e1 h1 => ?_⟩
  refine ⟨(n : Int), by rw [den_v.mp h1], by omega, by omega, fun D0 nD => ?_⟩
  rw [Int.toNat_natCast]
  refine lc_range (lo := 0) (n := n) (fun j H' => ∃ ys, H' D0 = some (.lst ys) ∧ DenL X.K (wo H' [D0]) ((List.range j).map f) ys ∧ Ex H1 (wo H' [D0])) ⟨[], upd_same, DenL.nil, fun b o hb => ?_⟩ ?_ ?_
  · rw [wo_upd, wo_out (by simpa using ne_of_none hb nD)]
    exact hb
  · rintro j H' hj ⟨ys, h2, h3, h4⟩
    have hlen : ys.length = j := by rw [← h3.len]; simp
    rw [Int.zero_add]
    refine lc_step C e1 hx (he j hj) (hf j hj) (den_v.mpr rfl) h2 h3 h4 (by omega) fun ys2 H4 g1 g2 g3 => ⟨ys2, g1, ?_, g3⟩
    rw [List.range_succ, List.map_append]
    exact g2
  · rintro H' ⟨ys, h2, h3, h4⟩
    have q := k D0 (wo H' [D0]) ys (e1.trans h4) (wo_in (by simp)) h3
    rw [wo_back h2] at q
    exact q
theorem fs_lcL (i n0 : Nat) {x y0 : Str} {py spos : Pos} {f : Nat → D} {p : Pos} (hc : X.calm = true) {N ps0 : List Str} {sc0 : Scope} (S0 : FnScope N ps0 sc0) (ha : ED X e Γ (.lst ds)) (hn : ds.length < 1000000) (he : ∀ j dj, ds[j]? = some dj → BlkE X scope elt (Γ.set i (some dj)) (f j)) (hf : ∀ j, j < ds.length → flat (f j) = true)
    (hNN : X.N = N := by rfl) (hSS : X.env.scope = sc0 := by rfl) (hx : N[i]? = some x := by rfl) (o1 : scope.kind = .function := by rfl) (o2 : ∀ y ∈ scope.names, scope.names.lookup y.1 = some y.2 := by decide +kernel) (o4 : ∀ y ∈ scope.names, y.2 = .free → sc0.names.lookup y.1 = some .cell ∨ sc0.names.lookup y.1 = some .free := by decide +kernel)
    (o5 : ∀ y ∈ scope.names, y.2 = .local ∨ y.2 = .cell → y.1 ∈ [x] ∨ y.1 ∉ N := by decide +kernel) (o6 : ∀ cl C, (compEnvC scope cl C X.env).scope.names.lookup x = some .local := by intro _ _; rfl)
    (hpi : ∀ {t : TE}, PE X e t → PI X (.Name x p) e (iList X.K t) := by intro _ h; exact pi_list h)
    (hs : ∀ x, foldedSetIterable e X.env x = pure x := by intro _; rfl) 
    (hy0 : N[n0]? = some y0 := by rfl) (hyl : X.env.scope.names.lookup y0 = some .local := by rfl) (hsw : swapsWith (.ListComp elt [⟨.Name x p, e, [], 0⟩] scope pos) (some (.Name y0 py)) spos.line X.env = pure true := by rfl) : FS X n0 (.Assign [.Name y0 py] (.ListComp elt [⟨.Name x p, e, [], 0⟩] scope pos) spos) Γ ((List.range ds.length).map f) := by
  subst hNN
  subst hSS
  have hN := S0.nd
  have ok : BlkOk X.N X.env.scope scope [(x, i)] := ⟨o1, o2, fun q hq => by rw [List.mem_singleton.mp hq]; exact hx, o4, o5⟩
  have hgn : ∀ (s : Shared) (H : Hp) (C : Addr) (cl : List (Str × Addr)) (fp : List Addr), PG (X.blk s H scope (compEnvC scope cl C X.env) fp) (.Name x p) (gName i) := fun s H C cl fp => pg_name (X := X.blk s H scope (compEnvC scope cl C X.env) fp) hN hx (.inl (o6 cl C)) (.inr (o6 cl C))
  obtain ⟨ta, pa, qa⟩ := ha
  refine ⟨_, ps_setLc hc hN hy0 hyl hsw (hpi pa) ok hgn (fun _ _ _ _ _ => pts_nil) (te := blkE X scope elt) (fun s H0 C cl fp => ⟨fun pins s' σ H Q I h => h s H0 C cl fp pins s' I⟩) hs, fun σ H C Q k => qa σ H C _ fun v H1 e1 h1 => ?_⟩
  simp only [Den] at h1
  obtain ⟨a, xs, rfl, hq, hL⟩ := h1
  refine ⟨a, rfl, ⟨xs, SqL.of hq⟩, fun D0 nD => ?_⟩
  have hxl := hL.len
  refine lc_list (K := X.K) (a := a) (xs := xs) (fun j H' => ∃ ys, H' D0 = some (.lst ys) ∧ DenL X.K (wo H' [D0]) ((List.range j).map f) ys ∧ Ex H1 (wo H' [D0])) ⟨[], upd_same, DenL.nil, fun b o hb => ?_⟩ (fun j H' _ ⟨ys, _, _, h4⟩ => SqL.of ((h4.trans wo_ex) _ _ hq)) ?_ ?_
  · rw [wo_upd, wo_out (by simpa using ne_of_none hb nD)]
    exact hb
  · rintro j y H' hj ⟨ys, h2, h3, h4⟩
    have hlen : ys.length = j := by rw [← h3.len]; simp
    have hj2 : j < ds.length := by rw [hxl]; exact (List.getElem?_eq_some_iff.mp hj).1
    obtain ⟨y2, hy2, hd2⟩ := hL.get (i := j) (d := ds[j]) (List.getElem?_eq_getElem hj2)
    rw [hj] at hy2
    cases hy2
    refine lc_step C e1 hx (he j ds[j] (List.getElem?_eq_getElem hj2)) (hf j hj2) (hd2.mono (h4.trans wo_ex)) h2 h3 h4 (by omega) fun ys2 H4 g1 g2 g3 => ⟨ys2, g1, ?_, g3⟩
    rw [List.range_succ, List.map_append]
    exact g2
  · rintro H' ⟨ys, h2, h3, h4⟩
    rw [← hxl] at h3
    have q := k D0 (wo H' [D0]) ys (e1.trans h4) (wo_in (by simp)) h3
    rw [wo_back h2] at q
    exact q
theorem fs_lcT (i n0 : Nat) {x y0 : Str} {py spos : Pos} {f : Nat → D} {p : Pos} (hc : X.calm = true) {N ps0 : List Str} {sc0 : Scope} (S0 : FnScope N ps0 sc0) (ha : ED X e Γ (.tup ds)) (hn : ds.length < 1000000) (he : ∀ j dj, ds[j]? = some dj → BlkE X scope elt (Γ.set i (some dj)) (f j)) (hf : ∀ j, j < ds.length → flat (f j) = true)
    (hNN : X.N = N := by rfl) (hSS : X.env.scope = sc0 := by rfl) (hx : N[i]? = some x := by rfl) (o1 : scope.kind = .function := by rfl) (o2 : ∀ y ∈ scope.names, scope.names.lookup y.1 = some y.2 := by decide +kernel) (o4 : ∀ y ∈ scope.names, y.2 = .free → sc0.names.lookup y.1 = some .cell ∨ sc0.names.lookup y.1 = some .free := by decide +kernel)
    (o5 : ∀ y ∈ scope.names, y.2 = .local ∨ y.2 = .cell → y.1 ∈ [x] ∨ y.1 ∉ N := by decide +kernel) (o6 : ∀ cl C, (compEnvC scope cl C X.env).scope.names.lookup x = some .local := by intro _ _; rfl)
    (hpi : ∀ {t : TE}, PE X e t → PI X (.Name x p) e (iTup X.K t) := by intro _ h; exact pi_tup h)
    (hs : ∀ x, foldedSetIterable e X.env x = pure x := by intro _; rfl) 
    (hy0 : N[n0]? = some y0 := by rfl) (hyl : X.env.scope.names.lookup y0 = some .local := by rfl) (hsw : swapsWith (.ListComp elt [⟨.Name x p, e, [], 0⟩] scope pos) (some (.Name y0 py)) spos.line X.env = pure true := by rfl) : FS X n0 (.Assign [.Name y0 py] (.ListComp elt [⟨.Name x p, e, [], 0⟩] scope pos) spos) Γ ((List.range ds.length).map f) := by
  subst hNN
  subst hSS
  have hN := S0.nd
  have ok : BlkOk X.N X.env.scope scope [(x, i)] := ⟨o1, o2, fun q hq => by rw [List.mem_singleton.mp hq]; exact hx, o4, o5⟩
  have hgn : ∀ (s : Shared) (H : Hp) (C : Addr) (cl : List (Str × Addr)) (fp : List Addr), PG (X.blk s H scope (compEnvC scope cl C X.env) fp) (.Name x p) (gName i) := fun s H C cl fp => pg_name (X := X.blk s H scope (compEnvC scope cl C X.env) fp) hN hx (.inl (o6 cl C)) (.inr (o6 cl C))
  obtain ⟨ta, pa, qa⟩ := ha
  refine ⟨_, ps_setLc hc hN hy0 hyl hsw (hpi pa) ok hgn (fun _ _ _ _ _ => pts_nil) (te := blkE X scope elt) (fun s H0 C cl fp => ⟨fun pins s' σ H Q I h => h s H0 C cl fp pins s' I⟩) hs, fun σ H C Q k => qa σ H C _ fun v H1 e1 h1 => ?_⟩
  simp only [Den] at h1
  obtain ⟨a, xs, rfl, hq, hL⟩ := h1
  refine ⟨a, rfl, ⟨xs, hq⟩, fun D0 nD => ?_⟩
  have hxl := hL.len
  refine lc_tup (K := X.K) (a := a) (xs := xs) (fun j H' => ∃ ys, H' D0 = some (.lst ys) ∧ DenL X.K (wo H' [D0]) ((List.range j).map f) ys ∧ Ex H1 (wo H' [D0])) ⟨[], upd_same, DenL.nil, fun b o hb => ?_⟩ (fun j H' _ ⟨ys, _, _, h4⟩ => ex_t (h4.trans wo_ex) hq) ?_ ?_
  · rw [wo_upd, wo_out (by simpa using ne_of_none hb nD)]
    exact hb
  · rintro j y H' hj ⟨ys, h2, h3, h4⟩
    have hlen : ys.length = j := by rw [← h3.len]; simp
    have hj2 : j < ds.length := by rw [hxl]; exact (List.getElem?_eq_some_iff.mp hj).1
    obtain ⟨y2, hy2, hd2⟩ := hL.get (i := j) (d := ds[j]) (List.getElem?_eq_getElem hj2)
    rw [hj] at hy2
    cases hy2
    refine lc_step C e1 hx (he j ds[j] (List.getElem?_eq_getElem hj2)) (hf j hj2) (hd2.mono (h4.trans wo_ex)) h2 h3 h4 (by omega) fun ys2 H4 g1 g2 g3 => ⟨ys2, g1, ?_, g3⟩
    rw [List.range_succ, List.map_append]
    exact g2
  · rintro H' ⟨ys, h2, h3, h4⟩
    rw [← hxl] at h3
    have q := k D0 (wo H' [D0]) ys (e1.trans h4) (wo_in (by simp)) h3
    rw [wo_back h2] at q
    exact q
end
end Trk

namespace Trk
open PySem L2 Evl
/-! ### len(o), o[n], o.f, o(x) by own methods -/
section
open PySem.Calls PyProof.Rows
/-- a plain object as the callee: only that it still stands is asked when the arguments are there -/
theorem callW {M : Model} {A : Around} {E : Value → Shared → Prop} {s : Shared} {p : Pos} {x : Addr} {hd : List Value} {Q : Value → Shared → Prop} {ar : List (Bool × Sem Value)} {kw : List (Option Str × Sem Value)} (np : (ar.any (·.1) || kw.any (·.1.isNone)) = false)
    (run : wpAny M A (evalArgs (.ref x) true ar kw) (fun g s1 => (∃ o, s1.heap.get? x = some o ∧ o.data = .plain) ∧ wpAny M A (call (.ref x) (hd ++ g.pos) g.kw) Q E s1) E s) : wpAny M A (callWith p (.ref x) hd ar kw) Q E s := by
  unfold callWith
  refine wpAny_bind (wpAny_holding (wpAny_mono run (fun g s1 got => ?_) fun _ _ z => z))
  obtain ⟨⟨o, ho, pd⟩, go⟩ := got
  have keeper : PySem.W.Looks M s1.heap (keeperOf (.ref x)) .caller := by
    refine (PySem.W.Looks.ld (part := none) ho).andThen ?_
    simp only [pd]
    exact .now
  refine wpAny_bind (wpAny_standAt ?_)
  simp only [np]
  refine wpAny_bind (keeper.here ?_)
  refine wpAny_bind (wpAny_mono (wpAny_operateT go) (fun r s2 fin => ?_) fun _ _ z => z)
  exact wpAny_bind (wpAny_holding (wpAny_point (wpAny_pure fin)))
end
section
variable {X : Cx} {Γ : Gm} {d d1 d2 : D} {ds : List D} {a b c e : Expr} {es : List Expr} {pos : Pos} {C f : Addr} {fs : List (Str × D)} {CX : CXT} {k : Nat} {fd : FuncData} {ps : List Str} {E : XK} {R : List D → D → Prop} {sts body : List Stmt} {Φ : Out → Prop}
theorem den_obj {K : PySem.W.Frag} {H : Hp} {v : V} (h : Den K H (.obj C fs) v) : ∃ a dx gs, v = .ref a ∧ H a = some (.ins C dx gs) ∧ DenF K H fs gs := by
  simp only [Den] at h
  exact h
theorem ed_lenO {n : Int} {p : Pos} (M : CmpM X.K C "__len__" f) (F : FnOk X.prog X.w X.K X.mg X.base CX k f fd ps (spD X.K 1 R)) (hr : Room (k + 1) X.A) (hb : Binds X.K fd ps []) (hx : Passes CX X E) (hm : X.mg "len" = none) (ha : ED X a Γ (.obj C fs)) (hR : R [.obj C fs] (iD n)) (h0 : 0 ≤ n) (h1 : n < 2 ^ 63)
    (hg : Gl X "len" := by rfl) (he : starEach (a :: []) X.env = (false, eval a X.env) :: starEach [] X.env := by rfl) (hpl : (backTo pos (starEach [] X.env)).any (·.1) = false := by rfl) : ED X (.Call (.Name "len" p) [a] [] pos) Γ (iD n) := by
  have hcall : CallR X (.builtin "len") (fun xs H Q => ∃ a dx gs, xs = [.ref a] ∧ H a = some (.ins C dx gs) ∧ spD X.K 1 R xs H (fun v H' => v = .int n ∧ Q v H') E) := by
    intro pins s σ H xs us Q I r h
    obtain ⟨a, dx, gs, rfl, ha, hsp⟩ := h
    obtain ⟨w1, rfl, rx⟩ := vals1 r
    cases rx
    obtain ⟨mA, J, _⟩ := ins_get I.hok ha
    obtain ⟨od, J, _⟩ := J.look
    obtain ⟨m, hF⟩ := I.fr
    refine PySem.W.len_K hF I.ok.mod.kin J M.find M.fn (thn (run_in F hr.in1 I.env0.in1 hb hx I (vals_r a) hsp) fun z s' hz => ?_)
    obtain ⟨v, H', I', rv, ev, q⟩ := hz
    subst ev
    obtain ⟨t, rfl⟩ := rv
    exact ⟨⟨h0, h1⟩, V.int n, H', I'.tok _, ⟨_, rfl⟩, q⟩
  refine ed_callB (d := iD n) hcall hm PySem.boot_len (ad_cons ha ad_nil he) (fun xs H hxs Q q => ?_) hg (by decide) (by decide) he hpl
  have hx' := hxs
  obtain ⟨x, rfl, hx1⟩ := denL_one hxs
  obtain ⟨a, dx, gs, rfl, h, _⟩ := den_obj hx1
  exact ⟨a, dx, gs, rfl, h, _, _, rfl, hx', hR, fun v H' e hv => ⟨den_v.mp hv, q v H' e hv⟩⟩
theorem ed_subO {n : Int} (M : CmpM X.K C "__getitem__" f) (hfn : PySem.W.fnIn X.K f = true) (F : FnOk X.prog X.w X.K X.mg X.base CX k f fd ps (spD X.K 2 R)) (hr : Room (k + 1) X.A) (hb : Binds X.K fd ps []) (hx : Passes CX X E) (ha : ED X a Γ (.obj C fs)) (hB : ED X b Γ (iD n)) (hR : R [.obj C fs, iD n] d)
    (hsl : ∀ x i, subscripted b true (.ref x) i = runValue (.builtin "lifetime.subscript" ⟨[.ref x, i], []⟩) := by intro _ _; with_unfolding_all rfl) (hs : PlainIx b := by exact fun _ _ => rfl) : ED X (.Subscript a b pos) Γ d := by
  obtain ⟨ta, pa, qa⟩ := ha
  obtain ⟨tb, pb, qb⟩ := hB
  refine ⟨tOp (fun x y H2 Q => ∃ a dx gs, x = .ref a ∧ y = .int n ∧ H2 a = some (.ins C dx gs) ∧ spD X.K 2 R [x, y] H2 Q E) ta tb, ⟨fun pins s σ H Q I h => ?_⟩, fun σ H Cc Q q => qa σ H Cc _ fun x H1 e1 h1 => qb σ H1 (Cc.mono e1) _ fun y H2 e2 h2 => ?_⟩
  · refine PyProof.Rows.Subscript_ (binT pa pb I h fun v u s2 x y H2 I2 rx ry g => ?_)
    obtain ⟨a, dx, gs, rfl, rfl, ha2, hsp⟩ := g
    obtain rfl : v = Value.ref a := rx
    obtain ⟨t, rfl⟩ := ry
    obtain ⟨mA, J, _⟩ := ins_get I2.hok ha2
    obtain ⟨od, J, _⟩ := J.look
    obtain ⟨m, hF⟩ := I2.fr
    exact PySem.W.sub_K hF I2.ok.mod.kin J M.find hfn M.fn (run_in F hr.in1 I2.env0.in1 hb hx I2 (vals_ri a n t) hsp) (hsl _ _)
  · have h1' := h1.mono e2
    obtain ⟨a, dx, gs, rfl, g, _⟩ := den_obj h1'
    exact ⟨a, dx, gs, rfl, den_v.mp h2, g, _, d, rfl, DenL.cons h1' (DenL.cons h2 DenL.nil), hR, fun v H' e3 h3 => q v H' ((e1.trans e2).trans e3) h3⟩
/-- o.f, a property -/
theorem ed_propO {pn : Str} {pp : Addr} {p : Pos} (c : Cls X.K C) (hp : PropOf X.K C pn pp f) (F : FnOk X.prog X.w X.K X.mg X.base CX k f fd ps (spD X.K 1 R)) (hr : Room (k + 1) X.A) (hb : Binds X.K fd ps []) (hx : Passes CX X.nox E) (ha : ED X a Γ (.obj C fs)) (hR : R [.obj C fs] d)
    (hab : attributeBase a pn X.env (eval a X.env) = eval a X.env := by rfl) : ED X (.Attribute a pn p) Γ d := by
  obtain ⟨t, pp2, q⟩ := ha
  refine ⟨_, pe_prop pp2 c hp F hr hb .nil hx hab, fun σ H Cc Q k => q σ H Cc _ fun x H1 e1 h1 => ?_⟩
  obtain ⟨a, dx, gs, rfl, g, _⟩ := den_obj h1
  exact ⟨a, dx, gs, rfl, g, _, d, rfl, DenL.cons h1 DenL.nil, hR, fun v H' e2 h2 => k v H' (e1.trans e2) h2⟩
/-- o(x), o a local name -/
theorem ed_callO (i : Nat) {x : Str} {p : Pos} (M : CmpM X.K C "__call__" f) (hfn : PySem.W.fnIn X.K f = true) (F : FnOk X.prog X.w X.K X.mg X.base CX k f fd ps (spD X.K 2 R)) (hr : Room k X.A) (hb : Binds X.K fd ps []) (hx : Passes CX X E) (ho : Γ[i]? = some (some (.obj C fs))) (ha : ED X e Γ d1) (hR : R [.obj C fs, d1] d)
    (hN : X.N[i]? = some x := by rfl) (hv : Vis X.env.scope x := by first | exact Or.inl rfl | exact Or.inr (Or.inl rfl) | exact Or.inr (Or.inr rfl)) (hd : (x == ("__debug__" : Str)) = false := by decide) (hcd : (x == ("__classdict__" : Str)) = false := by decide)
    (he : starEach (e :: []) X.env = (false, eval e X.env) :: starEach [] X.env := by rfl) (hpl : (backTo pos (starEach [] X.env)).any (·.1) = false := by rfl) : ED X (.Call (.Name x p) [e] [] pos) Γ d := by
  obtain ⟨t, pa, q⟩ := ha
  have po : PE X (.Name x p) (tVar i) := pe_var hN hv hd hcd
  refine ⟨fun σ H Q => ∃ a dx gs, σ[i]? = some (some (.ref a)) ∧ H a = some (.ins C dx gs) ∧ tCons t tNil σ H fun vs H1 => ∃ y, vs = [y] ∧ H1 a = some (.ins C dx gs) ∧ spD X.K 2 R [.ref a, y] H1 Q E, ⟨fun pins s σ H Q I h => ?_⟩, fun σ H Cc Q k => ?_⟩
  · obtain ⟨a, dx, gs, hs, ha0, h⟩ := h
    refine wpAny_Call_Name_kw (thn (po.run pins s σ H (fun v H' => v = .ref a ∧ H' = H) I ⟨.ref a, hs, rfl, rfl⟩) fun u s1 g => ?_)
    obtain ⟨v, H0, I0, rv, ev, eH⟩ := g
    subst ev eH
    obtain rfl : u = Value.ref a := rv
    obtain ⟨mA, J, _⟩ := ins_get I0.hok ha0
    obtain ⟨od, J, _⟩ := J.look
    have pl : PA X [e] (tCons t tNil) := pa_cons pa pa_nil he
    have run1 := pl.run pos pins s1 σ H0 _ I0 h
    rw [he] at run1 ⊢
    refine callW (by show ((false || (backTo pos (starEach [] X.env)).any (·.1)) || false) = false; rw [hpl]; rfl) (PySem.Calls.evalArgs_plain (thn run1 fun us s2 g => ?_))
    obtain ⟨vs, H1, I1, r, y, rfl, hq, hsp⟩ := g
    obtain ⟨w1, rfl, ry⟩ := vals1 r
    obtain ⟨mA2, J2, _⟩ := ins_get I1.hok hq
    obtain ⟨od2, J2, _⟩ := J2.look
    refine ⟨⟨_, J2.at_, rfl⟩, ?_⟩
    · have rel : Vals [V.ref a, y] [Value.ref a, w1] := .cons (show RelV (V.ref a) (Value.ref a) from rfl) (.cons ry .nil)
      have len : ([Value.ref a, w1] ++ []).length = ps.length := by
        rw [List.append_nil, ← rel.length]
        exact F.len _ _ _ _ hsp
      have bound := hb s2 [Value.ref a, w1] I1.kIn len
      rw [List.append_nil] at bound
      refine wpAny_call (PySem.W.kco_code I1.kIn J2 rfl M.find M.fn hfn (codeAny_mono (F.run X.A X.stack s2 H1 ⟨[Value.ref a, w1], []⟩ _ _ Q E hr I1.env0 bound rel hsp) fun res s' out => ?_))
      rcases res with err | fl
      · exact hx pins σ H1 s2 err s' I1 out
      · cases fl with
        | ret u => exact I1.after out
        | next => exact out.elim
        | brk => exact out.elim
        | cont => exact out.elim
  · obtain ⟨v, h1, h2⟩ := Cc i _ ho
    obtain ⟨a, dx, gs, rfl, g, _⟩ := den_obj h2
    refine ⟨a, dx, gs, h1, g, q σ H Cc _ fun y H1 e1 hy => ⟨y, rfl, e1 _ _ g, _, d, rfl, DenL.cons (h2.mono e1) (DenL.cons hy DenL.nil), hR, fun w H' e2 hw => k w H' (e1.trans e2) hw⟩⟩
/-- o.m(e) -/
theorem ed_meth {pl : Sem Bool} {o : Expr} {m : Str} {apos : Pos} (ho : ED X o Γ (.obj C fs)) (hl : ∀ {H gs}, DenF X.K H fs gs → gs.lookup m = none) (c : Cls X.K C) (hm : Meth X.K C m f) (F : FnOk X.prog X.w X.K X.mg X.base CX k f fd ps (spD X.K 2 R)) (hr : Room k X.A) (hb : Binds X.K fd ps []) (hx : Passes CX X E)
    (ha : ED X e Γ d1) (hR : R [.obj C fs, d1] d) (hst : starEach (e :: []) X.env = (false, eval e X.env) :: starEach [] X.env := by rfl) (hpl : (backTo pos (starEach [] X.env)).any (·.1) = false := by rfl)
    (ht : eval (.Call (.Attribute o m apos) [e] [] pos) X.env = (do
      let ov ← eval o X.env
      standAt apos.atName
      let (f, first) ← holding [ov] (getMethod ov m pl)
      callWith pos f first (backTo pos (starEach [e] X.env)) (backToKw pos (keywordEach [] X.env))) := by rfl) : ED X (.Call (.Attribute o m apos) [e] [] pos) Γ d := by
  obtain ⟨to, po, qo⟩ := ho
  obtain ⟨t, p, q⟩ := ha
  refine ⟨_, pe_meth po c hm F hr hb .nil hx (pa_cons p pa_nil hst) hst hpl ht, fun σ H Cc Q r => qo σ H Cc _ fun x H1 e1 h1 => ?_⟩
  obtain ⟨a, dx, gs, rfl, g, hF⟩ := den_obj h1
  refine ⟨a, dx, gs, rfl, g, hl hF, q σ H1 (Cc.mono e1) _ fun y H2 e2 h2 => ⟨_, d, rfl, DenL.cons (h1.mono e2) (DenL.cons h2 DenL.nil), hR, fun v H' e3 h3 => r v H' ((e1.trans e2).trans e3) h3⟩⟩
end
end Trk

namespace Trk
open PySem L2 Evl
section
variable {X : Cx} {Γ : Gm} {Ω : Om} {d d1 d2 : D} {ds : List D} {a b c e : Expr} {es : List Expr} {pos : Pos} {C f : Addr} {fs : List (Str × D)} {CX : CXT} {k : Nat} {fd : FuncData} {ps : List Str} {E : XK} {R : List D → D → Prop} {st : Stmt} {sts body l1 l2 : List Stmt} {Φ Ψ : Out → Prop}
/-! ### truth of a list, of an object with own __bool__ -/
theorem td_lst (ha : ED X a Γ (.lst ds)) (he : ∀ whole, isTrue a X.env whole = (do let v ← whole; standAt a.pos; holding [v] (truthy v)) := by intro _; rfl) : TD X a Γ (!ds.isEmpty) := by
  obtain ⟨t, p, q⟩ := ha
  refine ⟨_, pt_truth p he, fun σ H Cc Q r => q σ H Cc _ fun v H1 e1 h1 => ?_⟩
  simp only [Den] at h1
  obtain ⟨a, ys, rfl, h2, h3⟩ := h1
  refine ⟨_, .inl ⟨ys, SqL.of h2, ?_⟩, r H1 e1⟩
  cases ds with
  | nil =>
    simp only [DenL] at h3
    subst h3
    rfl
  | cons d0 ds =>
    simp only [DenL] at h3
    obtain ⟨z, zs, rfl, _⟩ := h3
    rfl
theorem td_lstT (ha : ED X a Γ (.lst ds)) (hne : ds ≠ []) (he : ∀ whole, isTrue a X.env whole = (do let v ← whole; standAt a.pos; holding [v] (truthy v)) := by intro _; rfl) : TD X a Γ true := by
  have h := td_lst ha he
  rw [show (!ds.isEmpty) = true by cases ds with
    | nil => exact absurd rfl hne
    | cons _ _ => rfl] at h
  exact h
theorem td_boolN {p : Rat} {u : Rat → Bool} (M : CmpM X.K C "__bool__" f) (F : FnOk X.prog X.w X.K X.mg X.base CX k f fd ps (spD X.K 1 (R_un C fun q => bD (u q)))) (hr : Room k X.A) (hb : Binds X.K fd ps []) (hx : Passes CX X E) (ha : ED X a Γ (fr C p)) (hp : Sz 4000 p)
    (he : ∀ whole, isTrue a X.env whole = (do let v ← whole; standAt a.pos; holding [v] (truthy v)) := by intro _; rfl) : TD X a Γ (u p) := by
  obtain ⟨t, pp, q⟩ := ha
  have tr : TruR X (fun x H Q => ∃ a dx fs, x = .ref a ∧ H a = some (.ins C dx fs) ∧ spD X.K 1 (R_un C fun q => bD (u q)) [x] H (fun v H' => v = .bl (u p) ∧ Q (u p) H') E) := by
    intro pins s σ H x v Q I rx h
    obtain ⟨a, dx, fs, rfl, ha, hsp⟩ := h
    obtain rfl : v = Value.ref a := rx
    obtain ⟨mA, J, _⟩ := ins_get I.hok ha
    obtain ⟨od, J, _⟩ := J.look
    obtain ⟨m, hF⟩ := I.fr
    refine PySem.W.truthy_K hF I.ok.mod.kin J M.find M.fn (thn (run_in F hr I.env0 hb hx I (vals_r a) hsp) fun z s' hz => ?_)
    obtain ⟨v, H', I', rv, ev, q⟩ := hz
    subst ev
    cases rv
    exact ⟨H', I', q⟩
  refine ⟨_, pt_truthR pp tr he, fun σ H Cc Q r => q σ H Cc _ fun v H1 e1 h1 => ?_⟩
  have h1' := h1
  obtain ⟨a, dx, rfl, h⟩ := den_fr.mp h1
  exact ⟨a, dx, _, rfl, h, _, _, rfl, DenL.cons h1' DenL.nil, ⟨p, rfl, hp, rfl⟩, fun v H' e hv => ⟨den_v.mp hv, r H' (e1.trans e)⟩⟩
/-! ### lists cut and turned round -/
theorem denL_rev {K : PySem.W.Frag} {H : Hp} : ∀ {ds : List D} {ys : List V}, DenL K H ds ys → DenL K H ds.reverse ys.reverse
  | [], ys, h => by
    simp only [DenL] at h
    subst h
    exact DenL.nil
  | d0 :: ds, ys, h => by
    simp only [DenL] at h
    obtain ⟨z, zs, rfl, hz, hzs⟩ := h
    rw [List.reverse_cons, List.reverse_cons]
    exact denL_snoc hz (denL_rev hzs)
theorem fd_rev {j : Nat} {p1 p2 p3 : Pos} (ha : ED X a Γ (.lst ds)) (hpe : ∀ {t : TE}, PE X a t → PE X (.Subscript a (.Slice none none (some (.UnaryOp .USub (.Constant (.int 1) j p1) p2)) p3) pos) (tRevL X.K t) := by intro _ h; exact pe_revL h) :
    FD X (.Subscript a (.Slice none none (some (.UnaryOp .USub (.Constant (.int 1) j p1) p2)) p3) pos) Γ ds.reverse := by
  obtain ⟨t, p, q⟩ := ha
  refine ⟨_, hpe p, fun σ H Cc Q r => q σ H Cc _ fun v H1 e1 h1 => ?_⟩
  simp only [Den] at h1
  obtain ⟨a, ys, rfl, h2, h3⟩ := h1
  exact ⟨a, ys, rfl, SqL.of h2, fun l n => r l H1 _ e1 n (denL_rev h3)⟩
/-! ### for x in a list -/
theorem z_forL (i : Nat) {x : Str} {p3 : Pos} (J : Nat → Gm → Prop) (hc : X.calm = true) (ha : ED X e Γ (.lst ds)) (hd : X.N.Nodup) (h0 : J 0 Γ)
    (hs : ∀ j dj Γ', ds[j]? = some dj → J j Γ' → SsD X body (Γ'.set i (some dj)) (fun o => (∃ Γ'', (o = .nx Γ'' ∨ o = .ct Γ'') ∧ J (j + 1) Γ'') ∨ (∃ d, o = .rt d ∧ Φ (.rt d)) ∨ (∃ Γ'', o = .bk Γ'' ∧ SsD X sts Γ'' Φ) ∨ ∃ c fs Γ'', o = .ex c fs Γ'' ∧ Φ (.ex c fs Γ'')))
    (k : ∀ Γ', J ds.length Γ' → SsD X sts Γ' Φ) (hp : PassesOwn (model X.prog X.w) X.A X.env X.xe := by exact PassesOwn.never) (hN : X.N[i]? = some x := by rfl) (hx : Loc X.env.scope x := by first | exact Or.inl rfl | exact Or.inr rfl)
    (hpi : ∀ {t : TE}, PE X e t → PI X (.Name x p3) e (iList X.K t) := by intro _ h; exact pi_list h)
    (hf : X.fn x = true ∨ X.env.scope.names.lookup x = some .local := by first | exact .inl rfl | exact .inr rfl)
    (hfs : ∀ x, foldedSetIterable e X.env x = pure x := by intro _; rfl) : SsD X (.For (.Name x p3) e body [] pos :: sts) Γ Φ := by
  obtain ⟨ta, pa, qa⟩ := ha
  refine ⟨_, pss_cons (ps_for hp hc (hpi pa) (pg_name (i := i) hd hN hx hf) (pss_all (st' := body)) hfs) (pss_all (st' := sts)), fun σ H hl C E T => ?_⟩
  refine qa σ H C _ fun v H1 e1 h1 => ?_
  simp only [Den] at h1
  obtain ⟨a, xs, rfl, hq, hL⟩ := h1
  refine ⟨a, rfl, ⟨xs, SqL.of hq⟩, ?_⟩
  have hi : i < X.N.length := (List.getElem?_eq_some_iff.mp hN).1
  have hxl := hL.len
  refine for_list (K := X.K) (a := a) (xs := xs) (fun j σ' H' => ∃ Γ', J j Γ' ∧ σ'.length = X.N.length ∧ Ctx X.K H' Γ' σ' ∧ Ex H1 H') ⟨Γ, h0, hl, C.mono e1, Ex.refl H1⟩ (fun j σ' H' _ ⟨Γ', _, _, _, g4⟩ => SqL.of (g4 _ _ hq)) ?_ ?_
  · rintro j y σ' H' hj ⟨Γ', g1, g2, g3, g4⟩
    have hj2 : j < ds.length := by rw [hxl]; exact (List.getElem?_eq_some_iff.mp hj).1
    obtain ⟨y2, hy2, hd2⟩ := hL.get (i := j) (d := ds[j]) (List.getElem?_eq_getElem hj2)
    rw [hj] at hy2
    cases hy2
    show allS X body _ (σ'.set i (some y)) H'
    refine (hs j ds[j] Γ' (List.getElem?_eq_getElem hj2) g1).all (by rw [List.length_set]; exact g2) (g3.set (by rw [g2]; exact hi) (hd2.mono g4)) ?_
    refine ⟨fun Γ'' σ2 H2 z e2 l2 c2 => ?_, fun d v H2 z e2 hv => ?_, fun Γ'' σ2 H2 z e2 l2 c2 => ?_, fun Γ'' σ2 H2 z e2 l2 c2 => ?_, fun cl fs Γ'' d σ2 H2 z e2 l2 c2 x2 => ?_⟩
    · rcases z with ⟨Γ3, z | z, w⟩ | ⟨_, z, _⟩ | ⟨_, z, _⟩ | ⟨_, _, _, z, _⟩ <;> cases z
      exact ⟨Γ'', w, l2, c2, g4.trans e2⟩
    · rcases z with ⟨Γ3, z | z, w⟩ | ⟨_, z, w⟩ | ⟨_, z, _⟩ | ⟨_, _, _, z, _⟩ <;> cases z
      exact T.rt d v H2 w ((e1.trans g4).trans e2) hv
    · rcases z with ⟨Γ3, z | z, w⟩ | ⟨_, z, w⟩ | ⟨_, z, w⟩ | ⟨_, _, _, z, _⟩ <;> cases z
      exact w.all l2 c2 (T.mono ((e1.trans g4).trans e2))
    · rcases z with ⟨Γ3, z | z, w⟩ | ⟨_, z, w⟩ | ⟨_, z, w⟩ | ⟨_, _, _, z, _⟩ <;> cases z
      exact ⟨Γ'', w, l2, c2, g4.trans e2⟩
    · rcases z with ⟨Γ3, z | z, w⟩ | ⟨_, z, w⟩ | ⟨_, z, w⟩ | ⟨_, _, _, z, w⟩ <;> cases z
      exact T.ex cl fs Γ'' d σ2 H2 w ((e1.trans g4).trans e2) l2 c2 x2
  · rintro σ' H' ⟨Γ', g1, g2, g3, g4⟩
    rw [← hxl] at g1
    exact (k Γ' g1).all g2 g3 (T.mono (e1.trans g4))
end
/-! ### own lists, the rest of the text told by what is left to do -/
def SOk (X : Cx) (sts : List Stmt) (Γ : Gm) (Ω : Om) (F0 : Hp) (E : Ends) : Prop := ∀ σ F H as, Ex F0 F → σ.length = X.N.length → COwn X.K F H Γ Ω as σ → allS X sts E σ H
section
variable {X : Cx} {Γ : Gm} {Ω : Om} {d : D} {ds : List D} {a b c e : Expr} {pos : Pos} {st : Stmt} {sts body : List Stmt} {F0 : Hp} {E : Ends}
theorem sok_new (i : Nat) {x : Str} {pos' : Pos} (he : FD X e (pl Ω Γ) ds) (hf : flatL ds = true) (ho : ∀ j es, (j, es) ∈ Ω → j ≠ i) (hd : X.N.Nodup) (k : SOk X sts (Γ.set i none) ((i, ds) :: Ω) F0 E) (hN : X.N[i]? = some x := by rfl) (hx : Loc X.env.scope x := by first | exact Or.inl rfl | exact Or.inr rfl)
    (hs : swapsWith e (some (.Name x pos')) pos.line X.env = pure false := by rfl) (hf2 : X.fn x = true ∨ X.env.scope.names.lookup x = some .local := by first | exact .inl rfl | exact .inr rfl) : SOk X (.Assign [.Name x pos'] e pos :: sts) Γ Ω F0 E := by
  obtain ⟨t, p, q⟩ := he
  intro σ F H as e0 hl C
  refine all_cons (ps_set (i := i) hd hN hx p hs hf2) (q σ H C.read _ fun p H1 ys e1 n hL => ?_)
  obtain ⟨e2, C2, hA⟩ := C.grow e1
  have hi := slot_lt hN hl
  have pn : p ∉ as := fun z => by
    obtain ⟨ys, h⟩ := hA p z
    rw [h] at n
    cases n
  have fp : wo H1 as p = none := by rw [wo_out pn, n]
  refine k _ (wo H1 as) _ (p :: as) (e0.trans e2) (by rw [List.length_set]; exact hl) ⟨fun b o hb => ?_, fun j d2 g => ?_, ⟨List.getElem?_set_self hi, fp, pn, ys, upd_same, hL.wo hA hf⟩, C2.own.move (Ex.refl _) (fun b hb => wo_in hb) (fun b hb => upd_ne fun z => pn (z ▸ hb)) fun j es hj => by rw [List.getElem?_set_ne (Ne.symm (ho j es hj))]⟩
  · rw [upd_ne (ne_of_none hb fp)]
    exact C2.ex b o hb
  · by_cases hj : i = j
    · subst hj
      rw [List.getElem?_set] at g
      simp only [if_true] at g
      split at g <;> cases g
    · rw [List.getElem?_set_ne hj] at g
      obtain ⟨w, h1, h2⟩ := C2.cx j d2 g
      exact ⟨w, by rw [List.getElem?_set_ne hj]; exact h1, h2⟩
theorem sok_newS (i : Nat) (he : FS X i st (pl Ω Γ) ds) (hf : flatL ds = true) (ho : ∀ j es, (j, es) ∈ Ω → j ≠ i) (k : SOk X sts (Γ.set i none) ((i, ds) :: Ω) F0 E) (hi0 : i < X.N.length := by decide) : SOk X (st :: sts) Γ Ω F0 E := by
  obtain ⟨t, p, q⟩ := he
  intro σ F H as e0 hl C
  refine all_cons p (q σ H C.read _ fun p H1 ys e1 n hL => ?_)
  obtain ⟨e2, C2, hA⟩ := C.grow e1
  have hi : i < σ.length := by rw [hl]; exact hi0
  have pn : p ∉ as := fun z => by
    obtain ⟨ys, h⟩ := hA p z
    rw [h] at n
    cases n
  have fp : wo H1 as p = none := by rw [wo_out pn, n]
  refine k _ (wo H1 as) _ (p :: as) (e0.trans e2) (by rw [List.length_set]; exact hl) ⟨fun b o hb => ?_, fun j d2 g => ?_, ⟨List.getElem?_set_self hi, fp, pn, ys, upd_same, hL.wo hA hf⟩, C2.own.move (Ex.refl _) (fun b hb => wo_in hb) (fun b hb => upd_ne fun z => pn (z ▸ hb)) fun j es hj => by rw [List.getElem?_set_ne (Ne.symm (ho j es hj))]⟩
  · rw [upd_ne (ne_of_none hb fp)]
    exact C2.ex b o hb
  · by_cases hj : i = j
    · subst hj
      rw [List.getElem?_set] at g
      simp only [if_true] at g
      split at g <;> cases g
    · rw [List.getElem?_set_ne hj] at g
      obtain ⟨w, h1, h2⟩ := C2.cx j d2 g
      exact ⟨w, by rw [List.getElem?_set_ne hj]; exact h1, h2⟩
theorem sok_while (J : Nat → Gm → Om → Prop) (m0 : Nat) (h0 : J m0 Γ Ω)
    (hs : ∀ m Γ' Ω', J m Γ' Ω' → ∃ k, TD X c (pl Ω' Γ') k ∧ (k = true → SO X body Γ' Ω' (fun o => ∃ Γ2 Ω2 m', o = .nx Γ2 Ω2 ∧ m' < m ∧ J m' Γ2 Ω2)) ∧ (k = false → SOk X sts Γ' Ω' F0 E))
    (hp : PassesOwn (model X.prog X.w) X.A X.env X.xe := by exact PassesOwn.never) : SOk X (.While c body [] pos :: sts) Γ Ω F0 E := by
  intro σ F H as e0 hl C
  refine all_cons (ps_while hp (pt_all (c := c)) (pss_all (st' := body))) ?_
  refine ⟨fun m σ' H' => ∃ Γ' Ω' F' as', J m Γ' Ω' ∧ σ'.length = X.N.length ∧ COwn X.K F' H' Γ' Ω' as' σ' ∧ Ex F0 F', ⟨m0, Γ, Ω, F, as, h0, hl, C, e0⟩, ?_⟩
  rintro m σ' H' ⟨Γ', Ω', F', as', g1, g2, g3, g4⟩
  obtain ⟨k, ht, hb, hn⟩ := hs m Γ' Ω' g1
  refine ht.all g3.read fun H2 e2 => ?_
  obtain ⟨e5, C2, _⟩ := g3.grow e2
  cases k with
  | false =>
    show allS X sts E σ' H2
    exact hn rfl σ' _ H2 as' (g4.trans e5) g2 C2
  | true =>
    show ∃ N : L2.St → Hp → Prop, _
    refine ⟨fun σ3 H3 => ∃ m' Γ3 Ω3 F3 as3, m' < m ∧ J m' Γ3 Ω3 ∧ σ3.length = X.N.length ∧ COwn X.K F3 H3 Γ3 Ω3 as3 σ3 ∧ Ex F0 F3, fun σ3 H3 ⟨m', Γ3, Ω3, F3, as3, q1, q2, q3, q4, q5⟩ => ⟨m', q1, Γ3, Ω3, F3, as3, q2, q3, q4, q5⟩, ?_⟩
    refine hb rfl σ' _ H2 as' g2 C2 _ ⟨fun Γ2 Ω2 σ2 F2 H2 as2 z e3 l2 c2 => ?_, fun d v H2 z => ?_, fun Γ2 Ω2 σ2 F2 H2 as2 z => ?_, fun Γ2 Ω2 σ2 F2 H2 as2 z => ?_, fun cl fs Γ2 Ω2 d σ2 F2 H2 as2 z => ?_⟩
    · obtain ⟨Γ3, Ω3, m', z, w1, w2⟩ := z
      cases z
      exact ⟨m', Γ2, Ω2, F2, as2, w1, w2, l2, c2, (g4.trans e5).trans e3⟩
    all_goals (obtain ⟨_, _, _, z, _⟩ := z; cases z)
end
end Trk

namespace Trk
section
open PySem PySem.SeqAt GQ
open AutoSeq1 (wpAny_loadPart')
open MeetsSeq MeetsSeq2 MeetsSeq3 SeqRoads2
variable {prog : Program} {w : World} {A : Around} {R : Result → Shared → Prop}
/-! ### == of two lists, whatever it gives -/
def ListB (prog : Program) (w : World) (A : Around) (E : Value → Shared → Prop) (l b : Addr) (N : Nat) (f : Nat → Bool) (I : Shared → Prop) : Prop :=
  ∀ s, I s → ∃ (items items2 : Array Value) (n n2 : Nat), s.heap.get? l = some { cls := .type "list", data := .seq items n } ∧ s.heap.get? b = some { cls := .type "list", data := .seq items2 n2 } ∧ items.size = N ∧ items2.size = N ∧
    ∀ (i : Nat) (h1 : i < items.size) (h2 : i < items2.size), wpAny (model prog w) A.in1 (eqBool items[i] items2[i]) (fun r s' => r = f i ∧ I s') E s
def allF (f : Nat → Bool) : Nat → Nat → Bool
  | _, 0 => true
  | i, k + 1 => f i && allF f (i + 1) k
theorem eq_loopB (l b : Addr) (N : Nat) (f : Nat → Bool) (I : Shared → Prop) (hl : ListB prog w A (fun e s' => R (.error e) s') l b N f I) (res : Bool)
    (fin : ∀ s, I s → R (.ok (.ret (.bool res))) s) (k : Nat) :
    ∀ i : Nat, N - i = k → i ≤ N → res = allF f i k → ∀ s, I s →
      wpAny (model prog w) A.in1 (Builtin.«list.__eq__.loop» ⟨[.ref l, .ref b, rawInt i, rawInt 2], []⟩) (FinOf prog w A R) (fun e s' => R (.error e) s') s := by
  induction k with
  | zero =>
    intro i hk hi hres s h
    obtain ⟨items, items2, n, n2, hl1, hb1, hs1, hs2, _⟩ := hl _ h
    have hR : R (.ok (.ret (.bool true))) s := by
      have := fin s h
      rw [hres] at this
      exact this
    obtain ⟨hp, g, d, tk, os⟩ := s
    wp_walk using wpAny_loadPart' hl1, wpAny_loadPart' hb1
    have hi1 : items[((i : Nat) : Int).toNat]? = none := by simp; omega
    have hi2 : items2[((i : Nat) : Int).toNat]? = none := by simp; omega
    rw [hi1, hi2]
    wp_walk using wpAny_loadPart' hl1, wpAny_loadPart' hb1
    show R (.ok (.ret (.bool (items.size == items2.size)))) _
    rw [hs1, hs2]
    simpa using hR
  | succ k ih =>
    intro i hk hi hres s h
    obtain ⟨items, items2, n, n2, hl1, hb1, hs1, hs2, turn⟩ := hl _ h
    have hlt : i < items.size := by omega
    have hlt2 : i < items2.size := by omega
    have ht := turn i hlt hlt2
    obtain ⟨hp, g, d, tk, os⟩ := s
    wp_walk using wpAny_loadPart' hl1, wpAny_loadPart' hb1
    have hi1 : items[((i : Nat) : Int).toNat]? = some items[i] := by simp [hlt]
    have hi2 : items2[((i : Nat) : Int).toNat]? = some items2[i] := by simp [hlt2]
    have hc : ((i : Int) + 1) = ((i + 1 : Nat) : Int) := by omega
    rw [hi1, hi2]
    refine wpAny_bind (wpAny_mono ht (fun r s2 h2 => ?_) fun _ _ x => x)
    obtain ⟨hr, h2⟩ := h2
    subst hr
    cases hf : f i with
    | true =>
      have hrec := ih (i + 1) (by omega) (by omega) (by rw [hres]; show (f i && allF f (i + 1) k) = _; rw [hf]; rfl) s2 h2
      obtain ⟨hp2, g2, d2, tk2, os2⟩ := s2
      wp_walk
      rw [hc]
      exact ⟨plainId_quiet plain_eq_loop _, codeAny_builtin entry_eq_loop (by
        rw [Around.under_plainId plain_eq_loop _]
        exact hrec)⟩
    | false =>
      have hR : R (.ok (.ret (.bool false))) s2 := by
        have := fin s2 h2
        rw [hres, show allF f i (k + 1) = (f i && allF f (i + 1) k) from rfl, hf] at this
        exact this
      obtain ⟨jt, jt2, m, m2, hl3, hb3, hs3, hs4, _⟩ := hl _ h2
      obtain ⟨hp2, g2, d2, tk2, os2⟩ := s2
      have hj1 : jt[((i : Nat) : Int).toNat]? = some (jt[i]'(by omega)) := by simp
      have hj2 : jt2[((i : Nat) : Int).toNat]? = some (jt2[i]'(by omega)) := by simp
      wp_walk using wpAny_loadPart' hl3, wpAny_loadPart' hb3
      rw [hj1, hj2]
      wp_walk using wpAny_loadPart' hl3, wpAny_loadPart' hb3
      exact hR

theorem list_eqB (l b : Addr) (N : Nat) (f : Nat → Bool) (I : Shared → Prop) (hl : ListB prog w A (fun e s' => R (.error e) s') l b N f I)
    (fin : ∀ s, I s → R (.ok (.ret (.bool (allF f 0 N)))) s) {s : Shared} (h : I s) :
    wpAny (model prog w) A.in1 (Builtin.«list.__eq__» ⟨[.ref l, .ref b], []⟩) (FinOf prog w A R) (fun e s' => R (.error e) s') s := by
  obtain ⟨items, items2, n, n2, hl1, hb1, hs1, hs2, _⟩ := hl _ h
  have hrec := eq_loopB (A := A) (R := R) l b N f I hl _ fin N 0 rfl (Nat.zero_le _) rfl s h
  obtain ⟨hp, g, d, tk, os⟩ := s
  have f3 := AutoSeq1.sub_list_list
  have hne : ¬ (items.size != items2.size) = true := by simp [hs1, hs2]
  wp_walk using wpAny_loadPart' hl1, wpAny_loadPart' hb1
  exact ⟨plainId_quiet plain_eq_loop _, codeAny_builtin entry_eq_loop (by
    rw [Around.under_plainId plain_eq_loop _]
    exact hrec)⟩
theorem list_eqNe (l b : Addr) {items items2 : Array Value} {n n2 : Nat} {s : Shared} (hl1 : s.heap.get? l = some { cls := .type "list", data := .seq items n }) (hb1 : s.heap.get? b = some { cls := .type "list", data := .seq items2 n2 }) (hs : items.size ≠ items2.size)
    (fin : R (.ok (.ret (.bool false))) s) :
    wpAny (model prog w) A.in1 (Builtin.«list.__eq__» ⟨[.ref l, .ref b], []⟩) (FinOf prog w A R) (fun e s' => R (.error e) s') s := by
  obtain ⟨hp, g, d, tk, os⟩ := s
  have f3 := AutoSeq1.sub_list_list
  have hne : (items.size != items2.size) = true := by simp [hs]
  wp_walk using wpAny_loadPart' hl1, wpAny_loadPart' hb1
  exact fin
end
section
open PySem PySem.SeqAt GQ
open MeetsSeq MeetsSeq2 MeetsSeq3 SeqRoads2
variable {prog : Program} {w : World} {A : Around} {E : Value → Shared → Prop} {s : Shared}
theorem rc_listB {l b : Addr} {N : Nat} {f : Nat → Bool} {Q : Value → Shared → Prop} (hu : A.units < cLine) (I : Shared → Prop) (hl : ListB prog w A E l b N f I)
    (fin : ∀ s, I s → Q (.bool (allF f 0 N)) s) (h : I s) : wpAny (model prog w) A (richCompare .Eq (.ref l) (.ref b)) Q E s := by
  obtain ⟨items, items2, n, n2, hl1, hb1, _, _, _⟩ := hl _ h
  refine wpAny_richCompare_same_room (op := .Eq) ⟨_, hl1, rfl⟩ ⟨_, hb1, rfl⟩ F.slot_list_eq (call_here F.slot_list_eq ⟨_, hl1, rfl⟩ F.entry_list_eq (F.args_list_eq_2 _ _) ?_) hu
  exact list_eqB (R := wants (fun v s' => v ≠ .notImplemented ∧ Q v s') E) l b N f I hl (fun s' q => ⟨(fun x => nomatch x), fin s' q⟩) h
theorem rc_listNe {l b : Addr} {Q : Value → Shared → Prop} {items items2 : Array Value} {n n2 : Nat} (hu : A.units < cLine) (hl1 : s.heap.get? l = some { cls := .type "list", data := .seq items n }) (hb1 : s.heap.get? b = some { cls := .type "list", data := .seq items2 n2 }) (hs : items.size ≠ items2.size)
    (fin : Q (.bool false) s) : wpAny (model prog w) A (richCompare .Eq (.ref l) (.ref b)) Q E s := by
  refine wpAny_richCompare_same_room (op := .Eq) ⟨_, hl1, rfl⟩ ⟨_, hb1, rfl⟩ F.slot_list_eq (call_here F.slot_list_eq ⟨_, hl1, rfl⟩ F.entry_list_eq (F.args_list_eq_2 _ _) ?_) hu
  exact list_eqNe (R := wants (fun v s' => v ≠ .notImplemented ∧ Q v s') E) l b hl1 hb1 hs ⟨(fun x => nomatch x), fin⟩
end

open PySem L2 Evl
/-! ### == of two lists of Fractions -/
section
variable {X : Cx} {Γ : Gm} {Ω : Om} {d d1 d2 : D} {ds es' : List D} {a b c e : Expr} {es : List Expr} {pos : Pos} {C f : Addr} {fs : List (Str × D)} {CX : CXT} {n k : Nat} {fd : FuncData} {ps : List Str} {E : XK} {R : List D → D → Prop} {p q : Rat}
theorem run_sub {A : Around} {sp : Sp} {pins : List (Addr × Obj)} {σ : L2.St} {H : Hp} {s : Shared} {Q : VK} {us : List Value} {vs : List V} (F : FnOk X.prog X.w X.K X.mg X.base CX n f fd ps sp) (sb : Sub X n A)
    (hb : Binds X.K fd ps []) (hx : Passes CX X E) (I : Inv X pins σ H s) (r : Vals vs us) (h : sp vs H Q E) : wpAny (model X.prog X.w) A (call (.ref f) us) (EP X pins σ Q) X.xe s := by
  have e0 : Env0 X.prog X.w X.K X.mg X.base A X.stack s H := by
    have e := I.env0
    exact ⟨by rw [sb.fr]; exact e.frames, e.mod, e.bs, e.bsz, e.funs, e.frf, e.hok, e.bare⟩
  exact run_in F sb.room e0 hb hx I r h
theorem eqb_fr (M : CmpM X.K C "__eq__" f) (F : FnOk X.prog X.w X.K X.mg X.base CX n f fd ps (spD X.K 2 (R_cmp C fun p q => decide (p = q)))) (hb : Binds X.K fd ps []) (hx : Passes CX X E) {A : Around} {pins : List (Addr × Obj)} {s : Shared} {σ : L2.St} {H : Hp} {x y : V} {u v : Value}
    (sb : Sub X n A) (I : Inv X pins σ H s) (rx : RelV x u) (ry : RelV y v) (hp : Den X.K H (fr C p) x) (hq : Den X.K H (fr C q) y) (sp : Sz 4000 p) (sq : Sz 4000 q) :
    wpAny (model X.prog X.w) A (eqBool u v) (fun r s' => r = decide (p = q) ∧ ∃ H', Inv X pins σ H' s' ∧ Ex H H') X.xe s := by
  have hp' := hp
  have hq' := hq
  obtain ⟨a, dx, rfl, ha⟩ := den_fr.mp hp
  obtain ⟨b, dy, rfl, hb'⟩ := den_fr.mp hq
  cases rx
  cases ry
  by_cases hab : a = b
  · subst hab
    have hpq : p = q := by
      rw [ha] at hb'
      have h1 := Option.some.inj hb'
      injection h1 with _ _ h2
      simp only [List.cons.injEq, Prod.mk.injEq, V.int.injEq, and_true, true_and] at h2
      obtain ⟨g1, g2⟩ := h2
      exact Rat.ext g1 (by omega)
    subst hpq
    exact SeqAt.EqAt.same (A := A) (s := s) (.ref a) X.prog X.w X.xe _ ⟨by simp, H, I, Ex.refl H⟩
  · refine GQ.eqBool_refG hab ?_
    obtain ⟨mA, J, _⟩ := ins_get I.hok ha
    obtain ⟨mB, J', _⟩ := ins_get I.hok hb'
    obtain ⟨od, J, _⟩ := J.look
    obtain ⟨od', J', _⟩ := J'.look
    obtain ⟨m, hF⟩ := I.fr
    refine PySem.W.cmp_K (op := .Eq) (tb := .ref C) sb.room.units0 hF I.ok.mod.kin J J'.type (by simp [PySem.W.notFirst]) M.find M.fn ?_
    have hsp : spD X.K 2 (R_cmp C fun p q => decide (p = q)) [.ref a, .ref b] H (fun v H' => v = .bl (decide (p = q)) ∧ Ex H H') E := ⟨_, _, rfl, DenL.cons hp' (DenL.cons hq' DenL.nil), ⟨p, _, q, rfl, .inl rfl, sp, sq, rfl⟩, fun v H' e hv => ⟨den_v.mp hv, e⟩⟩
    refine thn (run_sub F sb hb hx I (vals_rr a b) hsp) fun z s' hz => ?_
    obtain ⟨w, H', I', rw', ew, e⟩ := hz
    subst ew
    cases rw'
    exact ⟨_, rfl, rfl, H', I', e⟩
theorem allF_fr : ∀ (cs es : List Rat) (i : Nat), cs.length = es.length → allF (fun j => decide (cs.getD j 0 = es.getD j 0)) i (cs.length - i) = decide (cs.drop i = es.drop i) := by
  intro cs es i h
  generalize hk : cs.length - i = k
  induction k generalizing i with
  | zero =>
    rw [List.drop_eq_nil_of_le (by omega), List.drop_eq_nil_of_le (by omega)]
    simp [allF]
  | succ k ih =>
    have h1 : i < cs.length := by omega
    have h2 : i < es.length := by omega
    show (_ && allF _ (i + 1) k) = _
    rw [ih (i + 1) (by omega), List.drop_eq_getElem_cons h1, List.drop_eq_getElem_cons h2]
    show (decide (cs.getD i 0 = es.getD i 0) && _) = _
    rw [List.getD_eq_getElem?_getD, List.getD_eq_getElem?_getD, List.getElem?_eq_getElem h1, List.getElem?_eq_getElem h2]
    show (decide (cs[i] = es[i]) && _) = _
    rw [← Bool.decide_and]
    congr 1
    rw [List.cons.injEq]
def rEqF (C : Addr) (K : PySem.W.Frag) : R2 := fun x y H Q => ∃ cs es : List Rat, Den K H (.lst (cs.map (fr C))) x ∧ Den K H (.lst (es.map (fr C))) y ∧ (∀ c ∈ cs, Sz 4000 c) ∧ (∀ c ∈ es, Sz 4000 c) ∧ ∀ H', Ex H H' → Q (.bl (decide (cs = es))) H'
theorem op_eqF (M : CmpM X.K C "__eq__" f) (F : FnOk X.prog X.w X.K X.mg X.base CX n f fd ps (spD X.K 2 (R_cmp C fun p q => decide (p = q)))) (hb : Binds X.K fd ps []) (hx : Passes CX X E) (hr : Room (n + 1) X.A) : OpR X (compareOp .Eq) (rEqF C X.K) := by
  intro pins s σ H x y v u Q I rx ry h
  obtain ⟨cs, es, h1, h2, sc, se, q⟩ := h
  simp only [Den] at h1 h2
  obtain ⟨a, xs, rfl, ha, hL⟩ := h1
  obtain ⟨b, ys, rfl, hb', hM⟩ := h2
  cases rx
  cases ry
  show wpAny (model X.prog X.w) X.A (richCompare .Eq (.ref a) (.ref b)) (EP X pins σ Q) X.xe s
  have lc : cs.length = xs.length := by have := hL.len; simpa using this
  have le : es.length = ys.length := by have := hM.len; simpa using this
  by_cases hl : cs.length = es.length
  · have fin : decide (cs = es) = allF (fun j => decide (cs.getD j 0 = es.getD j 0)) 0 cs.length := by
      have := allF_fr cs es 0 hl
      rw [Nat.sub_zero, List.drop_zero, List.drop_zero] at this
      rw [this]
    rw [fin] at q
    refine rc_listB (N := cs.length) (f := fun j => decide (cs.getD j 0 = es.getD j 0)) hr.units0 (fun s' => ∃ H', Inv X pins σ H' s' ∧ Ex H H') (fun s' hI => ?_) (fun s' ⟨H', I', e⟩ => ⟨.bl _, H', I', rfl, q H' e⟩) ⟨H, I, Ex.refl H⟩
    obtain ⟨H1, I1, e1⟩ := hI
    obtain ⟨z, its, k, r, e⟩ := I1.hok a _ (e1 _ _ ha)
    obtain ⟨z2, its2, k2, r2, e2⟩ := I1.hok b _ (e1 _ _ hb')
    refine ⟨its.toArray, its2.toArray, k, k2, e, e2, by rw [List.size_toArray, ← r.length, lc], by rw [List.size_toArray, ← r2.length, hl, le], fun i k1 k2 => ?_⟩
    have g1 : its[i]? = some its.toArray[i] := by
      have h1' : i < its.length := by simpa using k1
      rw [List.getElem?_eq_getElem h1'] <;> simp
    have g2 : its2[i]? = some its2.toArray[i] := by
      have h2' : i < its2.length := by simpa using k2
      rw [List.getElem?_eq_getElem h2'] <;> simp
    have j1 : i < cs.length := by rw [lc, r.length]; simpa using k1
    have j2 : i < es.length := by rw [le, r2.length]; simpa using k2
    obtain ⟨x1, hx1, dx1⟩ := hL.get (i := i) (d := fr C cs[i]) (by rw [List.getElem?_map, List.getElem?_eq_getElem j1]; rfl)
    obtain ⟨y1, hy1, dy1⟩ := hM.get (i := i) (d := fr C es[i]) (by rw [List.getElem?_map, List.getElem?_eq_getElem j2]; rfl)
    obtain ⟨u1, hu1, ru1⟩ := r.get hx1
    obtain ⟨v1, hv1, rv1⟩ := r2.get hy1
    rw [g1] at hu1
    rw [g2] at hv1
    rw [Option.some.inj hu1, Option.some.inj hv1]
    refine wpAny_mono (eqb_fr M F hb hx (A := X.A.in1) (Sub.in1 ⟨hr, rfl⟩) I1 ru1 rv1 (dx1.mono e1) (dy1.mono e1) (sc _ (List.getElem_mem j1)) (se _ (List.getElem_mem j2))) (fun r s2 hq => ?_) fun _ _ x => x
    obtain ⟨hr2, H2, I2, e3⟩ := hq
    refine ⟨?_, H2, I2, e1.trans e3⟩
    rw [hr2]
    show decide (cs[i] = es[i]) = decide (cs.getD i 0 = es.getD i 0)
    rw [List.getD_eq_getElem?_getD, List.getD_eq_getElem?_getD, List.getElem?_eq_getElem j1, List.getElem?_eq_getElem j2]
    rfl
  · have hne : decide (cs = es) = false := decide_eq_false fun z => hl (by rw [z])
    rw [hne] at q
    obtain ⟨z, its, k, r, e⟩ := I.hok a _ ha
    obtain ⟨z2, its2, k2, r2, e2⟩ := I.hok b _ hb'
    exact rc_listNe hr.units0 e e2 (by rw [List.size_toArray, List.size_toArray, ← r.length, ← r2.length, ← lc, ← le]; exact hl) ⟨.bl _, H, I, rfl, q H (Ex.refl H)⟩
theorem rd_eqF {K : PySem.W.Frag} {cs es : List Rat} (h1 : ∀ c ∈ cs, Sz 4000 c) (h2 : ∀ c ∈ es, Sz 4000 c) : RD K (rEqF C K) (.lst (cs.map (fr C))) (.lst (es.map (fr C))) (bD (decide (cs = es))) :=
  fun x y H hx hy Q q => ⟨cs, es, hx, hy, h1, h2, fun H' e => q _ H' e (den_v.mpr rfl)⟩
/-! ### list + list, cut, all, isinstance(x, list) -/
def rCatL (K : PySem.W.Frag) : R2 := fun x y H Q => ∃ a b xs ys, x = .ref a ∧ y = .ref b ∧ H a = some (.lst xs) ∧ H b = some (.lst ys) ∧ xs.length + ys.length ≤ sizeLine ∧ ∀ p, H p = none → Q (.ref p) (upd H p (.lst (xs ++ ys)))
theorem denL_app {K : PySem.W.Frag} {H : Hp} : ∀ {ds es : List D} {xs ys : List V}, DenL K H ds xs → DenL K H es ys → DenL K H (ds ++ es) (xs ++ ys)
  | [], es, xs, ys, h, h2 => by
    simp only [DenL] at h
    subst h
    exact h2
  | d0 :: ds, es, xs, ys, h, h2 => by
    simp only [DenL] at h
    obtain ⟨z, zs, rfl, hz, hzs⟩ := h
    exact DenL.cons hz (denL_app hzs h2)
theorem fd_cat (ha : ED X a Γ (.lst ds)) (hb : ED X b Γ (.lst es')) (hl : ds.length + es'.length ≤ 1000000) : FD X (.BinOp a .Add b pos) Γ (ds ++ es') := by
  obtain ⟨ta, pa, qa⟩ := ha
  obtain ⟨tb, pb, qb⟩ := hb
  refine ⟨_, pe_op op_cat pa pb, fun σ H Cc Q k => qa σ H Cc _ fun x H1 e1 h1 => qb σ H1 (Cc.mono e1) _ fun y H2 e2 h2 => ?_⟩
  have h1' := h1.mono e2
  simp only [Den] at h1' h2
  obtain ⟨l, xs, rfl, g1, g2⟩ := h1'
  obtain ⟨m, ys, rfl, g3, g4⟩ := h2
  exact ⟨l, m, xs, ys, rfl, rfl, g1, g3, by rw [← g2.len, ← g4.len, sizeLine_eq]; omega, fun p np => k p H2 _ (e1.trans e2) np (denL_app g2 g4)⟩
/-- xs[:n] -/
theorem denL_take {K : PySem.W.Frag} {H : Hp} : ∀ {m : Nat} {ds : List D} {ys : List V}, DenL K H ds ys → DenL K H (ds.take m) (ys.take m)
  | 0, ds, ys, h => by
    rw [List.take_zero, List.take_zero]
    exact DenL.nil
  | m + 1, [], ys, h => by
    simp only [DenL] at h
    subst h
    exact DenL.nil
  | m + 1, d0 :: ds, ys, h => by
    simp only [DenL] at h
    obtain ⟨z, zs, rfl, hz, hzs⟩ := h
    exact DenL.cons hz (denL_take hzs)
theorem denL_drop {K : PySem.W.Frag} {H : Hp} : ∀ {m : Nat} {ds : List D} {ys : List V}, DenL K H ds ys → DenL K H (ds.drop m) (ys.drop m)
  | 0, ds, ys, h => h
  | m + 1, [], ys, h => by
    simp only [DenL] at h
    subst h
    exact DenL.nil
  | m + 1, d0 :: ds, ys, h => by
    simp only [DenL] at h
    obtain ⟨z, zs, rfl, hz, hzs⟩ := h
    exact denL_drop (m := m) hzs

theorem cut_to {xs : List V} {n : Nat} : L2.cutV xs none (some (n : Int)) = xs.take n := by
  unfold L2.cutV
  rw [HT.sIx_none, HT.sIx_nat, List.drop_zero, Nat.sub_zero]
  rcases Nat.le_total n xs.length with h | h
  · rw [Nat.min_eq_left h]
  · rw [Nat.min_eq_right h, List.take_of_length_le (Nat.le_refl _), List.take_of_length_le h]
theorem cut_from {xs : List V} {n : Nat} : L2.cutV xs (some (n : Int)) none = xs.drop n := by
  unfold L2.cutV
  rw [HT.sIx_none, HT.sIx_nat]
  rcases Nat.le_total n xs.length with h | h
  · rw [Nat.min_eq_left h]
    exact List.take_of_length_le (by rw [List.length_drop]; omega)
  · rw [Nat.min_eq_right h, List.drop_of_length_le (Nat.le_refl _), List.drop_of_length_le h]
    simp
theorem fd_cutTo {n : Nat} {p2 : Pos} (ha : ED X a Γ (.lst ds)) (hb : ED X b Γ (iD (n : Int))) : FD X (.Subscript a (.Slice none (some b) none p2) pos) Γ (ds.take n) := by
  obtain ⟨ta, pa, qa⟩ := ha
  obtain ⟨tb, pb, qb⟩ := hb
  refine ⟨_, pe_slice sl_list pa po_none (po_some pb), fun σ H Cc Q k => qa σ H Cc _ fun x H1 e1 h1 => ?_⟩
  refine qb σ H1 (Cc.mono e1) _ fun y H2 e2 h2 => ?_
  have h1' := h1.mono e2
  simp only [Den] at h1'
  obtain ⟨l, xs, rfl, g1, g2⟩ := h1'
  refine ⟨(n : Int), den_v.mp h2, l, xs, rfl, SqL.of g1, fun p np => ?_⟩
  rw [cut_to]
  exact k p H2 _ (e1.trans e2) np (denL_take g2)
theorem fd_cutFrom {n : Nat} {p2 : Pos} (ha : ED X a Γ (.lst ds)) (hb : ED X b Γ (iD (n : Int))) : FD X (.Subscript a (.Slice (some b) none none p2) pos) Γ (ds.drop n) := by
  obtain ⟨ta, pa, qa⟩ := ha
  obtain ⟨tb, pb, qb⟩ := hb
  refine ⟨_, pe_slice sl_list pa (po_some pb) po_none, fun σ H Cc Q k => qa σ H Cc _ fun x H1 e1 h1 => ?_⟩
  refine qb σ H1 (Cc.mono e1) _ fun y H2 e2 h2 => ?_
  have h1' := h1.mono e2
  simp only [Den] at h1'
  obtain ⟨l, xs, rfl, g1, g2⟩ := h1'
  refine ⟨(n : Int), den_v.mp h2, l, xs, rfl, SqL.of g1, fun p np => ?_⟩
  rw [cut_from]
  exact k p H2 _ (e1.trans e2) np (denL_drop g2)
theorem denL_bools {K : PySem.W.Frag} {H : Hp} : ∀ {bs : List Bool} {ys : List V}, DenL K H (bs.map bD) ys → ys = bs.map V.bl
  | [], ys, h => by
    simp only [List.map_nil, DenL] at h
    exact h
  | b :: bs, ys, h => by
    simp only [List.map_cons, DenL] at h
    obtain ⟨z, zs, rfl, hz, hzs⟩ := h
    rw [den_v.mp hz, denL_bools hzs]
    rfl
theorem ed_all {bs : List Bool} {p : Pos} (hc : X.calm = true) (hm : X.mg "all" = none) (ha : ED X a Γ (.lst (bs.map bD))) (hg : Gl X "all" := by rfl) (he : starEach (a :: []) X.env = (false, eval a X.env) :: starEach [] X.env := by rfl) (hpl : (backTo pos (starEach [] X.env)).any (·.1) = false := by rfl) :
    ED X (.Call (.Name "all" p) [a] [] pos) Γ (bD (bs.all id)) := by
  refine ed_callB (d := bD (bs.all id)) (cr_all hc) hm (by decide +kernel) (ad_cons ha ad_nil he) (fun xs H h Q q => ?_) hg (by decide) (by decide) he hpl
  obtain ⟨x, rfl, h1⟩ := denL_one h
  simp only [Den] at h1
  obtain ⟨l, ys, rfl, g1, g2⟩ := h1
  rw [denL_bools g2] at g1
  exact ⟨l, bs, rfl, SqL.of g1, q _ H (Ex.refl H) (den_v.mpr rfl)⟩
/-- isinstance, of whatever shows its type -/
theorem ed_isiX {kk : Bool} {u t : Value} {cv : V} {p : Pos} (hm : X.mg "isinstance" = none) (ha : ED X a Γ d) (hc : ED X c Γ (.v cv)) (hcv : ClsV cv u) (ht : ∀ H v, Den X.K H d v → TyX X.K H v t) (hk : PySem.W.kitOne X.K t u = some kk) (hg : Gl X "isinstance" := by rfl)
    (he : starEach (a :: [c]) X.env = (false, eval a X.env) :: starEach [c] X.env := by rfl) (hs1 : starEach (c :: []) X.env = (false, eval c X.env) :: starEach [] X.env := by rfl) (hpl : (backTo pos (starEach [c] X.env)).any (·.1) = false := by rfl) :
    ED X (.Call (.Name "isinstance" p) [a, c] [] pos) Γ (bD kk) := by
  refine ed_callB (d := bD kk) (r := rIsi X.K) call_isi hm (by decide +kernel) (ad_cons ha (ad_cons hc ad_nil hs1) he) (fun xs H h Q q => ?_) hg (by decide) (by decide) he hpl
  obtain ⟨x, y, rfl, h1, h2⟩ := denL_two h
  rw [den_v.mp h2]
  exact ⟨x, cv, t, u, kk, rfl, hcv, ht H x h1, hk, q _ H (Ex.refl H) (den_v.mpr rfl)⟩
theorem ty_lst {K : PySem.W.Frag} (H : Hp) (v : V) (h : Den K H (.lst ds) v) : TyX K H v (.type "list") := by
  simp only [Den] at h
  obtain ⟨a, ys, rfl, h, _⟩ := h
  exact .base (.lst h)
theorem ty_tup {K : PySem.W.Frag} (H : Hp) (v : V) (h : Den K H (.tup ds) v) : TyX K H v (.type "tuple") := by
  simp only [Den] at h
  obtain ⟨a, ys, rfl, h, _⟩ := h
  rcases h with (h | ⟨o, h⟩) | ⟨o, its, n, hk, hc, _⟩
  · exact .base (.tup h)
  · exact .fTuple h
  · exact .kTuple hk hc
/-! ### values that share nothing with the lists that stood before -/
def ND (X : Cx) (e : Expr) (Γ : Gm) (d : D) : Prop := ∃ t, PE X e t ∧ ∀ σ H, Ctx X.K H Γ σ → ∀ Q : VK, (∀ v H', Ex H H' → (∀ as, (∀ b ∈ as, ∃ ys, H b = some (.lst ys)) → Den X.K (wo H' as) d v) → Q v H') → t σ H Q
theorem ED.nd (h : ED X e Γ d) (hf : flat d = true) : ND X e Γ d := by
  obtain ⟨t, p, q⟩ := h
  exact ⟨t, p, fun σ H Cc Q k => q σ H Cc Q fun v H' e1 hv => k v H' e1 fun as hA => hv.wo (fun b hb => by
    obtain ⟨ys, h⟩ := hA b hb
    exact ⟨ys, e1 _ _ h⟩) hf⟩
theorem FD.nd (h : FD X e Γ ds) (hf : flatL ds = true) : ND X e Γ (.lst ds) := by
  obtain ⟨t, p, q⟩ := h
  refine ⟨t, p, fun σ H Cc Q k => q σ H Cc Q fun p H1 ys e1 np hL => k _ _ (fun b o hb => ?_) fun as hA => ?_⟩
  · have h := e1 b o hb
    rw [upd_ne (ne_of_none h np)]
    exact h
  · have pn : p ∉ as := fun z => by
      obtain ⟨ys, h⟩ := hA p z
      rw [e1 _ _ h] at np
      cases np
    simp only [Den]
    refine ⟨p, ys, rfl, by rw [wo_out pn, upd_same], ?_⟩
    have h1 := hL.wo (as := as) (fun b hb => by
      obtain ⟨ys, h⟩ := hA b hb
      exact ⟨ys, e1 _ _ h⟩) hf
    refine h1.mono fun b o hb => ?_
    by_cases hb2 : b ∈ as
    · rw [wo_in hb2] at hb
      cases hb
    · rw [wo_out hb2] at hb ⊢
      rw [upd_ne (ne_of_none hb np)]
      exact hb
theorem nd_is (h : ND X e Γ d1) (q : d1 = d) : ND X e Γ d := q ▸ h
end
section
variable {X : Cx} {Γ : Gm} {Ω : Om} {d d1 d2 : D} {ds : List D} {e a b c : Expr} {es : List Expr} {pos : Pos} {st : Stmt} {sts body rest sa sb : List Stmt} {Φ Ψ : OutO → Prop} {Φ0 : Out → Prop}
/-- x = e, sharing no list -/
theorem so_asgN (i : Nat) {x : Str} {pos' : Pos} (he : ND X e (pl Ω Γ) d) (ho : ∀ j es, (j, es) ∈ Ω → j ≠ i) (hd : X.N.Nodup) (k : SO X sts (Γ.set i (some d)) Ω Φ) (hN : X.N[i]? = some x := by rfl) (hx : Loc X.env.scope x := by first | exact Or.inl rfl | exact Or.inr rfl)
    (hs : swapsWith e (some (.Name x pos')) pos.line X.env = pure false := by rfl) (hf2 : X.fn x = true ∨ X.env.scope.names.lookup x = some .local := by first | exact .inl rfl | exact .inr rfl) : SO X (.Assign [.Name x pos'] e pos :: sts) Γ Ω Φ := by
  obtain ⟨t, p, q⟩ := he
  intro σ F H as hl C E T
  refine all_cons (ps_set (i := i) hd hN hx p hs hf2) (q σ H C.read _ fun v H1 e1 h1 => ?_)
  obtain ⟨e2, C2, hA⟩ := C.grow e1
  refine k _ (wo H1 as) H1 as (by rw [List.length_set]; exact hl) ⟨C2.ex, C2.cx.set (slot_lt hN hl) (h1 as fun b hb => (C.own.lists b hb).2), C2.own.move (Ex.refl _) (fun b hb => wo_in hb) (fun b hb => rfl) fun j es hj => ?_⟩ E (T.mono e2)
  rw [List.getElem?_set_ne (Ne.symm (ho j es hj))]
theorem so_newS (i : Nat) (he : FS X i st (pl Ω Γ) ds) (hf : flatL ds = true) (ho : ∀ j es, (j, es) ∈ Ω → j ≠ i) (k : SO X sts (Γ.set i none) ((i, ds) :: Ω) Φ) (hi0 : i < X.N.length := by decide) : SO X (st :: sts) Γ Ω Φ := by
  obtain ⟨t, p, q⟩ := he
  intro σ F H as hl C E T
  refine all_cons p (q σ H C.read _ fun p H1 ys e1 n hL => ?_)
  obtain ⟨e2, C2, hA⟩ := C.grow e1
  have hi : i < σ.length := by rw [hl]; exact hi0
  have pn : p ∉ as := fun z => by
    obtain ⟨ys, h⟩ := hA p z
    rw [h] at n
    cases n
  have fp : wo H1 as p = none := by rw [wo_out pn, n]
  refine k _ (wo H1 as) _ (p :: as) (by rw [List.length_set]; exact hl) ⟨fun b o hb => ?_, fun j d2 g => ?_, ⟨List.getElem?_set_self hi, fp, pn, ys, upd_same, hL.wo hA hf⟩, C2.own.move (Ex.refl _) (fun b hb => wo_in hb) (fun b hb => upd_ne fun z => pn (z ▸ hb)) fun j es hj => by rw [List.getElem?_set_ne (Ne.symm (ho j es hj))]⟩ E (T.mono e2)
  · rw [upd_ne (ne_of_none hb fp)]
    exact C2.ex b o hb
  · by_cases hj : i = j
    · subst hj
      rw [List.getElem?_set] at g
      simp only [if_true] at g
      split at g <;> cases g
    · rw [List.getElem?_set_ne hj] at g
      obtain ⟨w, h1, h2⟩ := C2.cx j d2 g
      exact ⟨w, by rw [List.getElem?_set_ne hj]; exact h1, h2⟩
/-- from here on no own list is changed any more -/
theorem so_end (h : SsD X sts (pl Ω Γ) Φ0) (h1 : ∀ d, Φ0 (.rt d) → Φ (.rt d)) (h2 : ∀ Γ', Φ0 (.nx Γ') → Φ (.nx Γ' [])) (h3 : ∀ Γ', Φ0 (.bk Γ') → Φ (.bk Γ' [])) (h4 : ∀ Γ', Φ0 (.ct Γ') → Φ (.ct Γ' [])) (h5 : ∀ c fs Γ', Φ0 (.ex c fs Γ') → Φ (.ex c fs Γ' [])) : SO X sts Γ Ω Φ := by
  intro σ F H as hl C E T
  have T' : TkO X H Φ E := T.mono C.ex
  refine h.all hl C.read ⟨fun Γ' σ' H' z e l c => T'.nx Γ' [] σ' H' H' [] (h2 _ z) e l ⟨Ex.refl _, c, True.intro⟩, fun d v H' z e hv => T'.rt d v H' (h1 _ z) e hv, fun Γ' σ' H' z e l c => T'.bk Γ' [] σ' H' H' [] (h3 _ z) e l ⟨Ex.refl _, c, True.intro⟩, fun Γ' σ' H' z e l c => T'.ct Γ' [] σ' H' H' [] (h4 _ z) e l ⟨Ex.refl _, c, True.intro⟩, fun cl fs Γ' d σ' H' z e l c x => T'.ex cl fs Γ' [] d σ' H' H' [] (h5 _ _ _ z) e l ⟨Ex.refl _, c, True.intro⟩ x⟩
/-- if: joined behind -/
theorem so_if {k : Bool} (J : Gm → Om → Prop) (hc : TD X c (pl Ω Γ) k) (ha : k = true → SO X sa Γ Ω (fun o => ∃ Γ' Ω', o = .nx Γ' Ω' ∧ J Γ' Ω')) (hb : k = false → SO X sb Γ Ω (fun o => ∃ Γ' Ω', o = .nx Γ' Ω' ∧ J Γ' Ω')) (h : ∀ Γ' Ω', J Γ' Ω' → SO X sts Γ' Ω' Φ) : SO X (.If c sa sb pos :: sts) Γ Ω Φ := by
  cases k with
  | true => exact so_ifT (Ψ := fun o => ∃ Γ' Ω', o = .nx Γ' Ω' ∧ J Γ' Ω') hc (ha rfl) (fun Γ' Ω' ⟨_, _, z, j⟩ => by cases z; exact h _ _ j) fun o ho ⟨_, _, z, _⟩ => absurd z (ho _ _)
  | false => exact so_ifE (Ψ := fun o => ∃ Γ' Ω', o = .nx Γ' Ω' ∧ J Γ' Ω') hc (hb rfl) (fun Γ' Ω' ⟨_, _, z, j⟩ => by cases z; exact h _ _ j) fun o ho ⟨_, _, z, _⟩ => absurd z (ho _ _)
end
/-! ### a def that hands back a list of its own -/
def spF (K : PySem.W.Frag) (n : Nat) (R : List D → List D → Prop) : Sp := fun vs H Q _ => ∃ ds xs, ds.length = n ∧ DenL K H ds vs ∧ R ds xs ∧ ∀ p H1 ys, Ex H H1 → H1 p = none → DenL K H1 xs ys → Q (.ref p) (upd H1 p (.lst ys))
theorem spF_D {K : PySem.W.Frag} {n : Nat} {R : List D → List D → Prop} {vs : List V} {H : Hp} {Q : VK} {E : XK} (h : spD K n (fun ds d => ∃ xs, R ds xs ∧ d = .lst xs) vs H Q E) : spF K n R vs H Q E := by
  obtain ⟨ds, d, h1, h2, ⟨xs, h3, rfl⟩, h4⟩ := h
  refine ⟨ds, xs, h1, h2, h3, fun p H1 ys e n hL => h4 _ _ (fun b o hb => ?_) ?_⟩
  · have h := e b o hb
    rw [upd_ne (ne_of_none h n)]
    exact h
  · simp only [Den]
    refine ⟨p, ys, rfl, upd_same, hL.mono fun b o hb => ?_⟩
    rw [upd_ne (ne_of_none hb n)]
    exact hb
section
variable {X : Cx} {Γ : Gm} {Ω : Om} {d d1 d2 : D} {ds xs : List D} {e a b c : Expr} {es : List Expr} {pos : Pos} {C f : Addr} {fs : List (Str × D)} {CX : CXT} {k n : Nat} {fd : FuncData} {ps : List Str} {E : XK} {R : List D → D → Prop} {RF : List D → List D → Prop}
theorem fn_F {P : Program} {w : World} {K : PySem.W.Frag} {mg : Str → Option Value} {base : Heap} {x qual : Str} {st : Stmt} {f : Addr} {fd : FuncData} {N ps : List Str} {k : Nat} {e : Expr} {pos : Pos} (F : Fun K x qual st f fd) (S : FnScope N ps (defScope st))
    (hN : ps.length ≤ N.length) (hb : defBody st = [.Return (some e) pos])
    (h : ∀ (cdv : Value) (A : Around) (outer : List Env) (s : Shared) (H : Hp) (E : XK) (ds xs : List D), Room k (A.deeper (PyProof.Rows.envOfC qual (defScope st) s.heap.objs.size f cdv)) → ds.length = ps.length → RF ds xs →
      FD (cxOf CX0 P w K mg base N qual (defScope st) f cdv A outer s H E).nox e (ds.map some ++ List.replicate (N.length - ds.length) none) xs) :
    FnOk P w K mg base CX0 (k + 1) f fd ps (spF K ps.length RF) := by
  refine F.ok S (fun vs H Q E h => ?_) fun cdv A outer s H vs Q E hr hsp => ?_
  · obtain ⟨ds, xs, h1, h2, _⟩ := h
    rw [← h2.len, h1]
  obtain ⟨ds, xs, h1, h2, h3, h4⟩ := hsp
  obtain ⟨t, p, q⟩ := h cdv A outer s H E ds xs hr h1 h3
  rw [hb]
  exact ⟨_, pss_one (ps_ret p), q (L2.start N vs) H (start_ctx h2) _ h4⟩
/-- o.m() -/
theorem ed_meth0 {pl : Sem Bool} {o : Expr} {m : Str} {apos : Pos} (ho : ED X o Γ (.obj C fs)) (hl : ∀ {H gs}, DenF X.K H fs gs → gs.lookup m = none) (c : Cls X.K C) (hm : Meth X.K C m f) (F : FnOk X.prog X.w X.K X.mg X.base CX k f fd ps (spD X.K 1 R)) (hr : Room k X.A) (hb : Binds X.K fd ps []) (hx : Passes CX X E)
    (hR : R [.obj C fs] d)
    (ht : eval (.Call (.Attribute o m apos) [] [] pos) X.env = (do
      let ov ← eval o X.env
      standAt apos.atName
      let (f, first) ← holding [ov] (getMethod ov m pl)
      callWith pos f first (backTo pos (starEach [] X.env)) (backToKw pos (keywordEach [] X.env))) := by rfl) : ED X (.Call (.Attribute o m apos) [] [] pos) Γ d := by
  obtain ⟨to, po, qo⟩ := ho
  refine ⟨_, pe_meth0 po c hm F hr hb .nil hx ht, fun σ H Cc Q r => qo σ H Cc _ fun x H1 e1 h1 => ?_⟩
  obtain ⟨a, dx, gs, rfl, g, hF⟩ := den_obj h1
  exact ⟨a, dx, gs, rfl, g, hl hF, _, d, rfl, DenL.cons h1 DenL.nil, hR, fun v H' e3 h3 => r v H' (e1.trans e3) h3⟩
theorem fd_meth0 {pl : Sem Bool} {o : Expr} {m : Str} {apos : Pos} (ho : ED X o Γ (.obj C fs)) (hl : ∀ {H gs}, DenF X.K H fs gs → gs.lookup m = none) (c : Cls X.K C) (hm : Meth X.K C m f) (F : FnOk X.prog X.w X.K X.mg X.base CX k f fd ps (spF X.K 1 RF)) (hr : Room k X.A) (hb : Binds X.K fd ps []) (hx : Passes CX X E)
    (hR : RF [.obj C fs] xs)
    (ht : eval (.Call (.Attribute o m apos) [] [] pos) X.env = (do
      let ov ← eval o X.env
      standAt apos.atName
      let (f, first) ← holding [ov] (getMethod ov m pl)
      callWith pos f first (backTo pos (starEach [] X.env)) (backToKw pos (keywordEach [] X.env))) := by rfl) : FD X (.Call (.Attribute o m apos) [] [] pos) Γ xs := by
  obtain ⟨to, po, qo⟩ := ho
  refine ⟨_, pe_meth0 po c hm F hr hb .nil hx ht, fun σ H Cc Q r => qo σ H Cc _ fun x H1 e1 h1 => ?_⟩
  obtain ⟨a, dx, gs, rfl, g, hF⟩ := den_obj h1
  exact ⟨a, dx, gs, rfl, g, hl hF, _, xs, rfl, DenL.cons h1 DenL.nil, hR, fun p H2 ys e2 np hL => r p H2 ys (e1.trans e2) np hL⟩
end
end Trk

namespace Trk
open PySem L2 Evl
theorem wo_nil {H : Hp} : wo H [] = H := by
  funext b
  unfold wo
  rw [if_neg (by simp)]
section
variable {X : Cx} {Γ : Gm} {Ω : Om} {d d1 d2 : D} {ds es' : List D} {a b c e : Expr} {es : List Expr} {pos : Pos} {C f : Addr} {fs : List (Str × D)} {CX : CXT} {n k : Nat} {fd : FuncData} {ps : List Str} {E : XK} {R : List D → D → Prop} {p q : Rat}
theorem ND.ed (h : ND X e Γ d) : ED X e Γ d := by
  obtain ⟨t, p, q⟩ := h
  exact ⟨t, p, fun σ H Cc Q k => q σ H Cc Q fun v H' e1 hv => k v H' e1 (by
    have h := hv [] (fun b hb => by cases hb)
    rw [wo_nil] at h
    exact h)⟩
/-! ### C.m(e), m a static method -/
structure SMet (K : PySem.W.Frag) (C : Addr) (m : Str) (p f : Addr) : Prop where
  rd : PySem.W.readsIn K C (.type "type") = true
  ga : PySem.W.specialIn K (.ref C) "__getattribute__" = some (some (.builtin "type.__getattribute__"))
  at_ : PySem.W.findCls K (.ref C) (.type "type") m = some (.get (.builtin "staticmethod.__get__") (.ref p) .none (.ref C))
  rc : ∃ rest, PySem.W.recIn K p "staticmethod" = some (.ref f :: rest)
  kp : PySem.W.keepIn K (.ref f) = true
def tSMeth (C : Addr) (sp : Sp) (E : XK) (ta : TE) (t : TA) : TE := fun σ H Q => ta σ H fun x H1 => x = .ref C ∧ t σ H1 fun vs H2 => sp vs H2 Q E
theorem pe_smeth {pl : Sem Bool} {sp : Sp} {ta : TE} {t : TA} {pa : Addr} {o : Expr} {m : Str} {apos : Pos} (he : PE X o ta) (S : SMet X.K C m pa f) (F : FnOk X.prog X.w X.K X.mg X.base CX k f fd ps sp) (hr : Room k X.A) (hb : Binds X.K fd ps []) (hx : Passes CX X E) (ha : PA X (e :: es) t)
    (hst : starEach (e :: es) X.env = (false, eval e X.env) :: starEach es X.env := by rfl) (hpl : (backTo pos (starEach es X.env)).any (·.1) = false := by rfl)
    (ht : eval (.Call (.Attribute o m apos) (e :: es) [] pos) X.env = (do
      let ov ← eval o X.env
      standAt apos.atName
      let (f, first) ← holding [ov] (getMethod ov m pl)
      callWith pos f first (backTo pos (starEach (e :: es) X.env)) (backToKw pos (keywordEach [] X.env))) := by rfl) :
    PE X (.Call (.Attribute o m apos) (e :: es) [] pos) (tSMeth C sp E ta t) := by
  refine ⟨fun pins s σ H Q I h => ?_⟩
  refine PySem.W.methodCall_KW (pl := pl) (thn (he.run pins s σ H _ I h) fun u s1 ⟨x, H1, I1, rx, ex, q⟩ => ?_) ht
  subst ex
  obtain rfl : u = Value.ref C := rx
  obtain ⟨rest, hp⟩ := S.rc
  refine PySem.W.method_cls I1.kIn S.ga (PySem.W.cls_bind I1.kIn S.rd S.at_ (PySem.wpAny_call (PySem.W.sm_get (s := { s1 with toks := s1.toks + 1 }) I1.kIn hp (PySem.W.handed_on rfl ?_))))
  have I2 : Inv X pins σ H1 { s1 with toks := s1.toks + 1 } := I1.tok _
  refine PySem.W.callWith_K (first := []) (h₀ := X.base) I.ok.mod.kin S.kp (thn (ha.run pos pins _ σ H1 _ I2 q) fun us s2 ⟨vs, H2, I3, r, q2⟩ => ⟨I3.kIn, ?_⟩) hst hpl
  exact run_fn F hr hb .nil hx I3 r (by rw [List.append_nil]; exact q2)
theorem ed_smeth {pl : Sem Bool} {pa : Addr} {o : Expr} {m : Str} {apos : Pos} (ho : ED X o Γ (.v (.ref C))) (S : SMet X.K C m pa f) (F : FnOk X.prog X.w X.K X.mg X.base CX k f fd ps (spD X.K n R)) (hr : Room k X.A) (hb : Binds X.K fd ps []) (hx : Passes CX X E) (ha : AD X (e :: es) Γ ds) (hR : R ds d) (hn : ds.length = n := by rfl)
    (hst : starEach (e :: es) X.env = (false, eval e X.env) :: starEach es X.env := by rfl) (hpl : (backTo pos (starEach es X.env)).any (·.1) = false := by rfl)
    (ht : eval (.Call (.Attribute o m apos) (e :: es) [] pos) X.env = (do
      let ov ← eval o X.env
      standAt apos.atName
      let (f, first) ← holding [ov] (getMethod ov m pl)
      callWith pos f first (backTo pos (starEach (e :: es) X.env)) (backToKw pos (keywordEach [] X.env))) := by rfl) :
    ED X (.Call (.Attribute o m apos) (e :: es) [] pos) Γ d := by
  obtain ⟨to, po, qo⟩ := ho
  obtain ⟨t, p, q⟩ := ha
  refine ⟨_, pe_smeth po S F hr hb hx p hst hpl ht, fun σ H Cc Q r => qo σ H Cc _ fun x H1 e1 h1 => ⟨den_v.mp h1, q σ H1 (Cc.mono e1) _ fun vs H2 e2 h2 => ⟨ds, d, hn, h2, hR, fun v H' e3 h3 => r v H' ((e1.trans e2).trans e3) h3⟩⟩⟩
/-- tuple(list) -/
theorem ed_tupOf {p : Pos} (hm : X.mg "tuple" = none) (ha : ED X a Γ (.lst ds)) (hg : Gl X "tuple" := by rfl) (he : starEach (a :: []) X.env = (false, eval a X.env) :: starEach [] X.env := by rfl) (hpl : (backTo pos (starEach [] X.env)).any (·.1) = false := by rfl) :
    ED X (.Call (.Name "tuple" p) [a] [] pos) Γ (.tup ds) := by
  refine ed_callTy (d := .tup ds) call_tuple_of hm (by decide +kernel) (ad_cons ha ad_nil he) (fun xs H h Q q => ?_) hg (by decide) (by decide) he hpl
  obtain ⟨x, rfl, h1⟩ := denL_one h
  simp only [Den] at h1
  obtain ⟨l, ys, rfl, g1, g2⟩ := h1
  refine ⟨l, ys, rfl, .inl ⟨SqL.of g1, fun m nm => q _ _ (Ex.new nm) ?_⟩⟩
  simp only [Den]
  exact ⟨m, ys, rfl, st_of upd_same, g2.mono (Ex.new nm)⟩
theorem ed_lenT {p : Pos} (hm : X.mg "len" = none) (ha : ED X a Γ (.tup ds)) (hg : Gl X "len" := by rfl) (he : starEach (a :: []) X.env = (false, eval a X.env) :: starEach [] X.env := by rfl) (hpl : (backTo pos (starEach [] X.env)).any (·.1) = false := by rfl) :
    ED X (.Call (.Name "len" p) [a] [] pos) Γ (iD (ds.length : Int)) := by
  refine ed_callB (d := iD (ds.length : Int)) call_len_seq hm PySem.boot_len (ad_cons ha ad_nil he) (fun xs H h Q q => ?_) hg (by decide) (by decide) he hpl
  obtain ⟨x, rfl, h1⟩ := denL_one h
  simp only [Den] at h1
  obtain ⟨p, ys, rfl, hq, hL⟩ := h1
  refine ⟨p, ys, rfl, .inr hq, ?_⟩
  rw [← hL.len]
  exact q _ H (Ex.refl H) (den_v.mpr rfl)
/-- the empty tuple of the written part -/
theorem den_tup0 {K : PySem.W.Frag} {H : Hp} {T : Addr} {od : Option Addr} {m : Nat} {sl : Array (Option Value)} (h : K.lookup T = some ⟨.type "tuple", od, .seq #[] m, sl⟩) : Den K H (.tup []) (.ref T) := by
  simp only [Den]
  exact ⟨T, [], rfl, .inr ⟨_, #[], m, h, rfl, rfl, Nat.zero_le _, .nil⟩, DenL.nil⟩
/-! ### ints of any size to a small power -/
def CPowW (i j : Int) : Prop := 0 ≤ j ∧ j ≤ 100 ∧ i.natAbs < 2 ^ 1000
theorem op_powW : OpR X (binaryOp .Pow) (rI CPowW fun i j => .int (i ^ j.toNat)) := opI fun i j _ _ _ _ _ hc q => PyProof.Rows.pow_int hc.1 (by
  have h1 : i.natAbs.log2 < 1000 := PySem.Flt.log2_lt_of (by decide) hc.2.2
  have h2 : Builtin.Int.intBits i ≤ i.natAbs.log2 + 1 := by
    unfold Builtin.Int.intBits
    split <;> omega
  have h3 : (Builtin.Int.intBits i : Int) ≤ 1000 := by omega
  have h4 := Int.mul_le_mul h3 hc.2.1 hc.1 (by decide)
  omega) q
/-- -o by an own __neg__ -/
theorem ed_negO (M : CmpM X.K C "__neg__" f) (F : FnOk X.prog X.w X.K X.mg X.base CX k f fd ps (spD X.K 1 R)) (hr : Room k X.A) (hb : Binds X.K fd ps []) (hx : Passes CX X E) (ha : ED X a Γ (.obj C fs)) (hR : R [.obj C fs] d) : ED X (.UnaryOp .USub a pos) Γ d := by
  refine ed_un (r := fun x H Q => ∃ a dx fs, x = .ref a ∧ H a = some (.ins C dx fs) ∧ spD X.K 1 R [x] H Q E) ?_ ha ?_
  · intro pins s σ H x v Q I rx h
    obtain ⟨a, dx, fs, rfl, ha, hsp⟩ := h
    cases rx
    obtain ⟨mA, J, _⟩ := ins_get I.hok ha
    obtain ⟨od, J, _⟩ := J.look
    obtain ⟨m, hF⟩ := I.fr
    exact PySem.W.ksp_neg hF I.ok.mod.kin J M.find M.fn (run_in F hr I.env0 hb hx I (vals_r a) hsp)
  · intro x H hx Q q
    have hx' := hx
    obtain ⟨a, dx, gs, rfl, h, _⟩ := den_obj hx
    exact ⟨a, dx, _, rfl, h, _, _, rfl, DenL.cons hx' DenL.nil, hR, q⟩
theorem fd_is {e : Expr} (h : FD X e Γ ds) (q : ds = es') : FD X e Γ es' := q ▸ h
theorem fs_is {i : Nat} {st : Stmt} (h : FS X i st Γ ds) (q : ds = es') : FS X i st Γ es' := q ▸ h
end
section
variable {X : Cx} {Γ : Gm} {ds : List D} {st : Stmt} {sts : List Stmt} {Φ : Out → Prop}
theorem z_asgFS (i : Nat) (he : FS X i st Γ ds) (k : SsD X sts (Γ.set i (some (.lst ds))) Φ) (hi : i < X.N.length := by exact Nat.le_of_ble_eq_true rfl) : SsD X (st :: sts) Γ Φ := by
  refine ss_seq (Ψ := fun o => o = .nx (Γ.set i (some (.lst ds)))) ?_ (fun Γ' h => by
    cases h
    exact k) fun o h1 h2 => absurd h2 (h1 _)
  obtain ⟨t, p, q⟩ := he
  refine ⟨_, p, fun σ H hl C E T => q σ H C _ fun p H1 ys e1 n hL => ?_⟩
  refine T.nx _ _ _ rfl (e1.trans (Ex.new n)) (by rw [List.length_set]; exact hl) ((C.mono (e1.trans (Ex.new n))).set (by rw [hl]; exact hi) ?_)
  simp only [Den]
  exact ⟨p, ys, rfl, upd_same, hL.mono (Ex.new n)⟩
end
end Trk

namespace Trk
open PySem L2 Evl
section
variable {X : Cx} {Γ : Gm} {Ω : Om} {d d1 d2 : D} {ds es' : List D} {a b c e e2 : Expr} {es : List Expr} {pos : Pos} {C f : Addr} {fs : List (Str × D)} {CX : CXT} {n k : Nat} {fd : FuncData} {ps : List Str} {E : XK} {R : List D → D → Prop} {p q : Rat} {st : Stmt} {sts body : List Stmt} {Φ Ψ : Out → Prop}
/-- the ends of a loop's turn -/
abbrev TurnO (X : Cx) (sts : List Stmt) (Φ : Out → Prop) (J : Gm → Prop) : Out → Prop := fun o => (∃ Γ'', (o = .nx Γ'' ∨ o = .ct Γ'') ∧ J Γ'') ∨ (∃ d, o = .rt d ∧ Φ (.rt d)) ∨ (∃ Γ'', o = .bk Γ'' ∧ SsD X sts Γ'' Φ) ∨ ∃ c fs Γ'', o = .ex c fs Γ'' ∧ Φ (.ex c fs Γ'')
/-- for x, y in zip(a, b) -/
theorem z_forZ (i1 i2 : Nat) {x y : Str} {p1 p2 p3 p4 tp : Pos} {kk : Nat} (J : Nat → Gm → Prop) (hc : X.calm = true) (hm : X.mg "zip" = none) (ha : ED X e Γ (.lst ds)) (hb : ED X e2 Γ (.lst es')) (hd : X.N.Nodup) (h0 : J 0 Γ)
    (hs : ∀ j dj ej Γ', ds[j]? = some dj → es'[j]? = some ej → J j Γ' → SsD X body ((Γ'.set i1 (some dj)).set i2 (some ej)) (TurnO X sts Φ (J (j + 1))))
    (k : ∀ Γ', J (min ds.length es'.length) Γ' → SsD X sts Γ' Φ) (hp : PassesOwn (model X.prog X.w) X.A X.env X.xe := by exact PassesOwn.never) (hN : X.N[i1]? = some x := by rfl) (hN2 : X.N[i2]? = some y := by rfl) (hx : Loc X.env.scope x := by first | exact Or.inl rfl | exact Or.inr rfl) (hy : Loc X.env.scope y := by first | exact Or.inl rfl | exact Or.inr rfl)
    (hg : Gl X "zip" := by rfl) (hst : starEach [e, e2] X.env = (false, eval e X.env) :: starEach [e2] X.env := by rfl) (hs1 : starEach (e2 :: []) X.env = (false, eval e2 X.env) :: starEach [] X.env := by rfl) (hpl : (backTo p2 (starEach [e2] X.env)).any (·.1) = false := by rfl)
    (hf : X.fn x = true ∨ X.env.scope.names.lookup x = some .local := by first | exact .inl rfl | exact .inr rfl) (hf2 : X.fn y = true ∨ X.env.scope.names.lookup y = some .local := by first | exact .inl rfl | exact .inr rfl)
    (hpg : ∀ {t u : TG}, PG X (.Name x p3) t → PG X (.Name y p4) u → PG X (.Tuple [.Name x p3, .Name y p4] kk tp) (gTup X.K 2 (gCons t (gCons u gNil))) := by intro _ _ h1 h2; exact pg_tup rfl (pgs_cons h1 (pgs_cons h2 pgs_nil)))
    (hfs : ∀ x, foldedSetIterable (.Call (.Name "zip" p1) [e, e2] [] p2) X.env x = pure x := by intro _; rfl) : SsD X (.For (.Tuple [.Name x p3, .Name y p4] kk tp) (.Call (.Name "zip" p1) [e, e2] [] p2) body [] pos :: sts) Γ Φ := by
  obtain ⟨ta, pa, qa⟩ := ha
  obtain ⟨tb, pb, qb⟩ := hb
  refine ⟨_, pss_cons (ps_for hp hc (pi_zip hg hm (pa_cons pa (pa_cons pb pa_nil hs1) hst) hst hpl) (hpg (pg_name (i := i1) hd hN hx hf) (pg_name (i := i2) hd hN2 hy hf2)) (pss_all (st' := body)) hfs) (pss_all (st' := sts)), fun σ H hl C E T => ?_⟩
  refine qa σ H C _ fun v H1 e1 h1 => qb σ H1 (C.mono e1) _ fun w H2 e3 h2 => ?_
  have h1' := h1.mono e3
  simp only [Den] at h1' h2
  obtain ⟨l, xs, rfl, hq, hL⟩ := h1'
  obtain ⟨m, ys, rfl, hq2, hM⟩ := h2
  refine ⟨l, m, xs, ys, rfl, SqL.of hq, SqL.of hq2, ?_⟩
  have hi1 : i1 < X.N.length := (List.getElem?_eq_some_iff.mp hN).1
  have hi2 : i2 < X.N.length := (List.getElem?_eq_some_iff.mp hN2).1
  have e12 : Ex H H2 := e1.trans e3
  refine for_it (walk_zip (K := X.K) (a := l) (b := m) (xs := xs) (ys := ys) (n := min ds.length es'.length) (by rw [hL.len, hM.len])) (fun j σ' H' => ∃ Γ', J j Γ' ∧ σ'.length = X.N.length ∧ Ctx X.K H' Γ' σ' ∧ Ex H2 H') ⟨Γ, h0, hl, C.mono e12, Ex.refl H2⟩ (fun j σ' H' _ ⟨Γ', _, _, _, g4⟩ => ⟨SqL.of (g4 _ _ hq), SqL.of (g4 _ _ hq2)⟩) ?_ ?_
  · rintro j z σ' H' H'' hj ⟨Γ', g1, g2, g3, g4⟩ ⟨T0, x0, y0, rfl, hT, rfl, hxj, hyj⟩
    have hj1 : j < ds.length := by omega
    have hj2 : j < es'.length := by omega
    obtain ⟨x2, hx2, hdx⟩ := hL.get (i := j) (d := ds[j]) (List.getElem?_eq_getElem hj1)
    obtain ⟨y2, hy2, hdy⟩ := hM.get (i := j) (d := es'[j]) (List.getElem?_eq_getElem hj2)
    have hxj' : xs[j]? = some x0 := hxj
    have hyj' : ys[j]? = some y0 := hyj
    rw [hx2] at hxj'
    rw [hy2] at hyj'
    cases hxj'
    cases hyj'
    have up : Ex H2 (upd H' T0 (.tup [x0, y0])) := g4.trans (Ex.new hT)
    refine ⟨T0, [x0, y0], rfl, st_of upd_same, rfl, x0, [y0], rfl, y0, [], rfl, rfl, ?_⟩
    show allS X body _ ((σ'.set i1 (some x0)).set i2 (some y0)) (upd H' T0 (.tup [x0, y0]))
    refine (hs j ds[j] es'[j] Γ' (List.getElem?_eq_getElem hj1) (List.getElem?_eq_getElem hj2) g1).all (by rw [List.length_set, List.length_set]; exact g2) (((g3.mono (Ex.new hT)).set (by rw [g2]; exact hi1) (hdx.mono up)).set (by rw [List.length_set, g2]; exact hi2) (hdy.mono up)) ?_
    refine ⟨fun Γ'' σ2 H2 z e2 l2 c2 => ?_, fun d v H2 z e2 hv => ?_, fun Γ'' σ2 H2 z e2 l2 c2 => ?_, fun Γ'' σ2 H2 z e2 l2 c2 => ?_, fun cl fs Γ'' d σ2 H2 z e2 l2 c2 x2 => ?_⟩
    · rcases z with ⟨Γ3, z | z, w⟩ | ⟨_, z, _⟩ | ⟨_, z, _⟩ | ⟨_, _, _, z, _⟩ <;> cases z
      exact ⟨Γ'', w, l2, c2, up.trans e2⟩
    · rcases z with ⟨Γ3, z | z, w⟩ | ⟨_, z, w⟩ | ⟨_, z, _⟩ | ⟨_, _, _, z, _⟩ <;> cases z
      exact T.rt d v H2 w ((e12.trans up).trans e2) hv
    · rcases z with ⟨Γ3, z | z, w⟩ | ⟨_, z, w⟩ | ⟨_, z, w⟩ | ⟨_, _, _, z, _⟩ <;> cases z
      exact w.all l2 c2 (T.mono ((e12.trans up).trans e2))
    · rcases z with ⟨Γ3, z | z, w⟩ | ⟨_, z, w⟩ | ⟨_, z, w⟩ | ⟨_, _, _, z, _⟩ <;> cases z
      exact ⟨Γ'', w, l2, c2, up.trans e2⟩
    · rcases z with ⟨Γ3, z | z, w⟩ | ⟨_, z, w⟩ | ⟨_, z, w⟩ | ⟨_, _, _, z, w⟩ <;> cases z
      exact T.ex cl fs Γ'' d σ2 H2 w ((e12.trans up).trans e2) l2 c2 x2
  · rintro σ' H' ⟨Γ', g1, g2, g3, g4⟩
    exact (k Γ' g1).all g2 g3 (T.mono (e12.trans g4))
/-! ### a sign of an own class, both of the class -/
theorem op_ownP {f : Addr} {sp : Sp} {op : Operator} (h1 : PySem.W.selfFirst X.K C = true) (h2 : PySem.W.findIn X.K (.ref C) (PySem.dunder op.info.2) = some (some (.ref f))) (h3 : PySem.W.isFn X.K (.ref f) = true)
    (F : FnOk X.prog X.w X.K X.mg X.base CX k f fd ps sp) (hr : Room k X.A) (hb : Binds X.K fd ps []) (hx : Passes CX X E) : OpR X (binaryOp op) (rOwn C sp E) := by
  intro pins s σ H x y v u Q I rx ry h
  obtain ⟨a, b, dx, dy, fs, gs, rfl, rfl, ha, hb', hsp⟩ := h
  cases rx
  cases ry
  obtain ⟨mA, J, _⟩ := ins_get I.hok ha
  obtain ⟨mB, J', _⟩ := ins_get I.hok hb'
  obtain ⟨od, J, _⟩ := J.look
  obtain ⟨od', J', _⟩ := J'.look
  obtain ⟨m, hF⟩ := I.fr
  exact PySem.W.binop_K hF I.ok.mod.kin J J'.type h1 h2 h3 (back_of F hr hb hx I (vals_rr a b) hsp)
/-! ### is None -/
theorem rd_isN {K : PySem.W.Frag} (hd : d = .v .non) : RD K (fun x y H Q => y = .non ∧ Q (.bl (decide (x = .non))) H) d (.v .non) (bD true) := fun x y H h1 h2 Q q => by
  subst hd
  rw [den_v.mp h1, den_v.mp h2]
  exact ⟨rfl, q _ H (Ex.refl H) (den_v.mpr rfl)⟩
theorem rd_isT {K : PySem.W.Frag} {xs : List D} : RD K (fun x y H Q => y = .non ∧ Q (.bl (decide (x = .non))) H) (.tup xs) (.v .non) (bD false) := fun x y H h1 h2 Q q => by
  rw [den_v.mp h2]
  simp only [Den] at h1
  obtain ⟨a, ys, rfl, _⟩ := h1
  exact ⟨rfl, q _ H (Ex.refl H) (den_v.mpr rfl)⟩
theorem rd_isL {K : PySem.W.Frag} {xs : List D} : RD K (fun x y H Q => y = .non ∧ Q (.bl (decide (x = .non))) H) (.lst xs) (.v .non) (bD false) := fun x y H h1 h2 Q q => by
  rw [den_v.mp h2]
  simp only [Den] at h1
  obtain ⟨a, ys, rfl, _⟩ := h1
  exact ⟨rfl, q _ H (Ex.refl H) (den_v.mpr rfl)⟩
end
theorem rd_B {K : PySem.W.Frag} {g : Int → Int → Bool} {i j : Int} {k : Bool} (h : g i j = k) : RD K (rI0 fun i j => .bl (g i j)) (iD i) (iD j) (bD k) := by
  subst h
  exact rd_I0
theorem ab_eq (i : Int) : (if i < 0 then -i else i) = (i.natAbs : Int) := by split <;> omega
end Trk

/-! A method called by position that may raise; for over a range that counts down, beside own lists. -/
namespace Trk
open PySem L2 Evl
section
variable {X : Cx} {C : Addr} {Γ : Gm} {pos : Pos} {d d1 d2 : D}
def tMethS (C : Addr) (m : Str) (sp : Sp) (E : L2.St → XK) (ta : TE) (tk : TA) : TE := fun σ H Q => ta σ H fun x H1 => ∃ a dx fs, x = .ref a ∧ H1 a = some (.ins C dx fs) ∧ fs.lookup m = none ∧
  tk σ H1 fun zs H2 => sp (x :: zs) H2 Q (E σ)
theorem pe_methS {CX : CXT} {k : Nat} {f : Addr} {fd : FuncData} {ps : List Str} {sp : Sp} {E : L2.St → XK} {pl : Sem Bool} {o e : Expr} {es : List Expr} {m : Str} {apos : Pos} {ta : TE} {t : TA}
    (he : PE X o ta) (c : Cls X.K C) (hm : Meth X.K C m f) (F : FnOk X.prog X.w X.K X.mg X.base CX k f fd ps sp) (hr : Room k X.A) (hb : Binds X.K fd ps []) (pa : ∀ σ, PassesAt CX X σ (E σ)) (ha : PA X (e :: es) t)
    (hst : starEach (e :: es) X.env = (false, eval e X.env) :: starEach es X.env := by rfl) (hpl : (backTo pos (starEach es X.env)).any (·.1) = false := by rfl)
    (ht : eval (.Call (.Attribute o m apos) (e :: es) [] pos) X.env = (do
      let ov ← eval o X.env
      standAt apos.atName
      let (f, first) ← holding [ov] (getMethod ov m pl)
      callWith pos f first (backTo pos (starEach (e :: es) X.env)) (backToKw pos (keywordEach [] X.env))) := by rfl) :
    PE X (.Call (.Attribute o m apos) (e :: es) [] pos) (tMethS C m sp E ta t) := by
  refine ⟨fun pins s σ H Q I h => ?_⟩
  refine PySem.W.methodCall_KW (pl := pl) (thn (he.run pins s σ H _ I h) fun u s1 got => ?_) ht
  obtain ⟨x, H1, I1, rx, a, dx, fs, ex, ea, l, q⟩ := got
  subst ex
  obtain rfl : u = Value.ref a := rx
  refine getmeth_ok I1 ea c hm l ?_
  refine PySem.W.callWith_K (first := [.ref a]) (h₀ := X.base) I.ok.mod.kin hm.kp (thn (ha.run pos pins _ σ H1 _ I1 q) fun us s2 ⟨vs, H2, I2, rz, q2⟩ => ⟨I2.kIn, ?_⟩) hst hpl
  have rel : Vals (.ref a :: vs) ([.ref a] ++ us) := .cons (show RelV (V.ref a) (Value.ref a) from rfl) rz
  have bound := hb s2 ([Value.ref a] ++ us) I2.kIn (by
    rw [List.append_nil, ← rel.length]
    exact F.len _ _ _ _ q2)
  rw [List.append_nil] at bound
  refine wpAny_call (codeAny_mono (F.run X.A X.stack s2 H2 ⟨[Value.ref a] ++ us, []⟩ _ _ Q (E σ) hr I2.env0 bound rel q2) fun res s' out => ?_)
  rcases res with err | fl
  · exact pa σ pins H2 s2 err s' I2 out
  · cases fl with
    | ret u => exact I2.after out
    | next => exact out.elim
    | brk => exact out.elim
    | cont => exact out.elim
/-- o.m(e) that may raise -/
theorem pos_one {k : Nat} {f : Addr} {fd : FuncData} {ps : List Str} {R : List D → D → Prop} {RX : List D → Value → List (Str × D) → Prop} {pl : Sem Bool} {o e : Expr} {m : Str} {apos : Pos} {fs : List (Str × D)}
    (ho : ED X o Γ (.obj C fs)) (hl : ∀ {H gs}, DenF X.K H fs gs → gs.lookup m = none) (c : Cls X.K C) (hm : Meth X.K C m f) (F : FnOk X.prog X.w X.K X.mg X.base (L2.CX X.prog X.w) k f fd ps (spX X.K 2 R RX)) (hr : Room k X.A) (hb : Binds X.K fd ps []) (hv : ED X e Γ d2)
    (hst : starEach (e :: []) X.env = (false, eval e X.env) :: starEach [] X.env := by rfl) (hpl : (backTo pos (starEach [] X.env)).any (·.1) = false := by rfl)
    (ht : eval (.Call (.Attribute o m apos) [e] [] pos) X.env = (do
      let ov ← eval o X.env
      standAt apos.atName
      let (f, first) ← holding [ov] (getMethod ov m pl)
      callWith pos f first (backTo pos (starEach [e] X.env)) (backToKw pos (keywordEach [] X.env))) := by rfl) :
    (∀ d, R [.obj C fs, d2] d → ED X (.Call (.Attribute o m apos) [e] [] pos) Γ d) ∧ ∀ cls xs, RX [.obj C fs, d2] cls xs → XD X (.Call (.Attribute o m apos) [e] [] pos) Γ cls xs := by
  obtain ⟨ta, pa, qa⟩ := ho
  obtain ⟨tv, pv, qv⟩ := hv
  have P := pe_methS pa c hm F hr hb (fun σ => passW) (pa_cons pv pa_nil hst) hst hpl ht
  constructor
  · intro d hR
    refine ⟨_, P, fun σ H Cc Q r => qa σ H Cc _ fun x H1 e1 h1 => ?_⟩
    have h1' := h1
    simp only [Den] at h1'
    obtain ⟨a, dx, gs, rfl, ha, hF⟩ := h1'
    exact ⟨a, dx, gs, rfl, ha, hl hF, qv σ H1 (Cc.mono e1) _ fun y H2 e2 h2 => ⟨_, rfl, DenL.cons (h1.mono e2) (DenL.cons h2 DenL.nil), .inl ⟨d, hR, fun v H' e3 h3 => r v H' ((e1.trans e2).trans e3) h3⟩⟩⟩
  · intro cls xs hR
    refine ⟨_, P, fun σ H Cc r Q => qa σ H Cc _ fun x H1 e1 h1 => ?_⟩
    have h1' := h1
    simp only [Den] at h1'
    obtain ⟨a, dx, gs, rfl, ha, hF⟩ := h1'
    exact ⟨a, dx, gs, rfl, ha, hl hF, qv σ H1 (Cc.mono e1) _ fun y H2 e2 h2 => ⟨_, rfl, DenL.cons (h1.mono e2) (DenL.cons h2 DenL.nil), .inr ⟨cls, xs, hR, fun d H' e3 h3 => r d H' ((e1.trans e2).trans e3) h3⟩⟩⟩
end
section
variable {X : Cx} {Γ : Gm} {Ω : Om} {pos : Pos} {a b c : Expr} {sts body : List Stmt} {Φ : OutO → Prop}
/-- for x in range(i, j, c) -/
theorem so_forRC (i : Nat) {x : Str} {lo hi st : Int} {n : Nat} {p1 p2 p3 : Pos} (J : Nat → Gm → Om → Prop) (hc : X.calm = true) (hm : X.mg "range" = none) (ha : ED X a (pl Ω Γ) (iD lo)) (hb : ED X b (pl Ω Γ) (iD hi)) (hcc : ED X c (pl Ω Γ) (iD st)) (hd : X.N.Nodup) (hn : RgC lo hi st n) (h0 : J 0 Γ Ω) (ho : ∀ k Γ' Ω', J k Γ' Ω' → ∀ j es, (j, es) ∈ Ω' → j ≠ i)
    (hs : ∀ j Γ' Ω', j < n → J j Γ' Ω' → SO X body (Γ'.set i (some (iD (lo + (j : Nat) * st)))) Ω' (fun o => (∃ Γ2 Ω2, (o = .nx Γ2 Ω2 ∨ o = .ct Γ2 Ω2) ∧ J (j + 1) Γ2 Ω2) ∨ (∃ d, o = .rt d ∧ Φ (.rt d)) ∨ (∃ Γ2 Ω2, o = .bk Γ2 Ω2 ∧ SO X sts Γ2 Ω2 Φ) ∨ ∃ c fs Γ2 Ω2, o = .ex c fs Γ2 Ω2 ∧ Φ (.ex c fs Γ2 Ω2)))
    (k : ∀ Γ' Ω', J n Γ' Ω' → SO X sts Γ' Ω' Φ) (hp : PassesOwn (model X.prog X.w) X.A X.env X.xe := by exact PassesOwn.never) (hN : X.N[i]? = some x := by rfl) (hx : Loc X.env.scope x := by first | exact Or.inl rfl | exact Or.inr rfl) (hg : Gl X "range" := by rfl)
    (hse : starEach (a :: b :: c :: []) X.env = (false, eval a X.env) :: starEach (b :: c :: []) X.env := by rfl) (hse2 : starEach (b :: c :: []) X.env = (false, eval b X.env) :: starEach (c :: []) X.env := by rfl) (hse3 : starEach (c :: []) X.env = (false, eval c X.env) :: starEach [] X.env := by rfl)
    (hpl : (backTo p2 (starEach (b :: c :: []) X.env)).any (·.1) = false := by rfl)
    (hf : X.fn x = true ∨ X.env.scope.names.lookup x = some .local := by first | exact .inl rfl | exact .inr rfl)
    (hfs : ∀ x, foldedSetIterable (.Call (.Name "range" p1) [a, b, c] [] p2) X.env x = pure x := by intro _; rfl) : SO X (.For (.Name x p3) (.Call (.Name "range" p1) [a, b, c] [] p2) body [] pos :: sts) Γ Ω Φ := by
  obtain ⟨ta, pa, qa⟩ := ha
  obtain ⟨tb, pb, qb⟩ := hb
  obtain ⟨tc, pc, qc⟩ := hcc
  intro σ F H as hl C E T
  refine all_cons (ps_for hp hc (pi_range3 hg hm (pa_cons pa (pa_cons pb (pa_cons pc pa_nil hse3) hse2) hse) hse hpl) (pg_name (i := i) hd hN hx hf) (pss_all (st' := body)) hfs) (qa σ H C.read _ fun v H1 e1 h1 => qb σ H1 (C.read.mono e1) _ fun v2 H2 e2' h2 => qc σ H2 ((C.read.mono e1).mono e2') _ fun v3 H3 e3' h3 => ?_)
  refine ⟨lo, hi, st, n, by rw [den_v.mp h1, den_v.mp h2, den_v.mp h3], hn, ?_⟩
  obtain ⟨e2, C2, _⟩ := C.grow ((e1.trans e2').trans e3')
  refine for_rangeC (lo := lo) (c := st) (n := n) (fun j σ' H' => ∃ Γ' Ω' F' as', J j Γ' Ω' ∧ σ'.length = X.N.length ∧ COwn X.K F' H' Γ' Ω' as' σ' ∧ Ex (wo H3 as) F') ⟨Γ, Ω, wo H3 as, as, h0, hl, C2, Ex.refl _⟩ ?_ ?_
  · rintro j σ' H' hj ⟨Γ', Ω', F', as', g1, g2, g3, g4⟩
    show allS X body _ (σ'.set i (some (.int (lo + (j : Nat) * st)))) H'
    refine hs j Γ' Ω' hj g1 _ F' H' as' (by rw [List.length_set]; exact g2) (g3.put (ho j Γ' Ω' g1) (slot_lt hN g2) (den_v.mpr rfl)) _ ?_
    refine ⟨fun Γ2 Ω2 σ2 F2 H2 as2 z e3 l2 c2 => ?_, fun d v H2 z e3 hv => ?_, fun Γ2 Ω2 σ2 F2 H2 as2 z e3 l2 c2 => ?_, fun Γ2 Ω2 σ2 F2 H2 as2 z e3 l2 c2 => ?_, fun cl fs Γ2 Ω2 d σ2 F2 H2 as2 z e3 l2 c2 x2 => ?_⟩
    · rcases z with ⟨Γ3, Ω3, z | z, w⟩ | ⟨_, z, _⟩ | ⟨_, _, z, _⟩ | ⟨_, _, _, _, z, _⟩ <;> cases z
      exact ⟨Γ2, Ω2, F2, as2, w, l2, c2, g4.trans e3⟩
    · rcases z with ⟨Γ3, Ω3, z | z, w⟩ | ⟨_, z, w⟩ | ⟨_, _, z, _⟩ | ⟨_, _, _, _, z, _⟩ <;> cases z
      exact T.rt d v H2 w ((e2.trans g4).trans e3) hv
    · rcases z with ⟨Γ3, Ω3, z | z, w⟩ | ⟨_, z, w⟩ | ⟨_, _, z, w⟩ | ⟨_, _, _, _, z, _⟩ <;> cases z
      exact w σ2 F2 H2 as2 l2 c2 E (T.mono ((e2.trans g4).trans e3))
    · rcases z with ⟨Γ3, Ω3, z | z, w⟩ | ⟨_, z, w⟩ | ⟨_, _, z, w⟩ | ⟨_, _, _, _, z, _⟩ <;> cases z
      exact ⟨Γ2, Ω2, F2, as2, w, l2, c2, g4.trans e3⟩
    · rcases z with ⟨Γ3, Ω3, z | z, w⟩ | ⟨_, z, w⟩ | ⟨_, _, z, w⟩ | ⟨_, _, _, _, z, w⟩ <;> cases z
      exact T.ex cl fs Γ2 Ω2 d σ2 F2 H2 as2 w ((e2.trans g4).trans e3) l2 c2 x2
  · rintro σ' H' ⟨Γ', Ω', F', as', g1, g2, g3, g4⟩
    exact k Γ' Ω' g1 σ' F' H' as' g2 g3 E (T.mono (e2.trans g4))
theorem rgc_down {lo hi : Int} {n : Nat} (h : (n : Int) = lo - hi) (h1 : lo < 2 ^ 61) (h2 : -(2 ^ 61) < hi) : RgC lo hi (-1) n := by
  have z := RgC.neg (i := lo) (j := hi) (by omega) (by omega) (by omega) (by omega)
  rwa [show (lo - hi).toNat = n by omega] at z
end
end Trk

/-! for over enumerate by values; try beside own lists. -/
namespace Trk
open PySem L2 Evl
section
variable {X : Cx} {Γ : Gm} {Ω : Om} {d d1 d2 : D} {ds es' : List D} {a b c e e2 : Expr} {es : List Expr} {pos : Pos} {C f : Addr} {fs : List (Str × D)} {CX : CXT} {n k : Nat} {fd : FuncData} {ps : List Str} {E : XK} {R : List D → D → Prop} {p q : Rat} {st : Stmt} {sts body : List Stmt} {Φ Ψ : Out → Prop}
/-- for x, y in enumerate(a) -/
theorem z_forE (i1 i2 : Nat) {x y : Str} {p1 p2 p3 p4 tp : Pos} {kk : Nat} (J : Nat → Gm → Prop) (hc : X.calm = true) (hm : X.mg "enumerate" = none) (ha : ED X e Γ (.lst ds)) (hd : X.N.Nodup) (h0 : J 0 Γ)
    (hs : ∀ j dj Γ', ds[j]? = some dj → J j Γ' → SsD X body ((Γ'.set i1 (some (iD (j : Int)))).set i2 (some dj)) (TurnO X sts Φ (J (j + 1))))
    (k : ∀ Γ', J ds.length Γ' → SsD X sts Γ' Φ) (hp : PassesOwn (model X.prog X.w) X.A X.env X.xe := by exact PassesOwn.never) (hN : X.N[i1]? = some x := by rfl) (hN2 : X.N[i2]? = some y := by rfl) (hx : Loc X.env.scope x := by first | exact Or.inl rfl | exact Or.inr rfl) (hy : Loc X.env.scope y := by first | exact Or.inl rfl | exact Or.inr rfl)
    (hg : Gl X "enumerate" := by rfl) (hst : starEach [e] X.env = [(false, eval e X.env)] := by rfl) (hs1 : starEach (e :: []) X.env = (false, eval e X.env) :: starEach [] X.env := by rfl)
    (hf : X.fn x = true ∨ X.env.scope.names.lookup x = some .local := by first | exact .inl rfl | exact .inr rfl) (hf2 : X.fn y = true ∨ X.env.scope.names.lookup y = some .local := by first | exact .inl rfl | exact .inr rfl)
    (hpg : ∀ {t u : TG}, PG X (.Name x p3) t → PG X (.Name y p4) u → PG X (.Tuple [.Name x p3, .Name y p4] kk tp) (gTup X.K 2 (gCons t (gCons u gNil))) := by intro _ _ h1 h2; exact pg_tup rfl (pgs_cons h1 (pgs_cons h2 pgs_nil)))
    (hfs : ∀ x, foldedSetIterable (.Call (.Name "enumerate" p1) [e] [] p2) X.env x = pure x := by intro _; rfl) : SsD X (.For (.Tuple [.Name x p3, .Name y p4] kk tp) (.Call (.Name "enumerate" p1) [e] [] p2) body [] pos :: sts) Γ Φ := by
  obtain ⟨ta, pa, qa⟩ := ha
  refine ⟨_, pss_cons (ps_for hp hc (pi_enum hg hm (pa_cons pa pa_nil hs1) hst) (hpg (pg_name (i := i1) hd hN hx hf) (pg_name (i := i2) hd hN2 hy hf2)) (pss_all (st' := body)) hfs) (pss_all (st' := sts)), fun σ H hl C E T => ?_⟩
  refine qa σ H C _ fun v H2 e12 h1' => ?_
  simp only [Den] at h1'
  obtain ⟨l, xs, rfl, hq, hL⟩ := h1'
  refine ⟨l, xs, rfl, SqL.of hq, ?_⟩
  have hi1 : i1 < X.N.length := (List.getElem?_eq_some_iff.mp hN).1
  have hi2 : i2 < X.N.length := (List.getElem?_eq_some_iff.mp hN2).1
  refine for_it (walk_enum (K := X.K) (a := l) (xs := xs)) (fun j σ' H' => ∃ Γ', J j Γ' ∧ σ'.length = X.N.length ∧ Ctx X.K H' Γ' σ' ∧ Ex H2 H') ⟨Γ, h0, hl, C.mono e12, Ex.refl H2⟩ (fun j σ' H' _ ⟨Γ', _, _, _, g4⟩ => SqL.of (g4 _ _ hq)) ?_ ?_
  · rintro j z σ' H' H'' hj ⟨Γ', g1, g2, g3, g4⟩ ⟨T0, x0, y0, rfl, hT, rfl, hxj, hyj⟩
    have hj1 : j < ds.length := by rw [hL.len]; exact hj
    obtain ⟨y2, hy2, hdy⟩ := hL.get (i := j) (d := ds[j]) (List.getElem?_eq_getElem hj1)
    have hxj' : some (V.int (j : Nat)) = some x0 := hxj
    have hyj' : xs[j]? = some y0 := hyj
    rw [hy2] at hyj'
    cases hxj'
    cases hyj'
    have hdx : ∀ H0 : Hp, Den X.K H0 (iD (j : Int)) (.int (j : Nat)) := fun H0 => den_v.mpr rfl
    have up : Ex H2 (upd H' T0 (.tup [.int (j : Nat), y0])) := g4.trans (Ex.new hT)
    refine ⟨T0, [.int (j : Nat), y0], rfl, st_of upd_same, rfl, .int (j : Nat), [y0], rfl, y0, [], rfl, rfl, ?_⟩
    show allS X body _ ((σ'.set i1 (some (.int (j : Nat)))).set i2 (some y0)) (upd H' T0 (.tup [.int (j : Nat), y0]))
    refine (hs j ds[j] Γ' (List.getElem?_eq_getElem hj1) g1).all (by rw [List.length_set, List.length_set]; exact g2) (((g3.mono (Ex.new hT)).set (by rw [g2]; exact hi1) (hdx _)).set (by rw [List.length_set, g2]; exact hi2) (hdy.mono up)) ?_
    refine ⟨fun Γ'' σ2 H2 z e2 l2 c2 => ?_, fun d v H2 z e2 hv => ?_, fun Γ'' σ2 H2 z e2 l2 c2 => ?_, fun Γ'' σ2 H2 z e2 l2 c2 => ?_, fun cl fs Γ'' d σ2 H2 z e2 l2 c2 x2 => ?_⟩
    · rcases z with ⟨Γ3, z | z, w⟩ | ⟨_, z, _⟩ | ⟨_, z, _⟩ | ⟨_, _, _, z, _⟩ <;> cases z
      exact ⟨Γ'', w, l2, c2, up.trans e2⟩
    · rcases z with ⟨Γ3, z | z, w⟩ | ⟨_, z, w⟩ | ⟨_, z, _⟩ | ⟨_, _, _, z, _⟩ <;> cases z
      exact T.rt d v H2 w ((e12.trans up).trans e2) hv
    · rcases z with ⟨Γ3, z | z, w⟩ | ⟨_, z, w⟩ | ⟨_, z, w⟩ | ⟨_, _, _, z, _⟩ <;> cases z
      exact w.all l2 c2 (T.mono ((e12.trans up).trans e2))
    · rcases z with ⟨Γ3, z | z, w⟩ | ⟨_, z, w⟩ | ⟨_, z, w⟩ | ⟨_, _, _, z, _⟩ <;> cases z
      exact ⟨Γ'', w, l2, c2, up.trans e2⟩
    · rcases z with ⟨Γ3, z | z, w⟩ | ⟨_, z, w⟩ | ⟨_, z, w⟩ | ⟨_, _, _, z, w⟩ <;> cases z
      exact T.ex cl fs Γ'' d σ2 H2 w ((e12.trans up).trans e2) l2 c2 x2
  · rintro σ' H' ⟨Γ', g1, g2, g3, g4⟩
    rw [← hL.len] at g1
    exact (k Γ' g1).all g2 g3 (T.mono (e12.trans g4))
end
section
variable {X : Cx} {Γ : Gm} {Ω : Om} {sts body : List Stmt} {pos : Pos} {Φ Ψ : OutO → Prop}
/-- try beside own lists, where nothing is raised -/
theorem so_tryN (i : Nat) {x n : Str} {C : Addr} {b₀ : Stmt} {suite : List Stmt} {np pos' : Pos} (hs : X.stack = X.env :: X.outer) (hf : X.env.frame = some X.env.locals) (hd : X.N.Nodup) (hc : Names X x (.ref C))
    (hb : ∀ pn xe, PassesOwn (model X.prog X.w) X.A X.env xe → SO (X.tr pn xe) body Γ Ω Ψ) (hn : ∀ Γ' Ω', Ψ (.nx Γ' Ω') → SO X sts Γ' Ω' Φ) (ho : ∀ o, (∀ Γ' Ω', o ≠ .nx Γ' Ω') → ¬ Ψ o)
    (hN : X.N[i]? = some n := by rfl) (hln : X.env.kindOf n = some .local := by rfl) :
    SO X (.Try body [.ExceptHandler (some (.Name x np)) (some n) (b₀ :: suite) pos'] [] [] pos :: sts) Γ Ω Φ := by
  intro σ F H as hl C0 E T
  refine all_cons (ps_try_as (i := i) hs hf hd hN hln hc (tk0 (X := X)) (tb := bodyT X body) (ts := suiteT X (b₀ :: suite)) (fun W pn xe tk hp => ⟨fun pins s σ H E I h => h pn xe tk hp pins s I⟩)
    (fun a oe cls d pn hz hfl => ⟨fun pins s σ H E I h => h oe pn hz hfl pins s I⟩)) ?_
  intro pn xe tk hp
  exact hb pn xe hp σ F H as hl C0 _ ⟨fun Γ' Ω' σ' F' H' as' z e l c => (hn _ _ z) σ' F' H' as' l c E (T.mono e), fun d v H' z => absurd z (ho _ fun _ _ w => by cases w), fun Γ' Ω' σ' F' H' as' z => absurd z (ho _ fun _ _ w => by cases w), fun Γ' Ω' σ' F' H' as' z => absurd z (ho _ fun _ _ w => by cases w), fun c fs Γ' Ω' d σ' F' H' as' z => absurd z (ho _ fun _ _ w => by cases w)⟩
end
section
variable {X : Cx} {Γ : Gm} {pos p2 : Pos} {a b : Expr} {ds : List D}
theorem cut_to1 {xs : List V} : L2.cutV xs none (some (-1)) = xs.take (xs.length - 1) := by
  have e : HT.sIx xs.length xs.length (some (-1)) = xs.length - 1 := by
    show (if (-1 : Int) < 0 then ((-1 : Int) + (xs.length : Int)).toNat else min (-1 : Int).toNat xs.length) = _
    rw [if_pos (by decide)]
    omega
  unfold L2.cutV
  rw [HT.sIx_none, e, List.drop_zero, Nat.sub_zero]
/-- xs[:-1] -/
theorem fd_cutEnd (ha : ED X a Γ (.lst ds)) (hb : ED X b Γ (iD (-1))) : FD X (.Subscript a (.Slice none (some b) none p2) pos) Γ (ds.take (ds.length - 1)) := by
  obtain ⟨ta, pa, qa⟩ := ha
  obtain ⟨tb, pb, qb⟩ := hb
  refine ⟨_, pe_slice sl_list pa po_none (po_some pb), fun σ H Cc Q k => qa σ H Cc _ fun x H1 e1 h1 => ?_⟩
  refine qb σ H1 (Cc.mono e1) _ fun y H2 e2 h2 => ?_
  have h1' := h1.mono e2
  simp only [Den] at h1'
  obtain ⟨l, xs, rfl, g1, g2⟩ := h1'
  refine ⟨(-1 : Int), den_v.mp h2, l, xs, rfl, SqL.of g1, fun p np => ?_⟩
  rw [cut_to1]
  refine k p H2 _ (e1.trans e2) np ?_
  rw [← g2.len]
  exact denL_take g2
end
section
variable {X : Cx} {es : List Expr} {e : Expr} {pos : Pos}
theorem new_atK {CX : CXT} {k : Nat} {f C : Addr} {fd : FuncData} {ps ks : List Str} {sp : Sp} {E : XK} {pins : List (Addr × Obj)} {σ : L2.St} {H : Hp} {s : Shared} {Q : VK} {ws : List Value} {zs : List V} {g : List Value → List Value → List Value} {gV : List V → List V → List V} (M : Mk X.K C f) (F : FnOk X.prog X.w X.K X.mg X.base CX k f fd ps sp)
    (hr : Room (k + 1) X.A) (hb : KBn X.K fd ps 1 ks g gV) (pa : PassesAt CX X σ E) (I : Inv X pins σ H s) (r : Vals zs ws) (lz : zs.length = ks.length)
    (go : ∀ x dx, H x = none → H dx = none → dx ≠ x → sp (gV [.ref x] zs) (upd (upd H dx (.own x)) x (.ins C dx [])) (fun v H2 => v = .non ∧ Q (.ref x) H2) E) : wpAny (model X.prog X.w) X.A (call (.ref C) [] (ks.zip ws)) (EP X pins σ Q) X.xe s := by
  let n := s.heap.objs.size
  have J : Inv X pins σ _ _ := Inv.made (C := C) I
  have told := go (n + 1) n (I.hok.fresh (Nat.le_succ _)) (I.hok.fresh (Nat.le_refl _)) (Nat.ne_of_lt (Nat.lt_succ_self _))
  have rel := hb.rel (vals_r (n + 1)) r
  have bound := hb.to _ [Value.ref (n + 1)] ws J.kIn rfl (r.length.symm.trans lz)
  have ran := F.run _ X.stack _ _ ⟨[Value.ref (n + 1)], ks.zip ws⟩ _ _ _ E (hr.make C [] (ks.zip ws)) (J.env0.make C [] (ks.zip ws)) bound rel told
  refine wpAny_call (make_map (f := f) I.kIn M.makes M.init (beq_iff_eq.mp M.fn) (codeAny_mono ran fun res s' out => ?_))
  rcases res with err | fl
  · exact pa pins _ _ err s' J out
  · cases fl with
    | ret u =>
      obtain ⟨y, H', I3, ry, ey, q3⟩ := J.after out
      subst ey
      exact ⟨ry, ⟨V.ref (n + 1), H', I3, rfl, q3⟩⟩
    | next => exact out.elim
    | brk => exact out.elim
    | cont => exact out.elim
def tMakeKS (C : Addr) (n : Nat) (sp : Sp) (gV : List V → List V → List V) (E : L2.St → XK) (t : TA) : TE := fun σ H Q => t σ H fun zs H1 => zs.length = n ∧ ∀ x dx, H1 x = none → H1 dx = none → dx ≠ x → sp (gV [.ref x] zs) (upd (upd H1 dx (.own x)) x (.ins C dx [])) (fun v H2 => v = .non ∧ Q (.ref x) H2) (E σ)
theorem pe_makeKS {CX : CXT} {k : Nat} {f C : Addr} {fd : FuncData} {ps ks : List Str} {sp : Sp} {E : L2.St → XK} {x : Str} {p : Pos} {kws : List Keyword} {tk : TA} {g : List Value → List Value → List Value} {gV : List V → List V → List V} (M : Mk X.K C f) (F : FnOk X.prog X.w X.K X.mg X.base CX k f fd ps sp) (hr : Room (k + 1) X.A) (hg : Gl X x) (hm : X.mg x = some (.ref C))
    (hb : KBn X.K fd ps 1 ks g gV) (pa : ∀ σ, PassesAt CX X σ (E σ)) (hkw : PK X kws tk) (hall : (backToKw pos (keywordEach kws X.env)).all (·.1.isSome) = true := by rfl) (hks : (backToKw pos (keywordEach kws X.env)).filterMap (·.1) = ks := by rfl) (hdb : (x == ("__debug__" : Str)) = false := by decide)
    (hpl : ((backTo pos (starEach [] X.env)).any (·.1) || (backToKw pos (keywordEach kws X.env)).any (·.1.isNone)) = false := by rfl) : PE X (.Call (.Name x p) [] kws pos) (tMakeKS C ks.length sp gV E tk) := by
  refine ⟨fun pins s σ H Q I h => wpAny_Call_Name_kw (ld_glob I hg hm ?_ hdb)⟩
  refine PySem.W.callWith_KW0 (first := []) (h₀ := X.base) I.ok.mod.kin M.kp hall (thn (hkw.run pos pins s σ H _ I h) fun ws s1 ⟨zs, H1, I1, r, lz, q⟩ => ⟨I1.kIn, ?_⟩) hpl
  rw [hks]
  exact new_atK M F hr hb (pa σ) I1 r lz q
/-- x(e), x a local name that holds the class -/
theorem pe_makeSV {CX : CXT} {k : Nat} {f C : Addr} {fd : FuncData} {ps : List Str} {sp : Sp} {dvs : List V} {ds : List Value} {E : L2.St → XK} {x : Str} {i : Nat} {p : Pos} {t : TA} (M : Mk X.K C f) (F : FnOk X.prog X.w X.K X.mg X.base CX k f fd ps sp) (hr : Room (k + 1) X.A)
    (hb : Binds X.K fd ps ds) (hd : Vals dvs ds) (pa : ∀ σ, PassesAt CX X σ (E σ)) (ha : PA X (e :: es) t) (hN : X.N[i]? = some x := by rfl) (hv : Vis X.env.scope x := by first | exact Or.inl rfl | exact Or.inr (Or.inl rfl) | exact Or.inr (Or.inr rfl)) (hdb : (x == ("__debug__" : Str)) = false := by decide) (hcd : (x == ("__classdict__" : Str)) = false := by decide)
    (he : starEach (e :: es) X.env = (false, eval e X.env) :: starEach es X.env := by rfl) (hpl : (backTo pos (starEach es X.env)).any (·.1) = false := by rfl) : PE X (.Call (.Name x p) (e :: es) [] pos) (fun σ H Q => σ[i]? = some (some (.ref C)) ∧ tMakeS C sp dvs E t σ H Q) := by
  have po : PE X (.Name x p) (tVar i) := pe_var hN hv hdb hcd
  refine ⟨fun pins s σ H Q I ⟨hs, h⟩ => wpAny_Call_Name_kw (thn (po.run pins s σ H (fun v H' => v = .ref C ∧ H' = H) I ⟨.ref C, hs, rfl, rfl⟩) fun u s1 g => ?_)⟩
  obtain ⟨v, H0, I0, rv, ev, eH⟩ := g
  subst ev eH
  obtain rfl : u = Value.ref C := rv
  exact PySem.W.callWith_K (h₀ := X.base) I0.ok.mod.kin M.kp (thn (ha.run pos pins _ σ _ _ I0 h) fun us s1 ⟨vs, H1, I1, r, q⟩ => ⟨I1.kIn, new_at M F hr hb hd (pa σ) I1 r q⟩) he hpl
end
/-! ### C.m(k = e), m a classmethod -/
theorem keep_bound {M : Model} {K : PySem.W.Frag} {q g : Addr} {self : Value} {h : Heap} (hf : PySem.W.fnIn K g = true) (P : PySem.W.MethP K q g self h) : PySem.W.Looks M h (keeperOf (.ref q)) .boundFrame := by
  obtain ⟨h1, h2⟩ := P
  unfold PySem.W.fnIn at hf
  split at hf
  · rename_i cls dict f slots hl
    have hg := h2 _ _ hl
    refine (PySem.W.Looks.ld (part := none) h1).andThen ?_
    show PySem.W.Looks M h (do
      let o ← load g
      pure (match o.data with | .func _ => Keeper.boundFrame | _ => Keeper.caller)) .boundFrame
    exact (PySem.W.Looks.ld (part := none) hg).andThen .now
  · cases hf
structure CMetK (K : PySem.W.Frag) (C : Addr) (m : Str) (p f : Addr) : Prop where
  rd : PySem.W.readsIn K C (.type "type") = true
  ga : PySem.W.specialIn K (.ref C) "__getattribute__" = some (some (.builtin "type.__getattribute__"))
  at_ : PySem.W.findCls K (.ref C) (.type "type") m = some (.get (.builtin "classmethod.__get__") (.ref p) .none (.ref C))
  rc : ∃ rest, PySem.W.recIn K p "classmethod" = some (.ref f :: rest)
  fn : PySem.W.fnIn K f = true
section
variable {X : Cx} {pos : Pos}
def tCMethK (C : Addr) (n : Nat) (sp : Sp) (gV : List V → List V → List V) (E : L2.St → XK) (ta : TE) (t : TA) : TE := fun σ H Q => ta σ H fun x H1 => x = .ref C ∧ t σ H1 fun zs H2 => zs.length = n ∧ sp (gV [.ref C] zs) H2 Q (E σ)
theorem pe_cmethK {CX : CXT} {k : Nat} {f C pa : Addr} {fd : FuncData} {ps ks : List Str} {sp : Sp} {E : L2.St → XK} {pl : Sem Bool} {o : Expr} {m : Str} {apos : Pos} {kws : List Keyword} {ta : TE} {tk : TA} {g : List Value → List Value → List Value} {gV : List V → List V → List V}
    (he : PE X o ta) (S : CMetK X.K C m pa f) (F : FnOk X.prog X.w X.K X.mg X.base CX k f fd ps sp) (hr : Room k X.A) (hb : KBn X.K fd ps 1 ks g gV) (pa' : ∀ σ, PassesAt CX X σ (E σ)) (hkw : PK X kws tk)
    (hall : (backToKw pos (keywordEach kws X.env)).all (·.1.isSome) = true := by rfl) (hks : (backToKw pos (keywordEach kws X.env)).filterMap (·.1) = ks := by rfl)
    (hpl : ((backTo pos (starEach [] X.env)).any (·.1) || (backToKw pos (keywordEach kws X.env)).any (·.1.isNone)) = false := by rfl)
    (ht : eval (.Call (.Attribute o m apos) [] kws pos) X.env = (do
      let ov ← eval o X.env
      standAt apos.atName
      let (f, first) ← holding [ov] (getMethod ov m pl)
      callWith pos f first (backTo pos (starEach [] X.env)) (backToKw pos (keywordEach kws X.env))) := by rfl) :
    PE X (.Call (.Attribute o m apos) [] kws pos) (tCMethK C ks.length sp gV E ta tk) := by
  refine ⟨fun pins s σ H Q I h => ?_⟩
  refine PySem.W.methodCall_KW (pl := pl) (thn (he.run pins s σ H _ I h) fun u s1 ⟨x, H1, I1, rx, ex, q⟩ => ?_) ht
  subst ex
  obtain rfl : u = Value.ref C := rx
  obtain ⟨rest, hp⟩ := S.rc
  refine PySem.W.method_cls I1.kIn S.ga (PySem.W.cls_bind I1.kIn S.rd S.at_ (PySem.wpAny_call (PySem.W.cm_get (s := { s1 with toks := s1.toks + 1 }) I1.kIn hp ?_)))
  refine PySem.W.handed_on rfl ?_
  have I2 : Inv X pins σ H1 { s1 with heap := s1.heap.push (PySem.W.methodObj (.ref f) (.ref C)), toks := s1.toks + 1 } := I1.kept fun b u hb => Heap.get?_push_of_some _ hb
  have hq : (s1.heap.push (PySem.W.methodObj (.ref f) (.ref C))).get? s1.heap.objs.size = some (PySem.W.methodObj (.ref f) (.ref C)) := Heap.get?_push_size _ rfl
  have I3 := I2.pinned (fp := [s1.heap.objs.size]) (fun b hb => by
    rw [List.mem_singleton.mp hb]
    exact I1.fpOk (Nat.le_refl _) I1.fresh) (fun b hb => by
    rw [List.mem_singleton.mp hb]
    exact ⟨_, hq, fun v z => by cases z⟩)
  have ep : L2.pinsAt [s1.heap.objs.size] (s1.heap.push (PySem.W.methodObj (.ref f) (.ref C))) = [(s1.heap.objs.size, PySem.W.methodObj (.ref f) (.ref C))] := by
    unfold L2.pinsAt
    simp only [List.filterMap, hq, Option.map]
  refine PySem.W.callWith_of (P := PySem.W.MethP X.K s1.heap.objs.size f (.ref C)) hpl (fun h hP => ⟨_, .inr (.inr rfl), keep_bound S.fn hP⟩) (evalArgs_kw_nil hall ?_)
  refine thn (hkw.run pos _ _ σ H1 _ I3 q) fun ws s2 ⟨zs, H2, I4, rz, lz, q2⟩ => ?_
  have hat := (I4.pin (s1.heap.objs.size, PySem.W.methodObj (.ref f) (.ref C)) (by
    rw [ep]
    simp)).1
  have I5 := I4.unpinned
  refine ⟨⟨hat, I5.kIn⟩, ?_⟩
  rw [hks]
  have rel := hb.rel (vals_r C) rz
  have bound := hb.to s2 [Value.ref C] ws I5.kIn rfl (rz.length.symm.trans lz)
  refine wpAny_call (PySem.W.method_call hat (codeAny_mono (F.run X.A X.stack s2 H2 ⟨[Value.ref C], ks.zip ws⟩ _ _ Q (E σ) hr I5.env0 bound rel q2) fun res s' out => ?_))
  rcases res with err | fl
  · exact pa' σ pins H2 s2 err s' I5 out
  · cases fl with
    | ret u => exact I5.after out
    | next => exact out.elim
    | brk => exact out.elim
    | cont => exact out.elim
end
section
variable {X : Cx} {Γ : Gm} {ds : List D} {e : Expr} {pos : Pos} {sts body : List Stmt}
/-- for x, y in enumerate(a), told by the ends -/
theorem all_forE (i1 i2 : Nat) {x y : Str} {p1 p2 p3 p4 tp : Pos} {kk : Nat} {E : Ends} {σ : L2.St} {H : Hp} (J : Nat → Gm → Prop) (hc : X.calm = true) (hm : X.mg "enumerate" = none) (hl : σ.length = X.N.length) (C : Ctx X.K H Γ σ) (ha : ED X e Γ (.lst ds)) (hd : X.N.Nodup) (h0 : J 0 Γ)
    (hs : ∀ j dj Γ' σ' H', ds[j]? = some dj → J j Γ' → σ'.length = X.N.length → Ctx X.K H' ((Γ'.set i1 (some (iD (j : Int)))).set i2 (some dj)) σ' → Ex H H' →
      ∀ D : Ends, (∀ Γ2 σ2 H2, J (j + 1) Γ2 → σ2.length = X.N.length → Ctx X.K H2 Γ2 σ2 → Ex H' H2 → D.nx σ2 H2) → D.rt = E.rt → allS X body D σ' H')
    (k : ∀ Γ' σ' H', J ds.length Γ' → σ'.length = X.N.length → Ctx X.K H' Γ' σ' → Ex H H' → allS X sts E σ' H') (hp : PassesOwn (model X.prog X.w) X.A X.env X.xe := by exact PassesOwn.never) (hN : X.N[i1]? = some x := by rfl) (hN2 : X.N[i2]? = some y := by rfl) (hx : Loc X.env.scope x := by first | exact Or.inl rfl | exact Or.inr rfl) (hy : Loc X.env.scope y := by first | exact Or.inl rfl | exact Or.inr rfl)
    (hg : Gl X "enumerate" := by rfl) (hst : starEach [e] X.env = [(false, eval e X.env)] := by rfl) (hs1 : starEach (e :: []) X.env = (false, eval e X.env) :: starEach [] X.env := by rfl)
    (hf : X.fn x = true ∨ X.env.scope.names.lookup x = some .local := by first | exact .inl rfl | exact .inr rfl) (hf2 : X.fn y = true ∨ X.env.scope.names.lookup y = some .local := by first | exact .inl rfl | exact .inr rfl)
    (hpg : ∀ {t u : TG}, PG X (.Name x p3) t → PG X (.Name y p4) u → PG X (.Tuple [.Name x p3, .Name y p4] kk tp) (gTup X.K 2 (gCons t (gCons u gNil))) := by intro _ _ h1 h2; exact pg_tup rfl (pgs_cons h1 (pgs_cons h2 pgs_nil)))
    (hfs : ∀ x, foldedSetIterable (.Call (.Name "enumerate" p1) [e] [] p2) X.env x = pure x := by intro _; rfl) : allS X (.For (.Tuple [.Name x p3, .Name y p4] kk tp) (.Call (.Name "enumerate" p1) [e] [] p2) body [] pos :: sts) E σ H := by
  obtain ⟨ta, pa, qa⟩ := ha
  refine all_cons (ps_for hp hc (pi_enum hg hm (pa_cons pa pa_nil hs1) hst) (hpg (pg_name (i := i1) hd hN hx hf) (pg_name (i := i2) hd hN2 hy hf2)) (pss_all (st' := body)) hfs) ?_
  refine qa σ H C _ fun v H2 e12 h1' => ?_
  simp only [Den] at h1'
  obtain ⟨l, xs, rfl, hq, hL⟩ := h1'
  refine ⟨l, xs, rfl, SqL.of hq, ?_⟩
  have hi1 : i1 < X.N.length := (List.getElem?_eq_some_iff.mp hN).1
  have hi2 : i2 < X.N.length := (List.getElem?_eq_some_iff.mp hN2).1
  refine for_it (walk_enum (K := X.K) (a := l) (xs := xs)) (fun j σ' H' => ∃ Γ', J j Γ' ∧ σ'.length = X.N.length ∧ Ctx X.K H' Γ' σ' ∧ Ex H2 H') ⟨Γ, h0, hl, C.mono e12, Ex.refl H2⟩ (fun j σ' H' _ ⟨Γ', _, _, _, g4⟩ => SqL.of (g4 _ _ hq)) ?_ ?_
  · rintro j z σ' H' H'' hj ⟨Γ', g1, g2, g3, g4⟩ ⟨T0, x0, y0, rfl, hT, rfl, hxj, hyj⟩
    have hj1 : j < ds.length := by rw [hL.len]; exact hj
    obtain ⟨y2, hy2, hdy⟩ := hL.get (i := j) (d := ds[j]) (List.getElem?_eq_getElem hj1)
    have hxj' : some (V.int (j : Nat)) = some x0 := hxj
    have hyj' : xs[j]? = some y0 := hyj
    rw [hy2] at hyj'
    cases hxj'
    cases hyj'
    have up : Ex H2 (upd H' T0 (.tup [.int (j : Nat), y0])) := g4.trans (Ex.new hT)
    refine ⟨T0, [.int (j : Nat), y0], rfl, st_of upd_same, rfl, .int (j : Nat), [y0], rfl, y0, [], rfl, rfl, ?_⟩
    show allS X body _ ((σ'.set i1 (some (.int (j : Nat)))).set i2 (some y0)) (upd H' T0 (.tup [.int (j : Nat), y0]))
    exact hs j ds[j] Γ' ((σ'.set i1 (some (.int (j : Nat)))).set i2 (some y0)) (upd H' T0 (.tup [.int (j : Nat), y0])) (List.getElem?_eq_getElem hj1) g1 (by rw [List.length_set, List.length_set]; exact g2) (((g3.mono (Ex.new hT)).set (by rw [g2]; exact hi1) (den_v.mpr rfl)).set (by rw [List.length_set, g2]; exact hi2) (hdy.mono up)) (e12.trans up) _ (fun Γ2 σ2 H2 g l c e2 => ⟨Γ2, g, l, c, up.trans e2⟩) rfl
  · rintro σ' H' ⟨Γ', g1, g2, g3, g4⟩
    rw [← hL.len] at g1
    exact k Γ' σ' H' g1 g2 g3 (e12.trans g4)
end
section
variable {X : Cx} {Γ : Gm} {e : Expr} {pos : Pos} {sts body : List Stmt} {Φ : Out → Prop}
/-- for x in range(i), i of any sign -/
theorem z_forRI (i : Nat) {x : Str} {n : Nat} {ni : Int} {p1 p2 p3 : Pos} (J : Nat → Gm → Prop) (hc : X.calm = true) (hm : X.mg "range" = none) (ha : ED X e Γ (iD ni)) (hd : X.N.Nodup) (hn : ni.toNat = n) (hn1 : -(2 ^ 62) ≤ ni) (hn2 : ni < 2 ^ 62) (h0 : J 0 Γ)
    (hs : ∀ j Γ', j < n → J j Γ' → SsD X body (Γ'.set i (some (iD (j : Int)))) (fun o => (∃ Γ'', (o = .nx Γ'' ∨ o = .ct Γ'') ∧ J (j + 1) Γ'') ∨ (∃ d, o = .rt d ∧ Φ (.rt d)) ∨ (∃ Γ'', o = .bk Γ'' ∧ SsD X sts Γ'' Φ) ∨ ∃ c fs Γ'', o = .ex c fs Γ'' ∧ Φ (.ex c fs Γ'')))
    (k : ∀ Γ', J n Γ' → SsD X sts Γ' Φ) (hp : PassesOwn (model X.prog X.w) X.A X.env X.xe := by exact PassesOwn.never) (hN : X.N[i]? = some x := by rfl) (hx : Loc X.env.scope x := by first | exact Or.inl rfl | exact Or.inr rfl) (hg : Gl X "range" := by rfl)
    (he : starEach [e] X.env = [(false, eval e X.env)] := by rfl) (hse : starEach (e :: []) X.env = (false, eval e X.env) :: starEach [] X.env := by rfl)
    (hf : X.fn x = true ∨ X.env.scope.names.lookup x = some .local := by first | exact .inl rfl | exact .inr rfl)
    (hfs : ∀ x, foldedSetIterable (.Call (.Name "range" p1) [e] [] p2) X.env x = pure x := by intro _; rfl) : SsD X (.For (.Name x p3) (.Call (.Name "range" p1) [e] [] p2) body [] pos :: sts) Γ Φ := by
  obtain ⟨ta, pa, qa⟩ := ha
  refine ⟨_, pss_cons (ps_for hp hc (pi_range1 hg hm (pa_cons pa pa_nil hse) he) (pg_name (i := i) hd hN hx hf) (pss_all (st' := body)) hfs) (pss_all (st' := sts)), fun σ H hl C E T => ?_⟩
  refine qa σ H C _ fun v H1 e1 h1 => ?_
  refine ⟨ni, by rw [den_v.mp h1], hn1, hn2, ?_⟩
  rw [hn]
  have hi : i < X.N.length := (List.getElem?_eq_some_iff.mp hN).1
  refine for_range (lo := 0) (n := n) (fun j σ' H' => ∃ Γ', J j Γ' ∧ σ'.length = X.N.length ∧ Ctx X.K H' Γ' σ' ∧ Ex H1 H') ⟨Γ, h0, hl, C.mono e1, Ex.refl H1⟩ ?_ ?_
  · rintro j σ' H' hj ⟨Γ', g1, g2, g3, g4⟩
    show allS X body _ (σ'.set i (some (.int ((0 : Int) + (j : Int))))) H'
    rw [Int.zero_add]
    refine (hs j Γ' hj g1).all (by rw [List.length_set]; exact g2) (g3.set (by rw [g2]; exact hi) (den_v.mpr rfl)) ?_
    refine ⟨fun Γ'' σ2 H2 z e2 l2 c2 => ?_, fun d v H2 z e2 hv => ?_, fun Γ'' σ2 H2 z e2 l2 c2 => ?_, fun Γ'' σ2 H2 z e2 l2 c2 => ?_, fun cl fs Γ'' d σ2 H2 z e2 l2 c2 x2 => ?_⟩
    · rcases z with ⟨Γ3, z | z, w⟩ | ⟨_, z, _⟩ | ⟨_, z, _⟩ | ⟨_, _, _, z, _⟩ <;> cases z
      exact ⟨Γ'', w, l2, c2, g4.trans e2⟩
    · rcases z with ⟨Γ3, z | z, w⟩ | ⟨_, z, w⟩ | ⟨_, z, _⟩ | ⟨_, _, _, z, _⟩ <;> cases z
      exact T.rt d v H2 w ((e1.trans g4).trans e2) hv
    · rcases z with ⟨Γ3, z | z, w⟩ | ⟨_, z, w⟩ | ⟨_, z, w⟩ | ⟨_, _, _, z, _⟩ <;> cases z
      exact w.all l2 c2 (T.mono ((e1.trans g4).trans e2))
    · rcases z with ⟨Γ3, z | z, w⟩ | ⟨_, z, w⟩ | ⟨_, z, w⟩ | ⟨_, _, _, z, _⟩ <;> cases z
      exact ⟨Γ'', w, l2, c2, g4.trans e2⟩
    · rcases z with ⟨Γ3, z | z, w⟩ | ⟨_, z, w⟩ | ⟨_, z, w⟩ | ⟨_, _, _, z, w⟩ <;> cases z
      exact T.ex cl fs Γ'' d σ2 H2 w ((e1.trans g4).trans e2) l2 c2 x2
  · rintro σ' H' ⟨Γ', g1, g2, g3, g4⟩
    exact (k Γ' g1).all g2 g3 (T.mono (e1.trans g4))
end
end Trk

/-! != of two lists of ints and Fractions that are alike. -/
namespace Trk
section
open PySem PySem.SeqAt GQ
open AutoSeq1 (wpAny_loadPart')
open MeetsSeq MeetsSeq2 MeetsSeq3 SeqRoads2
variable {prog : Program} {w : World} {A : Around} {R : Result → Shared → Prop}
theorem ne_loopB (l b : Addr) (N : Nat) (f : Nat → Bool) (I : Shared → Prop) (hl : ListB prog w A (fun e s' => R (.error e) s') l b N f I) (res : Bool)
    (fin : ∀ s, I s → R (.ok (.ret (.bool (!res)))) s) (k : Nat) :
    ∀ i : Nat, N - i = k → i ≤ N → res = allF f i k → ∀ s, I s →
      wpAny (model prog w) A.in1 (Builtin.«list.__eq__.loop» ⟨[.ref l, .ref b, rawInt i, rawInt 3], []⟩) (FinOf prog w A R) (fun e s' => R (.error e) s') s := by
  induction k with
  | zero =>
    intro i hk hi hres s h
    obtain ⟨items, items2, n, n2, hl1, hb1, hs1, hs2, _⟩ := hl _ h
    have hR : R (.ok (.ret (.bool false))) s := by
      have := fin s h
      rw [hres] at this
      exact this
    obtain ⟨hp, g, d, tk, os⟩ := s
    wp_walk using wpAny_loadPart' hl1, wpAny_loadPart' hb1
    have hi1 : items[((i : Nat) : Int).toNat]? = none := by simp; omega
    have hi2 : items2[((i : Nat) : Int).toNat]? = none := by simp; omega
    rw [hi1, hi2]
    wp_walk using wpAny_loadPart' hl1, wpAny_loadPart' hb1
    show R (.ok (.ret (.bool (items.size != items2.size)))) _
    rw [hs1, hs2]
    simpa using hR
  | succ k ih =>
    intro i hk hi hres s h
    obtain ⟨items, items2, n, n2, hl1, hb1, hs1, hs2, turn⟩ := hl _ h
    have hlt : i < items.size := by omega
    have hlt2 : i < items2.size := by omega
    have ht := turn i hlt hlt2
    obtain ⟨hp, g, d, tk, os⟩ := s
    wp_walk using wpAny_loadPart' hl1, wpAny_loadPart' hb1
    have hi1 : items[((i : Nat) : Int).toNat]? = some items[i] := by simp [hlt]
    have hi2 : items2[((i : Nat) : Int).toNat]? = some items2[i] := by simp [hlt2]
    have hc : ((i : Int) + 1) = ((i + 1 : Nat) : Int) := by omega
    rw [hi1, hi2]
    refine wpAny_bind (wpAny_mono ht (fun r s2 h2 => ?_) fun _ _ x => x)
    obtain ⟨hr, h2⟩ := h2
    subst hr
    cases hf : f i with
    | true =>
      have hrec := ih (i + 1) (by omega) (by omega) (by rw [hres]; show (f i && allF f (i + 1) k) = _; rw [hf]; rfl) s2 h2
      obtain ⟨hp2, g2, d2, tk2, os2⟩ := s2
      wp_walk
      rw [hc]
      exact ⟨plainId_quiet plain_eq_loop _, codeAny_builtin entry_eq_loop (by
        rw [Around.under_plainId plain_eq_loop _]
        exact hrec)⟩
    | false =>
      have hR : R (.ok (.ret (.bool true))) s2 := by
        have := fin s2 h2
        rw [hres, show allF f i (k + 1) = (f i && allF f (i + 1) k) from rfl, hf] at this
        exact this
      obtain ⟨jt, jt2, m, m2, hl3, hb3, hs3, hs4, _⟩ := hl _ h2
      obtain ⟨hp2, g2, d2, tk2, os2⟩ := s2
      have hj1 : jt[((i : Nat) : Int).toNat]? = some (jt[i]'(by omega)) := by simp
      have hj2 : jt2[((i : Nat) : Int).toNat]? = some (jt2[i]'(by omega)) := by simp
      wp_walk using wpAny_loadPart' hl3, wpAny_loadPart' hb3
      rw [hj1, hj2]
      wp_walk using wpAny_loadPart' hl3, wpAny_loadPart' hb3
      exact hR

theorem list_neB (l b : Addr) (N : Nat) (f : Nat → Bool) (I : Shared → Prop) (hl : ListB prog w A (fun e s' => R (.error e) s') l b N f I)
    (fin : ∀ s, I s → R (.ok (.ret (.bool (!allF f 0 N)))) s) {s : Shared} (h : I s) :
    wpAny (model prog w) A.in1 (Builtin.«list.__ne__» ⟨[.ref l, .ref b], []⟩) (FinOf prog w A R) (fun e s' => R (.error e) s') s := by
  obtain ⟨items, items2, n, n2, hl1, hb1, hs1, hs2, _⟩ := hl _ h
  have hrec := ne_loopB (A := A) (R := R) l b N f I hl _ fin N 0 rfl (Nat.zero_le _) rfl s h
  obtain ⟨hp, g, d, tk, os⟩ := s
  have f3 := AutoSeq1.sub_list_list
  have hne : ¬ (items.size != items2.size) = true := by simp [hs1, hs2]
  wp_walk using wpAny_loadPart' hl1, wpAny_loadPart' hb1
  exact ⟨plainId_quiet plain_eq_loop _, codeAny_builtin entry_eq_loop (by
    rw [Around.under_plainId plain_eq_loop _]
    exact hrec)⟩
end
section
open PySem PySem.SeqAt GQ
open MeetsSeq MeetsSeq2 MeetsSeq3 SeqRoads2
variable {prog : Program} {w : World} {A : Around} {E : Value → Shared → Prop} {s : Shared}
theorem rc_listNB {l b : Addr} {N : Nat} {f : Nat → Bool} {Q : Value → Shared → Prop} (hu : A.units < cLine) (I : Shared → Prop) (hl : ListB prog w A E l b N f I)
    (fin : ∀ s, I s → Q (.bool (!allF f 0 N)) s) (h : I s) : wpAny (model prog w) A (richCompare .NotEq (.ref l) (.ref b)) Q E s := by
  obtain ⟨items, items2, n, n2, hl1, hb1, _, _, _⟩ := hl _ h
  refine wpAny_richCompare_same_room (op := .NotEq) ⟨_, hl1, rfl⟩ ⟨_, hb1, rfl⟩ F.slot_list_ne (call_here F.slot_list_ne ⟨_, hl1, rfl⟩ F.entry_list_ne (F.args_list_ne_2 _ _) ?_) hu
  exact list_neB (R := wants (fun v s' => v ≠ .notImplemented ∧ Q v s') E) l b N f I hl (fun s' q => ⟨(fun x => nomatch x), fin s' q⟩) h
end
open PySem L2 Evl
section
variable {X : Cx} {C f : Addr} {CX : CXT} {n : Nat} {fd : FuncData} {ps : List Str} {E : XK}
/-- a number as a value, an int or a Fraction -/
def Num1 (C : Addr) (d : D) : Prop := (∃ i : Int, d = iD i) ∨ ∃ q : Rat, d = fr C q ∧ Sz 4000 q
theorem eqb_num (M : CmpM X.K C "__eq__" f) (F : FnOk X.prog X.w X.K X.mg X.base CX n f fd ps (spD X.K 2 (R_cmp C fun p q => decide (p = q)))) (hb : Binds X.K fd ps []) (hx : Passes CX X E) {A : Around} {pins : List (Addr × Obj)} {s : Shared} {σ : L2.St} {H : Hp} {x y : V} {u v : Value} {d : D}
    (sb : Sub X n A) (I : Inv X pins σ H s) (rx : RelV x u) (ry : RelV y v) (hp : Den X.K H d x) (hq : Den X.K H d y) (hd : Num1 C d) :
    wpAny (model X.prog X.w) A (eqBool u v) (fun r s' => r = true ∧ ∃ H', Inv X pins σ H' s' ∧ Ex H H') X.xe s := by
  rcases hd with ⟨i, rfl⟩ | ⟨q, rfl, sq⟩
  · rw [den_v.mp hp] at rx
    rw [den_v.mp hq] at ry
    obtain ⟨t1, rfl⟩ := rx
    obtain ⟨t2, rfl⟩ := ry
    have h := SeqAt.EqAt.int_int (A := A) (s := s) i t1 i t2
    rw [show (i == i) = true by simp] at h
    exact h X.prog X.w X.xe _ ⟨rfl, H, I, Ex.refl H⟩
  · have h := eqb_fr M F hb hx sb I rx ry hp hq sq sq
    refine wpAny_mono h (fun r s' ⟨h1, h2⟩ => ⟨?_, h2⟩) fun _ _ z => z
    rw [h1, decide_eq_true rfl]
def rNeH (C : Addr) (K : PySem.W.Frag) : R2 := fun x y H Q => ∃ ds : List D, Den K H (.lst ds) x ∧ Den K H (.lst ds) y ∧ (∀ d ∈ ds, Num1 C d) ∧ ∀ H', Ex H H' → Q (.bl false) H'
theorem allF_true : ∀ (k i : Nat), allF (fun _ => true) i k = true
  | 0, _ => rfl
  | k + 1, i => by
    show (true && allF (fun _ => true) (i + 1) k) = true
    rw [allF_true k (i + 1)]
    rfl
theorem op_neH (M : CmpM X.K C "__eq__" f) (F : FnOk X.prog X.w X.K X.mg X.base CX n f fd ps (spD X.K 2 (R_cmp C fun p q => decide (p = q)))) (hb : Binds X.K fd ps []) (hx : Passes CX X E) (hr : Room (n + 1) X.A) : OpR X (compareOp .NotEq) (rNeH C X.K) := by
  intro pins s σ H x y v u Q I rx ry h
  obtain ⟨ds, h1, h2, hn, q⟩ := h
  simp only [Den] at h1 h2
  obtain ⟨a, xs, rfl, ha, hL⟩ := h1
  obtain ⟨b, ys, rfl, hb', hM⟩ := h2
  cases rx
  cases ry
  show wpAny (model X.prog X.w) X.A (richCompare .NotEq (.ref a) (.ref b)) (EP X pins σ Q) X.xe s
  have lc : ds.length = xs.length := hL.len
  have le : ds.length = ys.length := hM.len
  refine rc_listNB (N := ds.length) (f := fun _ => true) hr.units0 (fun s' => ∃ H', Inv X pins σ H' s' ∧ Ex H H') (fun s' hI => ?_) (fun s' ⟨H', I', e⟩ => by
    rw [allF_true]
    exact ⟨.bl false, H', I', rfl, q H' e⟩) ⟨H, I, Ex.refl H⟩
  obtain ⟨H1, I1, e1⟩ := hI
  obtain ⟨z, its, k, r, e⟩ := I1.hok a _ (e1 _ _ ha)
  obtain ⟨z2, its2, k2, r2, e2⟩ := I1.hok b _ (e1 _ _ hb')
  refine ⟨its.toArray, its2.toArray, k, k2, e, e2, by rw [List.size_toArray, ← r.length, lc], by rw [List.size_toArray, ← r2.length, le], fun i k1 k2 => ?_⟩
  have g1 : its[i]? = some its.toArray[i] := by
    have h1' : i < its.length := by simpa using k1
    rw [List.getElem?_eq_getElem h1'] <;> simp
  have g2 : its2[i]? = some its2.toArray[i] := by
    have h2' : i < its2.length := by simpa using k2
    rw [List.getElem?_eq_getElem h2'] <;> simp
  have j1 : i < ds.length := by rw [lc, r.length]; simpa using k1
  obtain ⟨x1, hx1, dx1⟩ := hL.get (i := i) (d := ds[i]) (List.getElem?_eq_getElem j1)
  obtain ⟨y1, hy1, dy1⟩ := hM.get (i := i) (d := ds[i]) (List.getElem?_eq_getElem j1)
  obtain ⟨u1, hu1, ru1⟩ := r.get hx1
  obtain ⟨v1, hv1, rv1⟩ := r2.get hy1
  rw [g1] at hu1
  rw [g2] at hv1
  rw [Option.some.inj hu1, Option.some.inj hv1]
  refine wpAny_mono (eqb_num M F hb hx (A := X.A.in1) (Sub.in1 ⟨hr, rfl⟩) I1 ru1 rv1 (dx1.mono e1) (dy1.mono e1) (hn _ (List.getElem_mem j1))) (fun r s2 hq => ?_) fun _ _ x => x
  obtain ⟨hr2, H2, I2, e3⟩ := hq
  exact ⟨hr2, H2, I2, e1.trans e3⟩
theorem rd_neH {K : PySem.W.Frag} {ds : List D} (h : ∀ d ∈ ds, Num1 C d) : RD K (rNeH C K) (.lst ds) (.lst ds) (bD false) :=
  fun x y H hx hy Q q => ⟨ds, hx, hy, h, fun H' e => q _ H' e (den_v.mpr rfl)⟩
end
end Trk

/-! Values by what they are, beside things of a def's own that change: the states, the judgements in the style «what must hold so that Q holds behind it». -/
namespace Sy
open PySem L2 Evl Trk
/-- what stands at an own address -/
inductive Cell where
  | lst (ds : List D)
  | ins (C : Addr) (fs : List (Str × D))
abbrev Om := List (Addr × Cell)
abbrev keys (Ω : Om) : List Addr := Ω.map (·.1)
def CellOk (K : PySem.W.Frag) (F H : Hp) (a : Addr) : Cell → Prop
  | .lst ds => ∃ ys, H a = some (.lst ys) ∧ DenL K F ds ys
  | .ins C fs => ∃ dx gs, H a = some (.ins C dx gs) ∧ DenF K F fs gs
def Own (K : PySem.W.Frag) (F H : Hp) : Om → Prop
  | [] => True
  | (a, c) :: Ω => (F a = none ∧ a ∉ keys Ω ∧ CellOk K F H a c) ∧ Own K F H Ω
section
variable {K : PySem.W.Frag} {F F' F1 F2 H H' H1 H2 : Hp} {Ω Ω' Ω1 Ω2 : Om} {a : Addr} {c : Cell}
theorem CellOk.move (h : CellOk K F H a c) (e : Ex F F') (k : H' a = H a) : CellOk K F' H' a c := by
  cases c with
  | lst ds =>
    obtain ⟨ys, h1, h2⟩ := h
    exact ⟨ys, by rw [k]; exact h1, h2.mono e⟩
  | ins C fs =>
    obtain ⟨dx, gs, h1, h2⟩ := h
    exact ⟨dx, gs, by rw [k]; exact h1, h2.mono e⟩
theorem CellOk.there (h : CellOk K F H a c) : ∃ o, H a = some o := by
  cases c with
  | lst ds => obtain ⟨ys, h1, _⟩ := h; exact ⟨_, h1⟩
  | ins C fs => obtain ⟨dx, gs, h1, _⟩ := h; exact ⟨_, h1⟩
theorem Own.mem : ∀ {Ω : Om} {a : Addr}, Own K F H Ω → a ∈ keys Ω → F a = none ∧ ∃ o, H a = some o
  | (b, c) :: Ω, a, ⟨⟨h1, h2, h3⟩, h⟩, z => by
    rcases List.mem_cons.mp z with z | z
    · have z : a = b := z
      subst z
      exact ⟨h1, h3.there⟩
    · exact Own.mem h z
theorem Own.move : ∀ {Ω : Om}, Own K F H Ω → Ex F F' → (∀ b ∈ keys Ω, F' b = none) → (∀ b ∈ keys Ω, H' b = H b) → Own K F' H' Ω
  | [], _, _, _, _ => True.intro
  | (b, c) :: Ω, ⟨⟨h1, h2, h3⟩, h⟩, e, f, k => ⟨⟨f b List.mem_cons_self, h2, h3.move e (k b List.mem_cons_self)⟩, Own.move h e (fun x hx => f x (List.mem_cons_of_mem _ hx)) fun x hx => k x (List.mem_cons_of_mem _ hx)⟩
theorem Own.get : ∀ {Ω : Om} {k : Nat}, Own K F H Ω → Ω[k]? = some (a, c) → F a = none ∧ CellOk K F H a c
  | [], k, _, e => by simp at e
  | (b, d) :: Ω, 0, ⟨⟨h1, h2, h3⟩, h⟩, e => by
    simp at e
    obtain ⟨rfl, rfl⟩ := e
    exact ⟨h1, h3⟩
  | (b, d) :: Ω, k + 1, ⟨_, h⟩, e => Own.get (k := k) h (by simpa using e)
theorem keys_set : ∀ {Ω : Om} {k : Nat} {d : Cell}, Ω[k]? = some (a, c) → keys (Ω.set k (a, d)) = keys Ω
  | [], k, d, e => by simp at e
  | (b, d0) :: Ω, 0, d, e => by
    simp at e
    obtain ⟨rfl, rfl⟩ := e
    rfl
  | (b, d0) :: Ω, k + 1, d, e => by
    show b :: keys (Ω.set k (a, d)) = b :: keys Ω
    rw [keys_set (by simpa using e)]
/-- an own thing is changed -/
theorem Own.put : ∀ {Ω : Om} {k : Nat} {d : Cell} {o : HO}, Own K F H Ω → Ω[k]? = some (a, c) → CellOk K F (upd H a o) a d → Own K F (upd H a o) (Ω.set k (a, d))
  | [], k, d, o, _, e, _ => by simp at e
  | (b, d0) :: Ω, 0, d, o, ⟨⟨h1, h2, h3⟩, h⟩, e, n => by
    simp at e
    obtain ⟨rfl, rfl⟩ := e
    exact ⟨⟨h1, h2, n⟩, h.move (Ex.refl F) (fun x hx => (h.mem hx).1) fun x hx => upd_ne fun z => by subst z; exact h2 hx⟩
  | (b, d0) :: Ω, k + 1, d, o, ⟨⟨h1, h2, h3⟩, h⟩, e, n => by
    have e' : Ω[k]? = some (a, c) := by simpa using e
    have hm : a ∈ keys Ω := List.mem_map.mpr ⟨(a, c), List.mem_of_getElem? e', rfl⟩
    have hb : b ≠ a := fun z => by subst z; exact h2 hm
    refine ⟨⟨h1, ?_, h3.move (Ex.refl F) (upd_ne hb)⟩, Own.put (k := k) h e' n⟩
    rw [keys_set e']
    exact h2
/-- from one state to a later one -/
structure Go (K : PySem.W.Frag) (F H : Hp) (Ω : Om) (F' H' : Hp) (Ω' : Om) : Prop where
  fr : Ex F F'
  new : ∀ a, F a = none → F' a ≠ none → H a = none ∨ a ∈ keys Ω
  keep : ∀ a o, H a = some o → a ∉ keys Ω → H' a = some o
  own : ∀ a ∈ keys Ω', H a = none ∨ a ∈ keys Ω
  ex : Ex F' H'
  ow : Own K F' H' Ω'
theorem Go.refl (e : Ex F H) (o : Own K F H Ω) : Go K F H Ω F H Ω := ⟨Ex.refl F, fun a h1 h2 => absurd h1 h2, fun a o h _ => h, fun a h => .inr h, e, o⟩
theorem Go.trans (g : Go K F H Ω F1 H1 Ω1) (g2 : Go K F1 H1 Ω1 F2 H2 Ω2) : Go K F H Ω F2 H2 Ω2 := by
  have back : ∀ a, (H1 a = none ∨ a ∈ keys Ω1) → H a = none ∨ a ∈ keys Ω := fun a h => by
    rcases h with h | h
    · by_cases q : a ∈ keys Ω
      · exact .inr q
      · cases q2 : H a with
        | none => exact .inl rfl
        | some o => rw [g.keep a o q2 q] at h; cases h
    · exact g.own a h
  refine ⟨g.fr.trans g2.fr, fun a h1 h2 => ?_, fun a o h h2 => ?_, fun a h => back a (g2.own a h), g2.ex, g2.ow⟩
  · by_cases q : F1 a = none
    · exact back a (g2.new a q h2)
    · exact g.new a h1 q
  · refine g2.keep a o (g.keep a o h h2) fun z => ?_
    rcases g.own a z with q | q
    · rw [h] at q; cases q
    · exact h2 q
/-- what is not spoken of -/
theorem Own.drop : ∀ {Ωa Ωr : Om}, Own K F H (Ωa ++ Ωr) → Own K F H Ωa ∧ Own K F H Ωr ∧ ∀ x ∈ keys Ωa, x ∉ keys Ωr
  | [], Ωr, h => ⟨True.intro, h, fun x hx => by cases hx⟩
  | (b, c) :: Ωa, Ωr, ⟨⟨h1, h2, h3⟩, h⟩ => by
    obtain ⟨i1, i2, i3⟩ := Own.drop h
    have h2' : b ∉ keys Ωa ∧ b ∉ keys Ωr := by
      have : b ∉ keys Ωa ++ keys Ωr := by simpa [keys] using h2
      exact ⟨fun z => this (List.mem_append.mpr (.inl z)), fun z => this (List.mem_append.mpr (.inr z))⟩
    refine ⟨⟨⟨h1, h2'.1, h3⟩, i1⟩, i2, fun x hx => ?_⟩
    rcases List.mem_cons.mp hx with z | z
    · have z : x = b := z
      subst z
      exact h2'.2
    · exact i3 x z
theorem Own.join : ∀ {Ωa Ωr : Om}, Own K F H Ωa → Own K F H Ωr → (∀ x ∈ keys Ωa, x ∉ keys Ωr) → Own K F H (Ωa ++ Ωr)
  | [], Ωr, _, h, _ => h
  | (b, c) :: Ωa, Ωr, ⟨⟨h1, h2, h3⟩, h⟩, hr, d => by
    refine ⟨⟨h1, ?_, h3⟩, Own.join h hr fun x hx => d x (List.mem_cons_of_mem _ hx)⟩
    have : b ∉ keys Ωa ++ keys Ωr := fun z => by
      rcases List.mem_append.mp z with z | z
      · exact h2 z
      · exact d b List.mem_cons_self z
    simpa [keys] using this
/-- the frame: what is not handed over stays -/
theorem Go.frame {Ωa Ωr : Om} (ho : Own K F H (Ωa ++ Ωr)) (g : Go K F H Ωa F' H' Ω') : Go K F H (Ωa ++ Ωr) F' H' (Ω' ++ Ωr) := by
  obtain ⟨o1, o2, o3⟩ := ho.drop
  have km : ∀ x, x ∈ keys (Ωa ++ Ωr) ↔ x ∈ keys Ωa ∨ x ∈ keys Ωr := fun x => by simp [keys]
  have far : ∀ x ∈ keys Ωr, ¬ (H x = none ∨ x ∈ keys Ωa) := fun x hx z => by
    rcases z with z | z
    · obtain ⟨_, o, q⟩ := o2.mem hx
      rw [z] at q; cases q
    · exact o3 x z hx
  refine ⟨g.fr, fun a h1 h2 => ?_, fun a o h h2 => g.keep a o h fun z => h2 ((km a).mpr (.inl z)), fun a h => ?_, g.ex, ?_⟩
  · rcases g.new a h1 h2 with z | z
    · exact .inl z
    · exact .inr ((km a).mpr (.inl z))
  · have h : a ∈ keys Ω' ∨ a ∈ keys Ωr := by simpa [keys] using h
    rcases h with h | h
    · rcases g.own a h with z | z
      · exact .inl z
      · exact .inr ((km a).mpr (.inl z))
    · exact .inr ((km a).mpr (.inr h))
  · refine g.ow.join (o2.move g.fr (fun b hb => ?_) fun b hb => ?_) fun x hx hx2 => far x hx2 (g.own x hx)
    · cases q : F' b with
      | none => rfl
      | some o => exact absurd (g.new b (o2.mem hb).1 (by rw [q]; intro z; cases z)) (far b hb)
    · obtain ⟨_, o, q⟩ := o2.mem hb
      rw [q]
      exact g.keep b o q fun z => far b hb (.inr z)
/-- own things in another order, or fewer of them -/
def Pick (Ω Ωa Ωr : Om) : Prop := ∀ (K : PySem.W.Frag) (F H : Hp), Own K F H Ω → Own K F H (Ωa ++ Ωr) ∧ ∀ x ∈ keys (Ωa ++ Ωr), x ∈ keys Ω
theorem Pick.nil : Pick [] [] [] := fun _ _ _ h => ⟨h, fun _ h => h⟩
theorem Own.keysLe {Ω Ω' : Om} (h : ∀ x ∈ keys Ω', x ∈ keys Ω) {a : Addr} (z : a ∉ keys Ω) : a ∉ keys Ω' := fun q => z (h a q)
theorem Pick.l {p : Addr × Cell} {Ω Ωa Ωr : Om} (h : Pick Ω Ωa Ωr) : Pick (p :: Ω) (p :: Ωa) Ωr := fun K F H ho => by
  obtain ⟨a, c⟩ := p
  obtain ⟨⟨h1, h2, h3⟩, h4⟩ := ho
  obtain ⟨i1, i2⟩ := h K F H h4
  refine ⟨⟨⟨h1, Own.keysLe i2 h2, h3⟩, i1⟩, fun x hx => ?_⟩
  rcases List.mem_cons.mp hx with z | z
  · exact List.mem_cons.mpr (.inl z)
  · exact List.mem_cons.mpr (.inr (i2 x z))
theorem Pick.r {p : Addr × Cell} {Ω Ωa Ωr : Om} (h : Pick Ω Ωa Ωr) : Pick (p :: Ω) Ωa (p :: Ωr) := fun K F H ho => by
  obtain ⟨a, c⟩ := p
  obtain ⟨⟨h1, h2, h3⟩, h4⟩ := ho
  obtain ⟨i1, i2⟩ := h K F H h4
  obtain ⟨j1, j2, j3⟩ := i1.drop
  have km : ∀ x, x ∈ keys (Ωa ++ Ωr) ↔ x ∈ keys Ωa ∨ x ∈ keys Ωr := fun x => by simp [keys]
  have na : a ∉ keys Ωa ∧ a ∉ keys Ωr := ⟨fun z => h2 (i2 a ((km a).mpr (.inl z))), fun z => h2 (i2 a ((km a).mpr (.inr z)))⟩
  refine ⟨j1.join ⟨⟨h1, na.2, h3⟩, j2⟩ fun x hx z => ?_, fun x hx => ?_⟩
  · rcases List.mem_cons.mp z with z | z
    · have z : x = a := z
      subst z
      exact na.1 hx
    · exact j3 x hx z
  · have hx : x ∈ keys Ωa ∨ x = a ∨ x ∈ keys Ωr := by simpa [keys] using hx
    rcases hx with z | z | z
    · exact List.mem_cons.mpr (.inr (i2 x ((km x).mpr (.inl z))))
    · exact List.mem_cons.mpr (.inl z)
    · exact List.mem_cons.mpr (.inr (i2 x ((km x).mpr (.inr z))))
/-- an own thing is let go: it may be changed no more -/
theorem Pick.d {p : Addr × Cell} {Ω Ωa Ωr : Om} (h : Pick Ω Ωa Ωr) : Pick (p :: Ω) Ωa Ωr := fun K F H ho => by
  obtain ⟨_, h4⟩ := ho
  obtain ⟨i1, i2⟩ := h K F H h4
  exact ⟨i1, fun x hx => List.mem_cons.mpr (.inr (i2 x hx))⟩
theorem Pick.all : ∀ {Ω : Om}, Pick Ω [] Ω := fun _ _ _ h => ⟨h, fun _ h => h⟩
theorem Go.pick {Ω Ωa Ωr : Om} (p : Pick Ω Ωa Ωr) (e : Ex F H) (o : Own K F H Ω) : Go K F H Ω F H (Ωa ++ Ωr) := ⟨Ex.refl F, fun a h1 h2 => absurd h1 h2, fun a o h _ => h, fun a h => .inr ((p K F H o).2 a h), e, (p K F H o).1⟩
/-- an own thing is frozen -/
theorem Go.freeze {a : Addr} {c : Cell} {o : HO} (ex : Ex F H) (ow : Own K F H ((a, c) :: Ω)) (h : H a = some o) : Go K F H ((a, c) :: Ω) (upd F a o) H Ω := by
  obtain ⟨⟨h1, h2, h3⟩, h4⟩ := ow
  refine ⟨Ex.new h1, fun b hb hb2 => ?_, fun b o h _ => h, fun b hb => .inr (List.mem_cons.mpr (.inr hb)), fun b u hb => ?_, h4.move (Ex.new h1) (fun b hb => ?_) fun b _ => rfl⟩
  · by_cases z : b = a
    · exact .inr (List.mem_cons.mpr (.inl z))
    · rw [upd_ne z] at hb2
      exact absurd hb hb2
  · by_cases z : b = a
    · subst z
      rw [upd_same] at hb
      cases hb
      exact h
    · rw [upd_ne z] at hb
      exact ex b u hb
  · rw [upd_ne fun z => by subst z; exact h2 hb]
    exact (h4.mem hb).1
/-- a new own thing -/
theorem Go.alloc {a : Addr} {c : Cell} {o : HO} (ex : Ex F H) (ow : Own K F H Ω) (h : H a = none) (ok : CellOk K F (upd H a o) a c) : Go K F H Ω F (upd H a o) ((a, c) :: Ω) := by
  have hn : a ∉ keys Ω := fun z => by
    obtain ⟨_, o, q⟩ := ow.mem z
    rw [h] at q; cases q
  refine ⟨Ex.refl F, fun b h1 h2 => absurd h1 h2, fun b u hb _ => ?_, fun b hb => ?_, ex.trans (Ex.new h), ⟨⟨fresh_back ex h, hn, ok⟩, ow.move (Ex.refl F) (fun b hb => (ow.mem hb).1) fun b hb => upd_ne fun z => by subst z; exact hn hb⟩⟩
  · rw [upd_ne fun z => by subst z; rw [h] at hb; cases hb]
    exact hb
  · rcases List.mem_cons.mp hb with z | z
    · exact .inl (by rw [show b = a from z]; exact h)
    · exact .inr z
/-- an own thing is changed -/
theorem Go.put {a : Addr} {c d : Cell} {o : HO} {k : Nat} (ex : Ex F H) (ow : Own K F H Ω) (h : Ω[k]? = some (a, c)) (ok : CellOk K F (upd H a o) a d) : Go K F H Ω F (upd H a o) (Ω.set k (a, d)) := by
  have hm : a ∈ keys Ω := List.mem_map.mpr ⟨(a, c), List.mem_of_getElem? h, rfl⟩
  refine ⟨Ex.refl F, fun b h1 h2 => absurd h1 h2, fun b u hb hk => ?_, fun b hb => .inr ?_, fun b u hb => ?_, ow.put h ok⟩
  · rw [upd_ne fun z => by subst z; exact hk hm]
    exact hb
  · rw [keys_set h] at hb
    exact hb
  · rw [upd_ne fun z => by subst z; rw [(ow.get h).1] at hb; cases hb]
    exact ex b u hb
/-- a new frozen thing -/
theorem Go.lay {a : Addr} {o : HO} (ex : Ex F H) (ow : Own K F H Ω) (h : H a = none) : Go K F H Ω (upd F a o) (upd H a o) Ω := by
  have hn : ∀ b ∈ keys Ω, b ≠ a := fun b z q => by
    subst q
    obtain ⟨_, o, q⟩ := ow.mem z
    rw [h] at q; cases q
  have fa := fresh_back ex h
  refine ⟨Ex.new fa, fun b h1 h2 => ?_, fun b u hb _ => ?_, fun b hb => .inr hb, fun b u hb => ?_, ow.move (Ex.new fa) (fun b hb => ?_) fun b hb => upd_ne (hn b hb)⟩
  · by_cases z : b = a
    · subst z
      exact .inl h
    · rw [upd_ne z] at h2
      exact absurd h1 h2
  · rw [upd_ne fun z => by subst z; rw [h] at hb; cases hb]
    exact hb
  · by_cases z : b = a
    · subst z
      rw [upd_same] at hb ⊢
      exact hb
    · rw [upd_ne z] at hb ⊢
      exact ex b u hb
  · rw [upd_ne (hn b hb)]
    exact (ow.mem hb).1
/-- things that nobody speaks of are laid -/
theorem Go.more (ex : Ex F H) (ow : Own K F H Ω) (e : Ex H H') : Go K F H Ω F H' Ω :=
  ⟨Ex.refl F, fun b h1 h2 => absurd h1 h2, fun b u hb _ => e b u hb, fun b hb => .inr hb, ex.trans e, ow.move (Ex.refl F) (fun b hb => (ow.mem hb).1) fun b hb => by
    obtain ⟨_, o, q⟩ := ow.mem hb
    rw [q]
    exact e b o q⟩
end

/-! ### judgements -/
structure Sta (X : Cx) (Γ : Gm) (Ω : Om) (σ : L2.St) (F H : Hp) : Prop where
  len : σ.length = X.N.length
  cx : Ctx X.K F Γ σ
  ex : Ex F H
  ow : Own X.K F H Ω
abbrev Qe := D → Om → Prop
abbrev Rx := Value → List (Str × D) → Om → Prop
def TkE (K : PySem.W.Frag) (F H : Hp) (Ω : Om) (Q : Qe) (q : VK) : Prop := ∀ d Ω' v F' H', Q d Ω' → Go K F H Ω F' H' Ω' → Den K F' d v → q v H'
def TkL (K : PySem.W.Frag) (F H : Hp) (Ω : Om) (Q : List D → Om → Prop) (q : List V → Hp → Prop) : Prop := ∀ ds Ω' vs F' H', Q ds Ω' → Go K F H Ω F' H' Ω' → DenL K F' ds vs → q vs H'
def TkB (K : PySem.W.Frag) (F H : Hp) (Ω : Om) (Q : Bool → Om → Prop) (q : Bool → Hp → Prop) : Prop := ∀ b Ω' F' H', Q b Ω' → Go K F H Ω F' H' Ω' → q b H'
def TkX (X : Cx) (σ : L2.St) (F H : Hp) (Ω : Om) (R : Rx) : Prop := ∀ cls fs Ω' dd F' H', R cls fs Ω' → Go X.K F H Ω F' H' Ω' → DenX X.K F' dd fs → W0 X cls dd σ H'
section
variable {X : Cx} {K : PySem.W.Frag} {F H F' H' : Hp} {Ω Ω' : Om} {Γ : Gm} {σ : L2.St} {Q : Qe} {R : Rx} {q : VK}
theorem Sta.go (s : Sta X Γ Ω σ F H) (g : Go X.K F H Ω F' H' Ω') : Sta X Γ Ω' σ F' H' := ⟨s.len, s.cx.mono g.fr, g.ex, g.ow⟩
theorem Sta.go0 (s : Sta X Γ Ω σ F H) : Go X.K F H Ω F H Ω := Go.refl s.ex s.ow
theorem TkE.go (t : TkE K F H Ω Q q) (g : Go K F H Ω F' H' Ω') : TkE K F' H' Ω' Q q := fun d Ω2 v F2 H2 h g2 => t d Ω2 v F2 H2 h (g.trans g2)
theorem TkL.go {Q : List D → Om → Prop} {q : List V → Hp → Prop} (t : TkL K F H Ω Q q) (g : Go K F H Ω F' H' Ω') : TkL K F' H' Ω' Q q := fun d Ω2 v F2 H2 h g2 => t d Ω2 v F2 H2 h (g.trans g2)
theorem TkB.go {Q : Bool → Om → Prop} {q : Bool → Hp → Prop} (t : TkB K F H Ω Q q) (g : Go K F H Ω F' H' Ω') : TkB K F' H' Ω' Q q := fun b Ω2 F2 H2 h g2 => t b Ω2 F2 H2 h (g.trans g2)
theorem TkX.go (t : TkX X σ F H Ω R) (g : Go X.K F H Ω F' H' Ω') : TkX X σ F' H' Ω' R := fun c fs Ω2 dd F2 H2 h g2 => t c fs Ω2 dd F2 H2 h (g.trans g2)
end
section
variable (X : Cx)
def allA (es : List Expr) : TA := fun σ H Q => ∀ (pos : Pos) (pins : List (Addr × Obj)) (s : Shared), Inv X pins σ H s → wpAny (model X.prog X.w) X.A (spliced (backTo pos (starEach es X.env))) (AP X pins σ Q) X.xe s
def allW (c : Expr) : TT := fun σ H Q => ∀ (whole : Sem Value) (pins : List (Addr × Obj)) (s : Shared), Inv X pins σ H s → wpAny (model X.prog X.w) X.A (isTrue c X.env whole) (TP X pins σ Q) X.xe s
def EX (e : Expr) (Γ : Gm) (Ω : Om) (Q : Qe) (R : Rx) : Prop := ∀ σ F H, Sta X Γ Ω σ F H → ∀ q : VK, TkE X.K F H Ω Q q → TkX X σ F H Ω R → allE X e σ H q
def AX (es : List Expr) (Γ : Gm) (Ω : Om) (Q : List D → Om → Prop) (R : Rx) : Prop := ∀ σ F H, Sta X Γ Ω σ F H → ∀ q : List V → Hp → Prop, TkL X.K F H Ω Q q → TkX X σ F H Ω R → allA X es σ H q
def TX (e : Expr) (Γ : Gm) (Ω : Om) (Q : Bool → Om → Prop) (R : Rx) : Prop := ∀ σ F H, Sta X Γ Ω σ F H → ∀ q : Bool → Hp → Prop, TkB X.K F H Ω Q q → TkX X σ F H Ω R → allT X e σ H q
def WX (e : Expr) (Γ : Gm) (Ω : Om) (Q : Bool → Om → Prop) (R : Rx) : Prop := ∀ σ F H, Sta X Γ Ω σ F H → ∀ q : Bool → Hp → Prop, TkB X.K F H Ω Q q → TkX X σ F H Ω R → allW X e σ H q
end
inductive OS where
  | nx (Γ : Gm) (Ω : Om)
  | rt (d : D) (Ω : Om)
  | bk (Γ : Gm) (Ω : Om)
  | ct (Γ : Gm) (Ω : Om)
  | ex (cls : Value) (fs : List (Str × D)) (Γ : Gm) (Ω : Om)
structure TkS (X : Cx) (F H : Hp) (Ω : Om) (Φ : OS → Prop) (E : Ends) : Prop where
  nx : ∀ Γ Ω' σ F' H', Φ (.nx Γ Ω') → Go X.K F H Ω F' H' Ω' → σ.length = X.N.length → Ctx X.K F' Γ σ → E.nx σ H'
  rt : ∀ d Ω' v F' H', Φ (.rt d Ω') → Go X.K F H Ω F' H' Ω' → Den X.K F' d v → E.rt v H'
  bk : ∀ Γ Ω' σ F' H', Φ (.bk Γ Ω') → Go X.K F H Ω F' H' Ω' → σ.length = X.N.length → Ctx X.K F' Γ σ → E.bk σ H'
  ct : ∀ Γ Ω' σ F' H', Φ (.ct Γ Ω') → Go X.K F H Ω F' H' Ω' → σ.length = X.N.length → Ctx X.K F' Γ σ → E.ct σ H'
  ex : ∀ cls fs Γ Ω' dd σ F' H', Φ (.ex cls fs Γ Ω') → Go X.K F H Ω F' H' Ω' → σ.length = X.N.length → Ctx X.K F' Γ σ → DenX X.K F' dd fs → W0 X cls dd σ H'
def SS (X : Cx) (sts : List Stmt) (Γ : Gm) (Ω : Om) (Φ : OS → Prop) : Prop := ∀ σ F H, Sta X Γ Ω σ F H → ∀ E : Ends, TkS X F H Ω Φ E → allS X sts E σ H
section
variable {X : Cx} {F H F' H' : Hp} {Ω Ω' : Om} {Γ : Gm} {σ : L2.St} {Φ Ψ : OS → Prop} {E : Ends} {e : Expr} {es : List Expr} {st : Stmt} {sts : List Stmt}
theorem TkS.go (t : TkS X F H Ω Φ E) (g : Go X.K F H Ω F' H' Ω') : TkS X F' H' Ω' Φ E :=
  ⟨fun Γ Ω2 σ F2 H2 h g2 => t.nx Γ Ω2 σ F2 H2 h (g.trans g2), fun d Ω2 v F2 H2 h g2 => t.rt d Ω2 v F2 H2 h (g.trans g2), fun Γ Ω2 σ F2 H2 h g2 => t.bk Γ Ω2 σ F2 H2 h (g.trans g2), fun Γ Ω2 σ F2 H2 h g2 => t.ct Γ Ω2 σ F2 H2 h (g.trans g2), fun c fs Γ Ω2 dd σ F2 H2 h g2 => t.ex c fs Γ Ω2 dd σ F2 H2 h (g.trans g2)⟩
theorem TkS.imp (h : ∀ o, Ψ o → Φ o) (t : TkS X F H Ω Φ E) : TkS X F H Ω Ψ E :=
  ⟨fun Γ Ω2 σ F2 H2 z => t.nx Γ Ω2 σ F2 H2 (h _ z), fun d Ω2 v F2 H2 z => t.rt d Ω2 v F2 H2 (h _ z), fun Γ Ω2 σ F2 H2 z => t.bk Γ Ω2 σ F2 H2 (h _ z), fun Γ Ω2 σ F2 H2 z => t.ct Γ Ω2 σ F2 H2 (h _ z), fun c fs Γ Ω2 dd σ F2 H2 z => t.ex c fs Γ Ω2 dd σ F2 H2 (h _ z)⟩
theorem TkS.tkx (t : TkS X F H Ω Φ E) (s : Sta X Γ Ω σ F H) : TkX X σ F H Ω (fun c fs Ω' => Φ (.ex c fs Γ Ω')) := fun c fs Ω2 dd F2 H2 h g d => t.ex c fs Γ Ω2 dd σ F2 H2 h g s.len (s.cx.mono g.fr) d
theorem SS.imp (h : SS X sts Γ Ω Ψ) (i : ∀ o, Ψ o → Φ o) : SS X sts Γ Ω Φ := fun σ F H s E t => h σ F H s E (t.imp i)
theorem pe_all : PE X e (allE X e) := ⟨fun pins s σ H Q I h => h pins s I⟩
theorem pa_all : PA X es (allA X es) := ⟨fun pos pins s σ H Q I h => h pos pins s I⟩
theorem pw_all : PW X e (allW X e) := ⟨fun whole pins s σ H Q I h => h whole pins s I⟩
theorem ps_all : PSs X sts (allS X sts) := ⟨fun pins s σ H D I h => h pins s I⟩
theorem allE_of {t : TE} {q : VK} (p : PE X e t) (h : t σ H q) : allE X e σ H q := fun pins s I => p.run pins s σ H q I h
theorem allA_of {t : TA} {q : List V → Hp → Prop} (p : PA X es t) (h : t σ H q) : allA X es σ H q := fun pos pins s I => p.run pos pins s σ H q I h
theorem allT_of {t : TT} {q : Bool → Hp → Prop} (p : PT X e t) (h : t σ H q) : allT X e σ H q := fun pins s I => p.run pins s σ H q I h
theorem allW_of {t : TT} {q : Bool → Hp → Prop} (p : PW X e t) (h : t σ H q) : allW X e σ H q := fun whole pins s I => p.run whole pins s σ H q I h
theorem allS_of {t : TS} (p : PSs X sts t) (h : t E σ H) : allS X sts E σ H := fun pins s I => p.run pins s σ H E I h
/-- a statement, then the rest -/
theorem allS_cons {t : TS} (p : PS X st t) (h : t { E with nx := fun σ' H' => allS X sts E σ' H' } σ H) : allS X (st :: sts) E σ H := all_cons p h
end
end Sy

namespace Sy
open PySem L2 Evl Trk
/-! ### what stands where -/
inductive LstAt (Ω : Om) : D → List D → Prop where
  | fr (ds : List D) : LstAt Ω (.lst ds) ds
  | ow (k : Nat) {a : Addr} {ds : List D} (h : Ω[k]? = some (a, .lst ds)) : LstAt Ω (.v (.ref a)) ds
inductive ObjAt (Ω : Om) : D → Addr → List (Str × D) → Prop where
  | fr (C : Addr) (fs : List (Str × D)) : ObjAt Ω (.obj C fs) C fs
  | ow (k : Nat) {a C : Addr} {fs : List (Str × D)} (h : Ω[k]? = some (a, .ins C fs)) : ObjAt Ω (.v (.ref a)) C fs
section
variable {K : PySem.W.Frag} {F H : Hp} {Ω : Om} {d : D} {v : V}
theorem LstAt.get {ds : List D} (h : LstAt Ω d ds) (e : Ex F H) (o : Own K F H Ω) (dn : Den K F d v) : ∃ a ys, v = .ref a ∧ H a = some (.lst ys) ∧ DenL K F ds ys := by
  cases h with
  | fr =>
    simp only [Den] at dn
    obtain ⟨a, ys, h1, h2, h3⟩ := dn
    exact ⟨a, ys, h1, e _ _ h2, h3⟩
  | ow k h =>
    obtain ⟨_, ys, h2, h3⟩ := o.get h
    exact ⟨_, ys, den_v.mp dn, h2, h3⟩
theorem ObjAt.get {C : Addr} {fs : List (Str × D)} (h : ObjAt Ω d C fs) (e : Ex F H) (o : Own K F H Ω) (dn : Den K F d v) : ∃ a dx gs, v = .ref a ∧ H a = some (.ins C dx gs) ∧ DenF K F fs gs := by
  cases h with
  | fr =>
    simp only [Den] at dn
    obtain ⟨a, dx, gs, h1, h2, h3⟩ := dn
    exact ⟨a, dx, gs, h1, e _ _ h2, h3⟩
  | ow k h =>
    obtain ⟨_, dx, gs, h2, h3⟩ := o.get h
    exact ⟨_, dx, gs, den_v.mp dn, h2, h3⟩
theorem denF_lookup : ∀ {fs : List (Str × D)} {gs : List (Str × V)} {f : Str}, DenF K F fs gs → fs.lookup f = some d → ∃ y, gs.lookup f = some y ∧ Den K F d y
  | [], gs, f, _, h => by cases h
  | (g, x) :: fs, gs, f, hF, hl => by
    simp only [DenF] at hF
    obtain ⟨z, zs, rfl, hz, hzs⟩ := hF
    rw [Trk.lookup_put] at hl ⊢
    by_cases hfg : f = g
    · rw [if_pos hfg] at hl ⊢
      cases hl
      exact ⟨z, rfl, hz⟩
    · rw [if_neg hfg] at hl ⊢
      exact denF_lookup hzs hl
theorem denF_none : ∀ {fs : List (Str × D)} {gs : List (Str × V)} {f : Str}, DenF K F fs gs → fs.lookup f = none → gs.lookup f = none
  | [], gs, f, hF, _ => by
    simp only [DenF] at hF
    subst hF
    rfl
  | (g, x) :: fs, gs, f, hF, hl => by
    simp only [DenF] at hF
    obtain ⟨z, zs, rfl, hz, hzs⟩ := hF
    rw [Trk.lookup_put] at hl ⊢
    by_cases hfg : f = g
    · rw [if_pos hfg] at hl
      cases hl
    · rw [if_neg hfg] at hl ⊢
      exact denF_none hzs hl
theorem denF_len : ∀ {fs : List (Str × D)} {gs : List (Str × V)}, DenF K F fs gs → fs.length = gs.length
  | [], gs, hF => by
    simp only [DenF] at hF
    subst hF
    rfl
  | (g, x) :: fs, gs, hF => by
    simp only [DenF] at hF
    obtain ⟨z, zs, rfl, hz, hzs⟩ := hF
    simp [denF_len hzs]
end
/-! ### promises -/
abbrev Wx := List D → Om → Qe → Rx → Prop
def spS (K : PySem.W.Frag) (n : Nat) (W : Wx) : Sp := fun vs H Q E => ∃ F Ω ds Qd Rd, Ex F H ∧ Own K F H Ω ∧ ds.length = n ∧ DenL K F ds vs ∧ W ds Ω Qd Rd ∧
  (∀ d Ω' v F' H', Qd d Ω' → Go K F H Ω F' H' Ω' → Den K F' d v → Q v H') ∧ ∀ cls fs Ω' dd F' H', Rd cls fs Ω' → Go K F H Ω F' H' Ω' → DenX K F' dd fs → E cls dd H'
theorem spS_len {K : PySem.W.Frag} {n : Nat} {W : Wx} {vs : List V} {H : Hp} {Q : VK} {E : XK} (h : spS K n W vs H Q E) : vs.length = n := by
  obtain ⟨F, Ω, ds, Qd, Rd, _, _, h1, h2, _⟩ := h
  rw [← h2.len, h1]
/-- operations by values -/
def OpX (K : PySem.W.Frag) (r : R2) (Ω : Om) (d1 d2 : D) (Q : Qe) : Prop := ∀ F H x y, Ex F H → Own K F H Ω → Den K F d1 x → Den K F d2 y → ∀ q : VK, TkE K F H Ω Q q → r x y H q
def UnX (K : PySem.W.Frag) (r : V → Hp → VK → Prop) (Ω : Om) (d1 : D) (Q : Qe) : Prop := ∀ F H x, Ex F H → Own K F H Ω → Den K F d1 x → ∀ q : VK, TkE K F H Ω Q q → r x H q
def ClX (K : PySem.W.Frag) (r : List V → Hp → VK → Prop) (Ω : Om) (ds : List D) (Q : Qe) : Prop := ∀ F H xs, Ex F H → Own K F H Ω → DenL K F ds xs → ∀ q : VK, TkE K F H Ω Q q → r xs H q
section
variable {X : Cx} {Γ : Gm} {Ω : Om} {Q : Qe} {R : Rx} {d d1 d2 : D} {ds : List D} {e a b c : Expr} {es : List Expr} {pos : Pos}
theorem ex_var (i : Nat) {x : Str} (h : Γ[i]? = some (some d)) (k : Q d Ω) (hN : X.N[i]? = some x := by rfl) (hv : Vis X.env.scope x := by first | exact Or.inl rfl | exact Or.inr (Or.inl rfl) | exact Or.inr (Or.inr rfl)) (hd : (x == ("__debug__" : Str)) = false := by decide)
    (hcd : (x == ("__classdict__" : Str)) = false := by decide) : EX X (.Name x pos) Γ Ω Q R := fun σ F H s q t _ => by
  obtain ⟨v, h1, h2⟩ := s.cx i d h
  exact allE_of (pe_var hN hv hd hcd) ⟨v, h1, t _ _ _ _ _ k s.go0 h2⟩
theorem ex_int {n : Int} {j : Nat} (k : Q (.v (.int n)) Ω) : EX X (.Constant (.int n) j pos) Γ Ω Q R := fun σ F H s q t _ => allE_of pe_int (t _ _ _ _ _ k s.go0 (den_v.mpr rfl))
theorem ex_bl {n : Bool} {j : Nat} (k : Q (.v (.bl n)) Ω) : EX X (.Constant (.bool n) j pos) Γ Ω Q R := fun σ F H s q t _ => allE_of pe_bl (t _ _ _ _ _ k s.go0 (den_v.mpr rfl))
theorem ex_non {j : Nat} (k : Q (.v .non) Ω) : EX X (.Constant .none j pos) Γ Ω Q R := fun σ F H s q t _ => allE_of pe_non (t _ _ _ _ _ k s.go0 (den_v.mpr rfl))
theorem ex_str {x : Str} {j : Nat} (k : Q (.v (.str x)) Ω) : EX X (.Constant (.str x) j pos) Γ Ω Q R := fun σ F H s q t _ => allE_of pe_str (t _ _ _ _ _ k s.go0 (den_v.mpr rfl))
theorem ex_glob {x : Str} {v : V} {u : Value} (hm : X.mg x = some u) (r : RelV v u) (k : Q (.v v) Ω) (hg : Gl X x := by rfl) (hd : (x == ("__debug__" : Str)) = false := by decide) : EX X (.Name x pos) Γ Ω Q R := fun σ F H s q t _ => allE_of (pe_glob hg hm r hd) (t _ _ _ _ _ k s.go0 (den_v.mpr rfl))
theorem ex_bltn {x : Str} {v : V} {u : Value} (hm : X.mg x = none) (hv : bootBuiltins x = some u) (r : RelV v u) (k : Q (.v v) Ω) (hg : Gl X x := by rfl) (hn : x ≠ "__name__" := by decide) (hd : (x == ("__debug__" : Str)) = false := by decide) : EX X (.Name x pos) Γ Ω Q R := fun σ F H s q t _ => allE_of (pe_bltn hg hm hv r hn hd) (t _ _ _ _ _ k s.go0 (den_v.mpr rfl))
theorem EX.imp {Q' : Qe} (h : EX X e Γ Ω Q' R) (i : ∀ d Ω', Q' d Ω' → Q d Ω') : EX X e Γ Ω Q R := fun σ F H s q t x => h σ F H s q (fun d Ω' v F' H' z => t d Ω' v F' H' (i d Ω' z)) x
theorem ex_op {op : Operator} {r : R2} (ho : OpR X (binaryOp op) r) (h : EX X a Γ Ω (fun d1 Ω1 => EX X b Γ Ω1 (fun d2 Ω2 => OpX X.K r Ω2 d1 d2 Q) R) R) : EX X (.BinOp a op b pos) Γ Ω Q R := fun σ F H s q t x =>
  allE_of (pe_op ho pe_all pe_all) (h σ F H s _ (fun d1 Ω1 v F1 H1 hb g1 n1 => hb σ F1 H1 (s.go g1) _ (fun d2 Ω2 w F2 H2 hr g2 n2 => hr F2 H2 v w g2.ex g2.ow (n1.mono g2.fr) n2 q (t.go (g1.trans g2))) (x.go g1)) x)
theorem ex_cmp {op : CmpOp} {r : R2} (ho : OpR X (compareOp op) r) (h : EX X a Γ Ω (fun d1 Ω1 => EX X b Γ Ω1 (fun d2 Ω2 => OpX X.K r Ω2 d1 d2 Q) R) R) (hm : behindInMarks op b = false := by exact nomark _) : EX X (.Compare a [op] [b] pos) Γ Ω Q R := fun σ F H s q t x =>
  allE_of (pe_cmpR ho pe_all pe_all hm) (h σ F H s _ (fun d1 Ω1 v F1 H1 hb g1 n1 => hb σ F1 H1 (s.go g1) _ (fun d2 Ω2 w F2 H2 hr g2 n2 => hr F2 H2 v w g2.ex g2.ow (n1.mono g2.fr) n2 q (t.go (g1.trans g2))) (x.go g1)) x)
/-- the answer of a test -/
def Yes (Q : Bool → Om → Prop) : Qe := fun d Ω => ∃ b, d = bD b ∧ Q b Ω
theorem tx_cmp {op : CmpOp} {r : R2} {Q : Bool → Om → Prop} (ho : OpR X (compareOp op) r) (h : EX X a Γ Ω (fun d1 Ω1 => EX X b Γ Ω1 (fun d2 Ω2 => OpX X.K r Ω2 d1 d2 (Yes Q)) R) R) (hm : behindInMarks op b = false := by exact nomark _) : TX X (.Compare a [op] [b] pos) Γ Ω Q R := fun σ F H s q t x =>
  allT_of (pt_cmpR ho pe_all pe_all hm) (h σ F H s _ (fun d1 Ω1 v F1 H1 hb g1 n1 => hb σ F1 H1 (s.go g1) _ (fun d2 Ω2 w F2 H2 hr g2 n2 => hr F2 H2 v w g2.ex g2.ow (n1.mono g2.fr) n2 _ (fun d Ω3 u F3 H3 ⟨k, e, z⟩ g3 n3 => ⟨k, by subst e; exact den_v.mp n3, (t.go (g1.trans g2)) k Ω3 F3 H3 z g3⟩)) (x.go g1)) x)
theorem ex_un {op : UnaryOp} {r : V → Hp → VK → Prop} (ho : UnR X (unaryOp op) r) (h : EX X a Γ Ω (fun d1 Ω1 => UnX X.K r Ω1 d1 Q) R) : EX X (.UnaryOp op a pos) Γ Ω Q R := fun σ F H s q t x =>
  allE_of (pe_un ho pe_all) (h σ F H s _ (fun d1 Ω1 v F1 H1 hr g1 n1 => hr F1 H1 v g1.ex g1.ow n1 q (t.go g1)) x)
theorem ox_I0 {g : Int → Int → V} {i j : Int} (k : Q (.v (g i j)) Ω) : OpX X.K (rI0 g) Ω (iD i) (iD j) Q := fun F H x y e o h1 h2 q t => ⟨i, j, den_v.mp h1, den_v.mp h2, t _ _ _ _ _ k (Go.refl e o) (den_v.mpr rfl)⟩
theorem ox_I {C : Int → Int → Prop} {g : Int → Int → V} {i j : Int} (hc : C i j) (k : Q (.v (g i j)) Ω) : OpX X.K (rI C g) Ω (iD i) (iD j) Q := fun F H x y e o h1 h2 q t => ⟨i, j, den_v.mp h1, den_v.mp h2, hc, t _ _ _ _ _ k (Go.refl e o) (den_v.mpr rfl)⟩
theorem ux_neg {i : Int} (k : Q (iD (-i)) Ω) : UnX X.K (rU fun i => .int (-i)) Ω (iD i) Q := fun F H x e o h1 q t => ⟨i, den_v.mp h1, t _ _ _ _ _ k (Go.refl e o) (den_v.mpr rfl)⟩
theorem ox_eq {x y : V} (h : scal x y = true) (k : Q (bD (decide (x = y))) Ω) : OpX X.K rEq Ω (.v x) (.v y) Q := fun F H a b e o h1 h2 q t => by
  rw [den_v.mp h1, den_v.mp h2]
  exact ⟨h, t _ _ _ _ _ k (Go.refl e o) (den_v.mpr rfl)⟩
theorem ox_ne {x y : V} (h : scal x y = true) (k : Q (bD (!decide (x = y))) Ω) : OpX X.K rNe Ω (.v x) (.v y) Q := fun F H a b e o h1 h2 q t => by
  rw [den_v.mp h1, den_v.mp h2]
  exact ⟨h, t _ _ _ _ _ k (Go.refl e o) (den_v.mpr rfl)⟩
/-- by a method of one's own -/
theorem ox_sp {W : Wx} {r : R2} (hr : ∀ F H x y q, Ex F H → Own X.K F H Ω → Den X.K F d1 x → Den X.K F d2 y → spS X.K 2 W [x, y] H q (fun _ _ _ => False) → r x y H q) (h : W [d1, d2] [] (fun d Ω' => Q d (Ω' ++ Ω)) (fun _ _ _ => False)) : OpX X.K r Ω d1 d2 Q := fun F H x y e o n1 n2 q t =>
  hr F H x y q e o n1 n2 ⟨F, [], [d1, d2], _, _, e, True.intro, rfl, .cons n1 (.cons n2 .nil), h, fun d Ω' v F' H' z g n => t _ _ _ _ _ z (Go.frame (Ωa := []) o g) n, fun _ _ _ _ _ _ z => z.elim⟩

/-! ### tests -/
theorem tx_val {Q : Bool → Om → Prop} (h : EX X e Γ Ω (Yes Q) R) (he : ∀ whole, isTrue e X.env whole = (do let v ← whole; standAt e.pos; holding [v] (truthy v)) := by intro _; rfl) : TX X e Γ Ω Q R := fun σ F H s q t x =>
  allT_of (pt_val pe_all he) (h σ F H s _ (fun d Ω' v F' H' ⟨b, e, z⟩ g n => ⟨b, by subst e; exact den_v.mp n, t b Ω' F' H' z g⟩) x)
theorem tx_not {Q : Bool → Om → Prop} (h : TX X a Γ Ω (fun b Ω' => Q (!b) Ω') R) : TX X (.UnaryOp .Not a pos) Γ Ω Q R := fun σ F H s q t x =>
  allT_of (pt_not pt_all) (h σ F H s _ (fun b Ω' F' H' z g => t _ Ω' F' H' z g) x)
/-- a value's truth, as a list's -/
theorem tx_lst {Q : Bool → Om → Prop} (h : EX X e Γ Ω (fun d Ω' => ∃ ds, LstAt Ω' d ds ∧ Q (!ds.isEmpty) Ω') R) (he : ∀ whole, isTrue e X.env whole = (do let v ← whole; standAt e.pos; holding [v] (truthy v)) := by intro _; rfl) : TX X e Γ Ω Q R := fun σ F H s q t x =>
  allT_of (pt_truth pe_all he) (h σ F H s _ (fun d Ω' v F' H' ⟨ds, l, z⟩ g n => by
    obtain ⟨a, ys, rfl, h1, h2⟩ := l.get g.ex g.ow n
    refine ⟨!ds.isEmpty, .inl ⟨ys, SqL.of h1, ?_⟩, t _ Ω' F' H' z g⟩
    have := h2.len
    cases ds <;> cases ys <;> simp_all) x)
theorem tx_ofW {Q : Bool → Om → Prop} (h : WX X e Γ Ω Q R) : TX X e Γ Ω Q R := fun σ F H s q t x => allT_of pw_all.pt (h σ F H s q t x)
theorem wx_and1 {Q : Bool → Om → Prop} (h : TX X a Γ Ω Q R) : WX X (.BoolOp .And [a] pos) Γ Ω Q R := fun σ F H s q t x => allW_of (pw_and1 pt_all) (h σ F H s q t x)
theorem wx_or1 {Q : Bool → Om → Prop} (h : TX X a Γ Ω Q R) : WX X (.BoolOp .Or [a] pos) Γ Ω Q R := fun σ F H s q t x => allW_of (pw_or1 pt_all) (h σ F H s q t x)
theorem wx_and {Q : Bool → Om → Prop} (h : TX X a Γ Ω (fun k Ω1 => (k = false → Q false Ω1) ∧ (k = true → WX X (.BoolOp .And (b :: es) pos) Γ Ω1 Q R)) R) : WX X (.BoolOp .And (a :: b :: es) pos) Γ Ω Q R := fun σ F H s q t x =>
  allW_of (pw_and pt_all pw_all) (h σ F H s _ (fun k Ω1 F1 H1 ⟨z1, z2⟩ g => by
    cases k with
    | false => exact t _ _ _ _ (z1 rfl) g
    | true => exact z2 rfl σ F1 H1 (s.go g) q (t.go g) (x.go g)) x)
theorem wx_or {Q : Bool → Om → Prop} (h : TX X a Γ Ω (fun k Ω1 => (k = true → Q true Ω1) ∧ (k = false → WX X (.BoolOp .Or (b :: es) pos) Γ Ω1 Q R)) R) : WX X (.BoolOp .Or (a :: b :: es) pos) Γ Ω Q R := fun σ F H s q t x =>
  allW_of (pw_or pt_all pw_all) (h σ F H s _ (fun k Ω1 F1 H1 ⟨z1, z2⟩ g => by
    cases k with
    | true => exact t _ _ _ _ (z1 rfl) g
    | false => exact z2 rfl σ F1 H1 (s.go g) q (t.go g) (x.go g)) x)
theorem ex_not (h : EX X a Γ Ω (Yes fun b Ω' => Q (bD (!b)) Ω') R) : EX X (.UnaryOp .Not a pos) Γ Ω Q R := fun σ F H s q t x =>
  allE_of (pe_not pe_all) (h σ F H s _ (fun d Ω' v F' H' ⟨b, e, z⟩ g n => ⟨b, by subst e; exact den_v.mp n, t _ Ω' _ F' H' z g (den_v.mpr rfl)⟩) x)
theorem ex_one {op} (h : EX X a Γ Ω Q R) : EX X (.BoolOp op [a] pos) Γ Ω Q R := fun σ F H s q t x => allE_of (pe_one pe_all) (h σ F H s q t x)
theorem ex_and (h : EX X a Γ Ω (Yes fun k Ω1 => (k = false → Q (bD false) Ω1) ∧ (k = true → EX X (.BoolOp .And (b :: es) pos) Γ Ω1 Q R)) R) : EX X (.BoolOp .And (a :: b :: es) pos) Γ Ω Q R := fun σ F H s q t x =>
  allE_of (pe_and pe_all pe_all) (h σ F H s _ (fun d Ω1 v F1 H1 ⟨k, e, z1, z2⟩ g n => by
    subst e
    refine ⟨k, den_v.mp n, ?_⟩
    cases k with
    | false => exact t _ _ _ _ _ (z1 rfl) g (den_v.mpr rfl)
    | true => exact z2 rfl σ F1 H1 (s.go g) q (t.go g) (x.go g)) x)
theorem ex_or (h : EX X a Γ Ω (Yes fun k Ω1 => (k = true → Q (bD true) Ω1) ∧ (k = false → EX X (.BoolOp .Or (b :: es) pos) Γ Ω1 Q R)) R) : EX X (.BoolOp .Or (a :: b :: es) pos) Γ Ω Q R := fun σ F H s q t x =>
  allE_of (pe_or pe_all pe_all) (h σ F H s _ (fun d Ω1 v F1 H1 ⟨k, e, z1, z2⟩ g n => by
    subst e
    refine ⟨k, den_v.mp n, ?_⟩
    cases k with
    | true => exact t _ _ _ _ _ (z1 rfl) g (den_v.mpr rfl)
    | false => exact z2 rfl σ F1 H1 (s.go g) q (t.go g) (x.go g)) x)
theorem ex_if (h : TX X c Γ Ω (fun k Ω1 => (k = true → EX X a Γ Ω1 Q R) ∧ (k = false → EX X b Γ Ω1 Q R)) R) : EX X (.IfExp c a b pos) Γ Ω Q R := fun σ F H s q t x =>
  allE_of (pe_ifExp pt_all pe_all pe_all) (h σ F H s _ (fun k Ω1 F1 H1 ⟨z1, z2⟩ g => by
    cases k with
    | true => exact z1 rfl σ F1 H1 (s.go g) q (t.go g) (x.go g)
    | false => exact z2 rfl σ F1 H1 (s.go g) q (t.go g) (x.go g)) x)

/-! ### arguments, displays -/
theorem ax_nil {Q : List D → Om → Prop} (k : Q [] Ω) : AX X [] Γ Ω Q R := fun σ F H s q t _ => allA_of pa_nil (t _ _ _ _ _ k s.go0 DenL.nil)
theorem ax_cons {Q : List D → Om → Prop} (h : EX X e Γ Ω (fun d Ω1 => AX X es Γ Ω1 (fun ds Ω2 => Q (d :: ds) Ω2) R) R) (hs : starEach (e :: es) X.env = (false, eval e X.env) :: starEach es X.env := by rfl) : AX X (e :: es) Γ Ω Q R := fun σ F H s q t x =>
  allA_of (pa_cons pe_all pa_all hs) (h σ F H s _ (fun d Ω1 v F1 H1 hb g1 n1 => hb σ F1 H1 (s.go g1) _ (fun ds Ω2 vs F2 H2 z g2 n2 => (t.go g1) _ _ _ _ _ z g2 (DenL.cons (n1.mono g2.fr) n2)) (x.go g1)) x)
/-- a new list, its own -/
theorem ex_lst (h : AX X es Γ Ω (fun ds Ω1 => ds.length ≤ 1000000 ∧ ∀ p, Q (.v (.ref p)) ((p, .lst ds) :: Ω1)) R) : EX X (.List es pos) Γ Ω Q R := fun σ F H s q t x =>
  allE_of (pe_lst pa_all) (h σ F H s _ (fun ds Ω1 vs F1 H1 ⟨hl, z⟩ g n => ⟨by rw [← n.len, sizeLine_eq]; omega, fun p hp =>
    t _ _ _ _ _ (z p) (g.trans (Go.alloc g.ex g.ow hp ⟨vs, upd_same, n⟩)) (den_v.mpr rfl)⟩) x)
theorem ex_tup {x1} (h : AX X es Γ Ω (fun ds Ω1 => ds.length ≤ 1000000 ∧ Q (.tup ds) Ω1) R) : EX X (.Tuple es x1 pos) Γ Ω Q R := fun σ F H s q t x =>
  allE_of (pe_tup pa_all) (h σ F H s _ (fun ds Ω1 vs F1 H1 ⟨hl, z⟩ g n => ⟨by rw [← n.len, sizeLine_eq]; omega, fun p hp => by
    refine t _ _ _ _ _ z (g.trans (Go.lay g.ex g.ow hp)) ?_
    simp only [Den]
    exact ⟨p, vs, rfl, st_of upd_same, n.mono (Ex.new (fresh_back g.ex hp))⟩⟩) x)
/-- what is handed on and changed no more -/
theorem ex_frz (h : EX X e Γ Ω (fun d Ω' => ∃ p ds Ω1, d = .v (.ref p) ∧ Ω' = (p, .lst ds) :: Ω1 ∧ Q (.lst ds) Ω1) R) : EX X e Γ Ω Q R := fun σ F H s q t x =>
  h σ F H s q (fun d Ω' v F' H' ⟨p, ds, Ω1, e1, e2, z⟩ g n => by
    subst e1; subst e2
    rw [den_v.mp n]
    obtain ⟨⟨h1, _, ys, h2, h3⟩, _⟩ := g.ow
    refine t _ _ _ _ _ z (g.trans (Go.freeze g.ex g.ow h2)) ?_
    simp only [Den]
    exact ⟨p, ys, rfl, upd_same, h3.mono (Ex.new h1)⟩) x
/-- other own things first, or fewer -/
theorem ex_pick (Ωa Ωr : Om) (p : Pick Ω Ωa Ωr) (h : EX X e Γ (Ωa ++ Ωr) Q R) : EX X e Γ Ω Q R := fun σ F H s q t x => h σ F H (s.go (Go.pick p s.ex s.ow)) q (t.go (Go.pick p s.ex s.ow)) (x.go (Go.pick p s.ex s.ow))
/-! ### subscripts, fields, lengths -/
theorem ex_ix (h : EX X a Γ Ω (fun d1 Ω1 => EX X b Γ Ω1 (fun d2 Ω2 => ∃ ds i d, LstAt Ω2 d1 ds ∧ d2 = iD i ∧ atI ds i = some d ∧ Q d Ω2) R) R) (hs : PlainIx b := by exact fun _ _ => rfl) : EX X (.Subscript a b pos) Γ Ω Q R := fun σ F H s q t x =>
  allE_of (pe_ix ix_list pe_all pe_all hs) (h σ F H s _ (fun d1 Ω1 v F1 H1 hb g1 n1 => hb σ F1 H1 (s.go g1) _ (fun d2 Ω2 w F2 H2 ⟨ds, i, d, l, e, ha, z⟩ g2 n2 => by
    subst e
    obtain ⟨p, ys, rfl, h1, h2⟩ := l.get g2.ex g2.ow (n1.mono g2.fr)
    obtain ⟨y, hy, hd⟩ := denL_at h2 ha
    exact ⟨p, ys, i, y, rfl, den_v.mp n2, SqL.of h1, hy, (t.go (g1.trans g2)) _ _ _ _ _ z (Go.refl g2.ex g2.ow) hd⟩) (x.go g1)) x)
theorem ex_ixT (h : EX X a Γ Ω (fun d1 Ω1 => EX X b Γ Ω1 (fun d2 Ω2 => ∃ ds i d, d1 = .tup ds ∧ d2 = iD i ∧ atI ds i = some d ∧ Q d Ω2) R) R) (hs : PlainIx b := by exact fun _ _ => rfl) : EX X (.Subscript a b pos) Γ Ω Q R := fun σ F H s q t x =>
  allE_of (pe_ix ix_tup pe_all pe_all hs) (h σ F H s _ (fun d1 Ω1 v F1 H1 hb g1 n1 => hb σ F1 H1 (s.go g1) _ (fun d2 Ω2 w F2 H2 ⟨ds, i, d, e1, e, ha, z⟩ g2 n2 => by
    subst e; subst e1
    have n1' := n1.mono g2.fr
    simp only [Den] at n1'
    obtain ⟨p, ys, rfl, h1, h2⟩ := n1'
    obtain ⟨y, hy, hd⟩ := denL_at h2 ha
    exact ⟨p, ys, i, y, rfl, den_v.mp n2, ex_t g2.ex h1, hy, (t.go (g1.trans g2)) _ _ _ _ _ z (Go.refl g2.ex g2.ow) hd⟩) (x.go g1)) x)
theorem ex_ixC (h : EX X a Γ Ω (fun d1 Ω1 => EX X b Γ Ω1 (fun d2 Ω2 => ∃ ns i n, d1 = .scr ns ∧ d2 = iD i ∧ atI ns i = some n ∧ Q (iD n) Ω2) R) R) (hs : PlainIx b := by exact fun _ _ => rfl) : EX X (.Subscript a b pos) Γ Ω Q R := fun σ F H s q t x =>
  allE_of (pe_ix ix_list pe_all pe_all hs) (h σ F H s _ (fun d1 Ω1 v F1 H1 hb g1 n1 => hb σ F1 H1 (s.go g1) _ (fun d2 Ω2 w F2 H2 ⟨ns, i, n, e1, e, ha, z⟩ g2 n2 => by
    subst e; subst e1
    have n1' := n1.mono g2.fr
    simp only [Den] at n1'
    obtain ⟨p, rfl, h1⟩ := n1'
    have hy : atI (ns.map V.int) i = some (V.int n) := by
      unfold atI at ha ⊢
      rw [List.length_map]
      cases q : ixN ns.length i with
      | none =>
        rw [q] at ha
        cases ha
      | some j =>
        rw [q] at ha
        show (ns.map V.int)[j]? = some (V.int n)
        rw [List.getElem?_map, show ns[j]? = some n from ha]
        rfl
    exact ⟨p, _, i, _, rfl, den_v.mp n2, ex_l g2.ex h1, hy, (t.go (g1.trans g2)) _ _ _ _ _ z (Go.refl g2.ex g2.ow) (den_v.mpr rfl)⟩) (x.go g1)) x)
theorem ex_fld {C : Addr} {f : Str} {p : Pos} (hc : Cls X.K C) (hn : NoAttr X.K C f) (h : EX X e Γ Ω (fun d1 Ω1 => ∃ fs d, ObjAt Ω1 d1 C fs ∧ fs.lookup f = some d ∧ Q d Ω1) R) (hb : attributeBase e f X.env (eval e X.env) = eval e X.env := by rfl) : EX X (.Attribute e f p) Γ Ω Q R := fun σ F H s q t x =>
  allE_of (pe_fld pe_all hb) (h σ F H s _ (fun d1 Ω1 v F1 H1 ⟨fs, d, o, hl, z⟩ g1 n1 => by
    obtain ⟨a, dx, gs, rfl, h1, h2⟩ := o.get g1.ex g1.ow n1
    obtain ⟨y, hy, hd⟩ := denF_lookup h2 hl
    exact ⟨a, C, dx, gs, y, rfl, h1, hc, hn, hy, t _ _ _ _ _ z g1 hd⟩) x)
/-! ### built-ins -/
theorem ex_callB {r : List V → Hp → VK → Prop} {id : String} {x : Str} {p : Pos} (hc : CallR X (.builtin id) r) (hm : X.mg x = none) (hv : bootBuiltins x = some (.builtin id)) (h : AX X (e :: es) Γ Ω (fun ds Ω1 => ClX X.K r Ω1 ds Q) R) (hg : Gl X x := by rfl)
    (hn : x ≠ "__name__" := by decide) (hdb : (x == ("__debug__" : Str)) = false := by decide) (he : starEach (e :: es) X.env = (false, eval e X.env) :: starEach es X.env := by rfl) (hpl : (backTo pos (starEach es X.env)).any (·.1) = false := by rfl) :
    EX X (.Call (.Name x p) (e :: es) [] pos) Γ Ω Q R := fun σ F H s q t tx =>
  allE_of (pe_callB hc hg hm hv pa_all hn hdb he hpl) (h σ F H s _ (fun ds Ω1 vs F1 H1 z g n => z F1 H1 vs g.ex g.ow n q (t.go g)) tx)
theorem ex_callTy {r : List V → Hp → VK → Prop} {T : String} {x : Str} {p : Pos} (hc : CallR X (.type T) r) (hm : X.mg x = none) (hv : bootBuiltins x = some (.type T)) (h : AX X (e :: es) Γ Ω (fun ds Ω1 => ClX X.K r Ω1 ds Q) R) (hg : Gl X x := by rfl)
    (hn : x ≠ "__name__" := by decide) (hdb : (x == ("__debug__" : Str)) = false := by decide) (he : starEach (e :: es) X.env = (false, eval e X.env) :: starEach es X.env := by rfl) (hpl : (backTo pos (starEach es X.env)).any (·.1) = false := by rfl) :
    EX X (.Call (.Name x p) (e :: es) [] pos) Γ Ω Q R := fun σ F H s q t tx =>
  allE_of (pe_callTy hc hg hm hv pa_all hn hdb he hpl) (h σ F H s _ (fun ds Ω1 vs F1 H1 z g n => z F1 H1 vs g.ex g.ow n q (t.go g)) tx)
theorem ex_callBf {r : List V → Hp → VK → Prop} {id : String} {x : Str} {p : Pos} (hc : CallR X (.builtin id) r) (hm : X.mg x = some (.builtin id)) (h : AX X (e :: es) Γ Ω (fun ds Ω1 => ClX X.K r Ω1 ds Q) R) (hg : Gl X x := by rfl)
    (hdb : (x == ("__debug__" : Str)) = false := by decide) (he : starEach (e :: es) X.env = (false, eval e X.env) :: starEach es X.env := by rfl) (hpl : (backTo pos (starEach es X.env)).any (·.1) = false := by rfl) :
    EX X (.Call (.Name x p) (e :: es) [] pos) Γ Ω Q R := fun σ F H s q t tx =>
  allE_of (pe_callBfun hc hg hm pa_all hdb he hpl) (h σ F H s _ (fun ds Ω1 vs F1 H1 z g n => z F1 H1 vs g.ex g.ow n q (t.go g)) tx)
theorem cx_len {ds : List D} (l : LstAt Ω d ds) (k : Q (iD (ds.length : Int)) Ω) : ClX X.K (fun xs H Q => ∃ p ys, xs = [.ref p] ∧ (SqL X.K H p ys ∨ SqT X.K H p ys) ∧ Q (.int ys.length) H) Ω [d] Q := fun F H xs e o n q t => by
  obtain ⟨x, rfl, h1⟩ := denL_one n
  obtain ⟨a, ys, rfl, h2, h3⟩ := l.get e o h1
  refine ⟨a, ys, rfl, .inl (SqL.of h2), ?_⟩
  rw [← h3.len]
  exact t _ _ _ _ _ k (Go.refl e o) (den_v.mpr rfl)
theorem cx_lenT {ds : List D} (k : Q (iD (ds.length : Int)) Ω) : ClX X.K (fun xs H Q => ∃ p ys, xs = [.ref p] ∧ (SqL X.K H p ys ∨ SqT X.K H p ys) ∧ Q (.int ys.length) H) Ω [.tup ds] Q := fun F H xs e o n q t => by
  obtain ⟨x, rfl, h1⟩ := denL_one n
  simp only [Den] at h1
  obtain ⟨a, ys, rfl, h2, h3⟩ := h1
  refine ⟨a, ys, rfl, .inr (ex_t e h2), ?_⟩
  rw [← h3.len]
  exact t _ _ _ _ _ k (Go.refl e o) (den_v.mpr rfl)
theorem cx_lenC {ns : List Int} (k : Q (iD (ns.length : Int)) Ω) : ClX X.K (fun xs H Q => ∃ p ys, xs = [.ref p] ∧ (SqL X.K H p ys ∨ SqT X.K H p ys) ∧ Q (.int ys.length) H) Ω [.scr ns] Q := fun F H xs e o n q t => by
  obtain ⟨x, rfl, h1⟩ := denL_one n
  simp only [Den] at h1
  obtain ⟨a, rfl, h2⟩ := h1
  refine ⟨a, _, rfl, .inl (ex_l e h2), ?_⟩
  rw [List.length_map]
  exact t _ _ _ _ _ k (Go.refl e o) (den_v.mpr rfl)
end
end Sy

namespace Sy
open PySem L2 Evl Trk
section
variable {X : Cx} {Γ : Gm} {Ω : Om} {Q : Qe} {R : Rx} {d d1 d2 : D} {ds : List D} {e a b c : Expr} {es : List Expr} {pos : Pos} {st : Stmt} {sts body : List Stmt} {Φ Ψ : OS → Prop}
/-- what may leave an expression of a statement -/
abbrev Out1 (Φ : OS → Prop) (Γ : Gm) : Rx := fun c fs Ω' => Φ (.ex c fs Γ Ω')
/-- behind a block: the rest -/
def Seq (X : Cx) (sts : List Stmt) (Φ : OS → Prop) : OS → Prop
  | .nx Γ Ω => SS X sts Γ Ω Φ
  | o => Φ o
theorem ss_nil (h : Φ (.nx Γ Ω)) : SS X [] Γ Ω Φ := fun σ F H s E t => allS_of pss_nil (t.nx Γ Ω σ F H h s.go0 s.len s.cx)
theorem ss_asg (i : Nat) {x : Str} {pos' : Pos} (hd : X.N.Nodup) (h : EX X e Γ Ω (fun d Ω1 => SS X sts (Γ.set i (some d)) Ω1 Φ) (Out1 Φ Γ)) (hN : X.N[i]? = some x := by rfl) (hx : Loc X.env.scope x := by first | exact Or.inl rfl | exact Or.inr rfl)
    (hs : swapsWith e (some (.Name x pos')) pos.line X.env = pure false := by rfl) (hf : X.fn x = true ∨ X.env.scope.names.lookup x = some .local := by first | exact .inl rfl | exact .inr rfl) : SS X (.Assign [.Name x pos'] e pos :: sts) Γ Ω Φ := fun σ F H s E t => by
  refine all_cons (ps_set (i := i) hd hN hx pe_all hs hf) (h σ F H s _ (fun d Ω1 v F1 H1 k g n => ?_) (t.tkx s))
  have hi : i < σ.length := by rw [s.len]; exact (List.getElem?_eq_some_iff.mp hN).1
  exact k _ F1 H1 ⟨by rw [List.length_set]; exact s.len, (s.cx.mono g.fr).set hi n, g.ex, g.ow⟩ E (t.go g)
theorem ss_ret (h : EX X e Γ Ω (fun d Ω1 => Φ (.rt d Ω1)) (Out1 Φ Γ)) : SS X (.Return (some e) pos :: sts) Γ Ω Φ := fun σ F H s E t =>
  all_cons (ps_ret pe_all) (h σ F H s _ (fun d Ω1 v F1 H1 k g n => t.rt d Ω1 v F1 H1 k g n) (t.tkx s))
theorem ss_retN (h : Φ (.rt (.v .non) Ω)) : SS X (.Return none pos :: sts) Γ Ω Φ := fun σ F H s E t => all_cons ps_retN (t.rt _ _ _ F H h s.go0 (den_v.mpr rfl))
theorem ss_expr (h : EX X e Γ Ω (fun d Ω1 => SS X sts Γ Ω1 Φ) (Out1 Φ Γ)) (hs : swapsWith e none pos.line X.env = pure false := by rfl) : SS X (.Expr e pos :: sts) Γ Ω Φ := fun σ F H s E t =>
  all_cons (ps_expr pe_all hs) (h σ F H s _ (fun d Ω1 v F1 H1 k g n => k σ F1 H1 (s.go g) E (t.go g)) (t.tkx s))
theorem ss_pass (h : SS X sts Γ Ω Φ) : SS X (.Pass pos :: sts) Γ Ω Φ := fun σ F H s E t => all_cons ps_pass (h σ F H s E t)
theorem ss_break (h : Φ (.bk Γ Ω)) : SS X (.Break pos :: sts) Γ Ω Φ := fun σ F H s E t => all_cons ps_break (t.bk Γ Ω σ F H h s.go0 s.len s.cx)
theorem ss_cont (h : Φ (.ct Γ Ω)) : SS X (.Continue pos :: sts) Γ Ω Φ := fun σ F H s E t => all_cons ps_continue (t.ct Γ Ω σ F H h s.go0 s.len s.cx)
theorem TkS.seq {F H : Hp} {E : Ends} (t : TkS X F H Ω Φ E) : TkS X F H Ω (Seq X sts Φ) { E with nx := fun σ H => allS X sts E σ H } :=
  ⟨fun Γ Ω' σ F' H' h g l c => h σ F' H' ⟨l, c, g.ex, g.ow⟩ E (t.go g), fun d Ω' v F' H' h => t.rt d Ω' v F' H' h, fun Γ Ω' σ F' H' h => t.bk Γ Ω' σ F' H' h, fun Γ Ω' σ F' H' h => t.ct Γ Ω' σ F' H' h, fun c fs Γ Ω' dd σ F' H' h => t.ex c fs Γ Ω' dd σ F' H' h⟩
theorem ss_if {sa sb : List Stmt} (h : TX X c Γ Ω (fun k Ω1 => (k = true → SS X sa Γ Ω1 (Seq X sts Φ)) ∧ (k = false → SS X sb Γ Ω1 (Seq X sts Φ))) (Out1 Φ Γ)) : SS X (.If c sa sb pos :: sts) Γ Ω Φ := fun σ F H s E t =>
  all_cons (ps_if pt_all ps_all ps_all) (h σ F H s _ (fun k Ω1 F1 H1 ⟨z1, z2⟩ g => by
    cases k with
    | true => exact z1 rfl σ F1 H1 (s.go g) _ (t.go g).seq
    | false => exact z2 rfl σ F1 H1 (s.go g) _ (t.go g).seq) (t.tkx s))
theorem ss_pick (Ωa Ωr : Om) (p : Pick Ω Ωa Ωr) (h : SS X sts Γ (Ωa ++ Ωr) Φ) : SS X sts Γ Ω Φ := fun σ F H s E t => h σ F H (s.go (Go.pick p s.ex s.ow)) E (t.go (Go.pick p s.ex s.ow))
/-- a slot's own list is frozen: it is the first of the own things -/
theorem ss_frz (i : Nat) {p : Addr} (hi : Γ[i]? = some (some (.v (.ref p)))) (h : SS X sts (Γ.set i (some (.lst ds))) Ω Φ) : SS X sts Γ ((p, .lst ds) :: Ω) Φ := fun σ F H s E t => by
  obtain ⟨⟨h1, _, ys, h2, h3⟩, _⟩ := s.ow
  have g := Go.freeze s.ex s.ow h2
  refine h σ _ H ⟨s.len, ?_, g.ex, g.ow⟩ E (t.go g)
  obtain ⟨v, hv, dv⟩ := s.cx i _ hi
  rw [den_v.mp dv] at hv
  refine (s.cx.mono g.fr).put hv ?_
  simp only [Den]
  exact ⟨p, ys, rfl, upd_same, h3.mono g.fr⟩
/-! ### targets -/
structure Tgt (K : PySem.W.Frag) (g : TG) (is : List Nat) (d : D) (put : Gm → Gm) : Prop where
  go : ∀ (σ : L2.St) (F H : Hp) (v : V), (∀ i ∈ is, i < σ.length) → Ex F H → Den K F d v → ∀ Q : L2.St → Hp → Prop, (∀ σ', σ'.length = σ.length → wipe σ' is = wipe σ is → (∀ Γ, Ctx K F Γ σ → Ctx K F (put Γ) σ') → Q σ' H) → g v σ H Q
theorem Tgt.name {K : PySem.W.Frag} (i : Nat) : Tgt K (gName i) [i] d (fun Γ => Γ.set i (some d)) := ⟨fun σ F H v hi e n Q q => q _ (by rw [List.length_set]) (by
  show (σ.set i (some v)).set i none = σ.set i none
  rw [List.set_set]) fun Γ c => c.set (hi i (by simp)) n⟩
theorem wipe_app : ∀ (is js : List Nat) (σ : L2.St), wipe σ (is ++ js) = wipe (wipe σ js) is
  | [], js, σ => rfl
  | i :: is, js, σ => by
    show (wipe σ (is ++ js)).set i none = (wipe (wipe σ js) is).set i none
    rw [wipe_app is js σ]
theorem wipe_len : ∀ (is : List Nat) (σ : L2.St), (wipe σ is).length = σ.length
  | [], σ => rfl
  | i :: is, σ => by
    show ((wipe σ is).set i none).length = σ.length
    rw [List.length_set, wipe_len is σ]
theorem wipe_set (i : Nat) (v : Option V) : ∀ (is : List Nat) (σ : L2.St), i ∈ is → wipe (σ.set i v) is = wipe σ is
  | j :: is, σ, h => by
    show (wipe (σ.set i v) is).set j none = (wipe σ is).set j none
    by_cases hj : i ∈ is
    · rw [wipe_set i v is σ hj]
    · have e : i = j := by
        rcases List.mem_cons.mp h with z | z
        · exact z
        · exact absurd z hj
      subst e
      have aux : ∀ (js : List Nat) (τ : L2.St), i ∉ js → wipe (τ.set i v) js = (wipe τ js).set i v := by
        intro js
        induction js with
        | nil => intro τ _; rfl
        | cons k js ih =>
          intro τ hn
          show (wipe (τ.set i v) js).set k none = ((wipe τ js).set k none).set i v
          rw [ih τ fun z => hn (List.mem_cons_of_mem _ z), List.set_comm _ _ fun z => hn (by rw [z]; exact List.mem_cons_self)]
      rw [aux is σ hj, List.set_set]
theorem wipe_comm (i : Nat) : ∀ (is : List Nat) (σ : L2.St), (wipe σ is).set i none = wipe (σ.set i none) is
  | [], σ => rfl
  | j :: is, σ => by
    show ((wipe σ is).set j none).set i none = (wipe (σ.set i none) is).set j none
    rw [← wipe_comm i is σ]
    by_cases h : i = j
    · subst h; rw [List.set_set]
    · rw [List.set_comm _ _ (Ne.symm h)]
theorem wipe_wipe : ∀ (is js : List Nat) (σ : L2.St), wipe (wipe σ is) js = wipe (wipe σ js) is
  | is, [], σ => rfl
  | is, j :: js, σ => by
    show (wipe (wipe σ is) js).set j none = wipe ((wipe σ js).set j none) is
    rw [wipe_wipe is js σ, wipe_comm]
theorem Tgt.two {K : PySem.W.Frag} {g1 g2 : TG} {is js : List Nat} {put1 put2 : Gm → Gm} (t1 : Tgt K g1 is d1 put1) (t2 : Tgt K g2 js d2 put2) : Tgt K (gTup K 2 (gCons g1 (gCons g2 gNil))) (is ++ js) (.tup [d1, d2]) (fun Γ => put2 (put1 Γ)) := ⟨fun σ F H v hi e n Q q => by
  simp only [Den] at n
  obtain ⟨p, ys, rfl, h1, h2⟩ := n
  obtain ⟨x, y, rfl, n1, n2⟩ := denL_two h2
  refine ⟨p, [x, y], rfl, ex_t e h1, rfl, x, [y], rfl, t1.go σ F H x (fun i z => hi i (List.mem_append.mpr (.inl z))) e n1 _ fun σ1 l1 w1 c1 => ?_⟩
  refine ⟨y, [], rfl, t2.go σ1 F H y (fun i z => by rw [l1]; exact hi i (List.mem_append.mpr (.inr z))) e n2 _ fun σ2 l2 w2 c2 => ⟨rfl, q σ2 (l2.trans l1) ?_ fun Γ c => c2 _ (c1 _ c)⟩⟩
  rw [wipe_app, wipe_app, w2, wipe_wipe, w1, wipe_wipe]⟩
theorem Tgt.three {K : PySem.W.Frag} {d3 : D} {g1 g2 g3 : TG} {is js ks : List Nat} {put1 put2 put3 : Gm → Gm} (t1 : Tgt K g1 is d1 put1) (t2 : Tgt K g2 js d2 put2) (t3 : Tgt K g3 ks d3 put3) : Tgt K (gTup K 3 (gCons g1 (gCons g2 (gCons g3 gNil)))) (is ++ (js ++ ks)) (.tup [d1, d2, d3]) (fun Γ => put3 (put2 (put1 Γ))) := ⟨fun σ F H v hi e n Q q => by
  simp only [Den, DenL] at n
  obtain ⟨p, _, rfl, h1, x, _, rfl, n1, y, _, rfl, n2, z, _, rfl, n3, rfl⟩ := n
  refine ⟨p, [x, y, z], rfl, ex_t e h1, rfl, x, [y, z], rfl, t1.go σ F H x (fun i z => hi i (List.mem_append.mpr (.inl z))) e n1 _ fun σ1 l1 w1 c1 => ?_⟩
  refine ⟨y, [z], rfl, t2.go σ1 F H y (fun i z => by rw [l1]; exact hi i (List.mem_append.mpr (.inr (List.mem_append.mpr (.inl z))))) e n2 _ fun σ2 l2 w2 c2 => ?_⟩
  refine ⟨z, [], rfl, t3.go σ2 F H z (fun i z => by rw [l2, l1]; exact hi i (List.mem_append.mpr (.inr (List.mem_append.mpr (.inr z))))) e n3 _ fun σ3 l3 w3 c3 => ⟨rfl, q σ3 (l3.trans (l2.trans l1)) ?_ fun Γ c => c3 _ (c2 _ (c1 _ c))⟩⟩
  have a : ∀ τ : L2.St, wipe (wipe (wipe τ ks) js) is = wipe (wipe (wipe τ is) js) ks := fun τ => by
    rw [wipe_wipe js is, wipe_wipe ks is, wipe_wipe ks js]
  rw [wipe_app, wipe_app, wipe_app, wipe_app, w3, wipe_wipe ks js, w2, ← wipe_wipe ks js, a σ1, a σ, w1]⟩
theorem tgt_len (hi : ∀ i ∈ ([] : List Nat), i < X.N.length) : True := True.intro
/-- a target of names, (a, b) = e -/
theorem ss_asgT {g : TG} {tg : Expr} (hpg : PG X tg g) (h : EX X e Γ Ω (fun d Ω1 => ∃ is put, Tgt X.K g is d put ∧ (∀ i ∈ is, i < X.N.length) ∧ SS X sts (put Γ) Ω1 Φ) (Out1 Φ Γ)) (hs : swapsWithSole [tg] e pos.line X.env = pure false := by rfl) (hw : swappedStores [tg] e X.env = pure none := by rfl)
    (h1 : (assignEach [tg] X.env).map (·.2) = [assign tg X.env] := by rfl) : SS X (.Assign [tg] e pos :: sts) Γ Ω Φ := fun σ F H s E t => by
  refine all_cons (ps_asg pe_all hpg hs hw h1) (h σ F H s _ (fun d Ω1 v F1 H1 ⟨is, put, T, hi, k⟩ g n => ?_) (t.tkx s))
  refine T.go σ F1 H1 v (fun i z => by rw [s.len]; exact hi i z) g.ex n _ fun σ' l w c => ?_
  exact k σ' F1 H1 ⟨l.trans s.len, c _ (s.cx.mono g.fr), g.ex, g.ow⟩ E (t.go g)
/-! ### changes of own things -/
/-- o[i] = e, o an own list -/
theorem ss_item {o : Expr} {p2 : Pos} (h : EX X e Γ Ω (fun d Ω1 => EX X o Γ Ω1 (fun d1 Ω2 => EX X a Γ Ω2 (fun d2 Ω3 => ∃ k p ds n j, d1 = .v (.ref p) ∧ d2 = iD n ∧ Ω3[k]? = some (p, .lst ds) ∧ ixN ds.length n = some j ∧ SS X sts Γ (Ω3.set k (p, .lst (ds.set j d))) Φ) (Out1 Φ Γ)) (Out1 Φ Γ)) (Out1 Φ Γ))
    (hpg : ∀ {to ti : TE}, PE X o to → PE X a ti → PG X (.Subscript o a p2) (gSub to ti rSetL) := by intro _ _ h1 h2; exact pg_sub h1 h2 set_list)
    (hs : swapsWithSole [.Subscript o a p2] e pos.line X.env = pure false := by rfl) (hw : swappedStores [.Subscript o a p2] e X.env = pure none := by rfl)
    (h1 : (assignEach [.Subscript o a p2] X.env).map (·.2) = [assign (.Subscript o a p2) X.env] := by rfl) : SS X (.Assign [.Subscript o a p2] e pos :: sts) Γ Ω Φ := fun σ F H s E t => by
  have tx := t.tkx s
  refine all_cons (ps_asg pe_all (hpg pe_all pe_all) hs hw h1) (h σ F H s _ (fun d Ω1 v F1 H1 hb g1 n1 => ?_) tx)
  refine hb σ F1 H1 (s.go g1) _ (fun d1 Ω2 u F2 H2 hc g2 n2 => ?_) (tx.go g1)
  refine hc σ F2 H2 (s.go (g1.trans g2)) _ (fun d2 Ω3 w F3 H3 ⟨k, p, ds, n, j, e1, e2, hk, hj, kk⟩ g3 n3 => ?_) (tx.go (g1.trans g2))
  subst e1; subst e2
  have g := (g1.trans g2).trans g3
  obtain ⟨_, ys, y1, y2⟩ := g.ow.get hk
  rw [den_v.mp n2, den_v.mp n3]
  refine ⟨p, ys, n, j, rfl, rfl, y1, by rw [← y2.len]; exact hj, ?_⟩
  have put : ∀ {ds : List D} {ys : List V} {j : Nat}, DenL X.K F3 ds ys → DenL X.K F3 (ds.set j d) (ys.set j v) := by
    intro ds
    induction ds with
    | nil =>
      intro ys j h
      simp only [DenL] at h
      subst h
      exact DenL.nil
    | cons d0 ds ih =>
      intro ys j h
      simp only [DenL] at h
      obtain ⟨z, zs, rfl, hz, hzs⟩ := h
      cases j with
      | zero => exact DenL.cons (n1.mono (g2.trans g3).fr) hzs
      | succ j => exact DenL.cons hz (ih hzs)
  have g4 := g.trans (Go.put (d := .lst (ds.set j d)) (o := .lst (ys.set j v)) g.ex g.ow hk ⟨_, upd_same, put (j := j) y2⟩)
  exact kk σ F3 _ (s.go g4) E (t.go g4)
def putD (f : Str) (d : D) : List (Str × D) → List (Str × D)
  | [] => [(f, d)]
  | (g, x) :: r => if g = f then (g, d) :: r else (g, x) :: putD f d r
/-- o.f = e, o an own instance -/
theorem ss_attr {o : Expr} {f : Str} {C : Addr} {pos' : Pos} (hc : Cls X.K C) (hn : NoAttr X.K C f) (h : EX X e Γ Ω (fun d Ω1 => EX X o Γ Ω1 (fun d1 Ω2 => ∃ k p fs, d1 = .v (.ref p) ∧ Ω2[k]? = some (p, .ins C fs) ∧ fs.length < 1000 ∧ SS X sts Γ (Ω2.set k (p, .ins C (putD f d fs))) Φ) (Out1 Φ Γ)) (Out1 Φ Γ))
    (hs : swapsWith e (some (.Attribute o f pos')) pos.line X.env = pure false := by rfl) : SS X (.Assign [.Attribute o f pos'] e pos :: sts) Γ Ω Φ := fun σ F H s E t => by
  have tx := t.tkx s
  refine all_cons (ps_fld pe_all pe_all hs) (h σ F H s _ (fun d Ω1 v F1 H1 hb g1 n1 => ?_) tx)
  refine hb σ F1 H1 (s.go g1) _ (fun d1 Ω2 u F2 H2 ⟨k, p, fs, e1, hk, hl, kk⟩ g2 n2 => ?_) (tx.go g1)
  subst e1
  have g := g1.trans g2
  obtain ⟨_, dx, gs, y1, y2⟩ := g.ow.get hk
  rw [den_v.mp n2]
  refine ⟨p, C, dx, gs, rfl, y1, hc, hn, by rw [← denF_len y2]; exact hl, ?_⟩
  have put : ∀ {fs : List (Str × D)} {gs : List (Str × V)}, DenF X.K F2 fs gs → DenF X.K F2 (putD f d fs) (putF f v gs) := by
    intro fs
    induction fs with
    | nil =>
      intro gs h
      simp only [DenF] at h
      subst h
      simp only [putD, putF, DenF]
      exact ⟨v, [], rfl, n1.mono g2.fr, rfl⟩
    | cons p0 fs ih =>
      intro gs h
      obtain ⟨g0, x0⟩ := p0
      simp only [DenF] at h
      obtain ⟨z, zs, rfl, hz, hzs⟩ := h
      simp only [putD, putF]
      split
      · simp only [DenF]
        exact ⟨v, zs, rfl, n1.mono g2.fr, hzs⟩
      · simp only [DenF]
        exact ⟨z, _, rfl, hz, ih hzs⟩
  have g4 := g.trans (Go.put (d := .ins C (putD f d fs)) (o := .ins C dx (putF f v gs)) g.ex g.ow hk ⟨dx, _, upd_same, put y2⟩)
  exact kk σ F2 _ (s.go g4) E (t.go g4)
/-- o.append(e), o an own list -/
theorem ex_app {o : Expr} {p2 : Pos} (h : EX X o Γ Ω (fun d1 Ω1 => ∃ (p : Addr) (k : Nat) (ds : List D), d1 = .v (.ref p) ∧ Ω1[k]? = some (p, Cell.lst ds) ∧ EX X e Γ Ω1 (fun d Ω2 => ∃ (k : Nat) (ds : List D), Ω2[k]? = some (p, Cell.lst ds) ∧ ds.length < 1000000 ∧ Q (.v .non) (Ω2.set k (p, .lst (ds ++ [d])))) R) R)
    (hbase : attributeBase o "append" X.env (eval o X.env) = eval o X.env := by rfl)
    (hfew : ((backTo pos (starEach (e :: []) X.env)).all (fun x => !x.1) && (backToKw pos (keywordEach [] X.env)).all (fun x => x.1.isSome) && decide ((e :: []).length + ([] : List Keyword).length + (if ([] : List Keyword).isEmpty then 0 else 1) < 30)) = true := by rfl)
    (hline : (p2.endLine == pos.line) = true := by rfl) (hs1 : starEach (e :: []) X.env = (false, eval e X.env) :: starEach [] X.env := by rfl) (hpl : (backTo pos (starEach [] X.env)).any (·.1) = false := by rfl) :
    EX X (.Call (.Attribute o "append" p2) [e] [] pos) Γ Ω Q R := fun σ F H s q t tx => by
  refine allE_of (pe_bm PySem.F.plainAttrs_list PySem.F.slot_list_append PySem.F.type_list_append mt_append pe_all (pa_cons pe_all pa_nil hs1) hbase hfew hline hs1 hpl) ?_
  refine h σ F H s _ (fun d1 Ω1 v F1 H1 ⟨p, k, ds, e1, hk, hb⟩ g1 n1 => ?_) tx
  subst e1
  rw [den_v.mp n1]
  obtain ⟨_, ys, y1, y2⟩ := g1.ow.get hk
  refine ⟨.inl ⟨rfl, ys, .inl (.inl y1)⟩, ?_⟩
  refine hb σ F1 H1 (s.go g1) _ (fun d Ω2 u F2 H2 ⟨k2, ds2, hk2, hl, kk⟩ g2 n2 => ?_) (tx.go g1)
  have g := g1.trans g2
  obtain ⟨_, zs, z1, z2⟩ := g.ow.get hk2
  refine ⟨p, zs, u, rfl, rfl, z1, (by rw [← z2.len, sizeLine_eq]; omega), ?_⟩
  exact t _ _ _ _ _ kk (g.trans (Go.put g.ex g.ow hk2 ⟨_, upd_same, denL_snoc n2 z2⟩)) (den_v.mpr rfl)
theorem denL_dropLast {K : PySem.W.Frag} {F : Hp} : ∀ {ds : List D} {ys : List V}, DenL K F ds ys → DenL K F ds.dropLast ys.dropLast
  | [], ys, h => by
    simp only [DenL] at h
    subst h
    exact DenL.nil
  | [d0], ys, h => by
    obtain ⟨x, rfl, _⟩ := denL_one h
    exact DenL.nil
  | d0 :: d1 :: ds, ys, h => by
    simp only [DenL] at h
    obtain ⟨z, _, rfl, hz, y, zs, rfl, hy, hzs⟩ := h
    have := denL_dropLast (DenL.cons hy hzs)
    exact DenL.cons hz this
/-- o.pop(), o an own list -/
theorem ex_pop {o : Expr} {p2 : Pos} (h : EX X o Γ Ω (fun d1 Ω1 => ∃ p k ds d, d1 = .v (.ref p) ∧ Ω1[k]? = some (p, .lst ds) ∧ ds.getLast? = some d ∧ Q d (Ω1.set k (p, .lst ds.dropLast))) R)
    (hbase : attributeBase o "pop" X.env (eval o X.env) = eval o X.env := by rfl) (hline : (p2.endLine == pos.line) = true := by rfl) :
    EX X (.Call (.Attribute o "pop" p2) [] [] pos) Γ Ω Q R := fun σ F H s q t tx => by
  refine allE_of (pe_bm0 PySem.F.plainAttrs_list PySem.F.slot_list_pop PySem.F.type_list_pop mt_pop pe_all hbase hline) ?_
  refine h σ F H s _ (fun d1 Ω1 v F1 H1 ⟨p, k, ds, d, e1, hk, hd, kk⟩ g1 n1 => ?_) tx
  subst e1
  rw [den_v.mp n1]
  obtain ⟨_, ys, y1, y2⟩ := g1.ow.get hk
  have hne : ds ≠ [] := fun z => by subst z; cases hd
  have hlen := y2.len
  have hpos : 0 < ds.length := List.length_pos_iff.mpr hne
  have hl : ds[ds.length - 1]? = some d := by rw [← List.getLast?_eq_getElem?]; exact hd
  obtain ⟨y, hy, dy⟩ := y2.get hl
  refine ⟨.inl ⟨rfl, ys, .inl (.inl y1)⟩, p, ys, y, rfl, rfl, y1, by rw [← hlen]; exact hy, ?_⟩
  exact t _ _ _ _ _ kk (g1.trans (Go.put g1.ex g1.ow hk ⟨_, upd_same, denL_dropLast y2⟩)) dy
end
end Sy

namespace Sy
open PySem L2 Evl Trk
/-! ### a def's promise from its body -/
def PhiF (Qd : Qe) (Rd : Rx) : OS → Prop
  | .nx _ Ω => ∃ Ωa Ωr, Pick Ω Ωa Ωr ∧ Qd (.v .non) (Ωa ++ Ωr)
  | .rt d Ω => ∃ Ωa Ωr, Pick Ω Ωa Ωr ∧ Qd d (Ωa ++ Ωr)
  | .ex c fs _ Ω => ∃ Ωa Ωr, Pick Ω Ωa Ωr ∧ Rd c fs (Ωa ++ Ωr)
  | _ => False
theorem phi_nx {Qd : Qe} {Rd : Rx} {Γ : Gm} {Ω : Om} (Ωa Ωr : Om) (p : Pick Ω Ωa Ωr) (h : Qd (.v .non) (Ωa ++ Ωr)) : PhiF Qd Rd (.nx Γ Ω) := ⟨Ωa, Ωr, p, h⟩
theorem phi_rt {Qd : Qe} {Rd : Rx} {d : D} {Ω : Om} (Ωa Ωr : Om) (p : Pick Ω Ωa Ωr) (h : Qd d (Ωa ++ Ωr)) : PhiF Qd Rd (.rt d Ω) := ⟨Ωa, Ωr, p, h⟩
theorem phi_ex {Qd : Qe} {Rd : Rx} {c : Value} {fs : List (Str × D)} {Γ : Gm} {Ω : Om} (Ωa Ωr : Om) (p : Pick Ω Ωa Ωr) (h : Rd c fs (Ωa ++ Ωr)) : PhiF Qd Rd (.ex c fs Γ Ω) := ⟨Ωa, Ωr, p, h⟩
section
variable {P : Program} {w : World} {K : PySem.W.Frag} {mg : Str → Option Value} {base : Heap} {x qual : Str} {f : Addr} {fd : FuncData} {N ps : List Str} {k : Nat} {W : Wx}
theorem start_len {N : List Str} {vs : List V} {n : Nat} (h : vs.length = n) (hn : n ≤ N.length) : (L2.start N vs).length = N.length := by
  unfold L2.start
  rw [List.length_append, List.length_map, List.length_replicate, h]
  omega
theorem fn_S0 {params : Arguments} {body : List Stmt} {scope : Scope} {dvs : List V} {kws : List (Str × V)} (F : FunD K x qual params body scope dvs kws f fd) (S : FnScope N ps scope) (hN : ps.length ≤ N.length)
    (h : ∀ (cdv : Value) (A : Around) (outer : List Env) (s : Shared) (H : Hp) (E : XK) (ds : List D) (Ω : Om) (Qd : Qe) (Rd : Rx), Room k (A.deeper (PyProof.Rows.envOfC qual scope s.heap.objs.size f cdv)) → W ds Ω Qd Rd →
      SS (cxOf (L2.CX P w) P w K mg base N qual scope f cdv A outer s H E) body (ds.map some ++ List.replicate (N.length - ds.length) none) Ω (PhiF Qd Rd)) :
    FnOk P w K mg base (L2.CX P w) (k + 1) f fd ps (spS K ps.length W) := by
  refine F.ok S (fun vs H Q E h => spS_len h) fun cdv A outer s H vs Q E hr hsp => ?_
  obtain ⟨F0, Ω, ds, Qd, Rd, ex, ow, hl, dn, hW, hq, hx⟩ := hsp
  have hv : vs.length = ps.length := by rw [← dn.len, hl]
  refine ⟨_, ps_all, h cdv A outer s H E ds Ω Qd Rd hr hW (L2.start N vs) F0 H ⟨start_len hv hN, start_ctx dn, ex, ow⟩ _ ⟨fun Γ Ω' σ F' H' ⟨_, _, p, z⟩ g _ _ => hq _ _ _ _ _ z (g.trans (Go.pick p g.ex g.ow)) (den_v.mpr rfl), fun d Ω' v F' H' ⟨_, _, p, z⟩ g n => hq _ _ _ _ _ z (g.trans (Go.pick p g.ex g.ow)) n, fun Γ Ω' σ F' H' z => z.elim, fun Γ Ω' σ F' H' z => z.elim, fun c fs Γ Ω' dd σ F' H' ⟨_, _, p, z⟩ g _ _ n => ?_⟩⟩
  exact w0_of (W := fun cls d _ H => E cls d H) (takes_of rfl rfl rfl rfl) (hx c fs _ dd F' H' z (g.trans (Go.pick p g.ex g.ow)) n)
theorem fn_S {st : Stmt} (F : Fun K x qual st f fd) (S : FnScope N ps (defScope st)) (hN : ps.length ≤ N.length)
    (h : ∀ (cdv : Value) (A : Around) (outer : List Env) (s : Shared) (H : Hp) (E : XK) (ds : List D) (Ω : Om) (Qd : Qe) (Rd : Rx), Room k (A.deeper (PyProof.Rows.envOfC qual (defScope st) s.heap.objs.size f cdv)) → W ds Ω Qd Rd →
      SS (cxOf (L2.CX P w) P w K mg base N qual (defScope st) f cdv A outer s H E) (defBody st) (ds.map some ++ List.replicate (N.length - ds.length) none) Ω (PhiF Qd Rd)) :
    FnOk P w K mg base (L2.CX P w) (k + 1) f fd ps (spS K ps.length W) := by
  obtain ⟨oc, od, kV, doc, pm, an, cdv, ct, osl, e, lk, hcd⟩ := F.ex
  exact fn_S0 (dvs := []) (kws := []) ⟨⟨oc, od, .none, kV, doc, pm, an, cdv, ct, osl, e, lk, hcd, .inl ⟨rfl, rfl⟩, .inl rfl⟩, F.kp⟩ S hN h
/-- the law's own def -/
theorem fn_L {st : Stmt} (F : Fun K x qual st f fd) (S : FnScope N ps (defScope st)) (hN : 1 ≤ N.length) (hp : ps.length = 1)
    (h : ∀ (cdv : Value) (A : Around) (outer : List Env) (s : Shared) (H : Hp) (E : XK) (ns : List Int), Room k (A.deeper (PyProof.Rows.envOfC qual (defScope st) s.heap.objs.size f cdv)) → ns.length ≤ 63 →
      SS (cxOf CX0 P w K mg base N qual (defScope st) f cdv A outer s H E).nox (defBody st) (some (.scr ns) :: List.replicate (N.length - 1) none) [] (fun o => ∃ Ω, o = .rt (bD true) Ω)) :
    FnOk P w K mg base CX0 (k + 1) f fd ps (spD K 1 R_law) := by
  refine F.ok S (fun vs H Q E h => by rw [hp]; exact spD_len h) fun cdv A outer s H vs Q E hr hsp => ?_
  obtain ⟨ds, d, hl, dn, ⟨ns, rfl, hn, rfl⟩, hq⟩ := hsp
  have hv : vs.length = 1 := by rw [← dn.len, hl]
  refine ⟨_, ps_all, h cdv A outer s H E ns hr hn (L2.start N vs) H H ⟨start_len hv hN, start_ctx dn, Ex.refl H, True.intro⟩ _ ⟨fun Γ Ω' σ F' H' ⟨_, z⟩ => (by cases z), fun d Ω' v F' H' ⟨_, z⟩ g n => ?_, fun Γ Ω' σ F' H' ⟨_, z⟩ => (by cases z), fun Γ Ω' σ F' H' ⟨_, z⟩ => (by cases z), fun c fs Γ Ω' dd σ F' H' ⟨_, z⟩ => (by cases z)⟩⟩
  cases z
  exact hq v H' (fun a o z => g.keep a o z (by simp [keys])) (n.mono g.ex)
end
/-! ### how a call binds -/
structure KB (K : PySem.W.Frag) (fd : FuncData) (ps : List Str) (n : Nat) (ks : List Str) (gD : List D → List D → List D) : Prop where
  ex : ∃ g gV, KBn K fd ps n ks g gV ∧ ∀ (F : Hp) (ds zs : List D) (vs ws : List V), DenL K F ds vs → DenL K F zs ws → ds.length = n → zs.length = ks.length → DenL K F (gD ds zs) (gV vs ws)
theorem KB.of {K : PySem.W.Frag} {fd : FuncData} {ps : List Str} (n : Nat) (hn : ps.length = n) (b : Binds K fd ps []) : KB K fd ps n [] (fun ds _ => ds) :=
  ⟨fun us _ => us, fun vs _ => vs, ⟨fun s us ws X h1 h2 => by
    have := b s us X (by rw [List.append_nil, hn]; exact h1)
    rw [List.append_nil] at this
    exact this, fun r _ => r⟩, fun F ds zs vs ws h _ _ _ => h⟩
/-- defaults fill up -/
theorem KB.dfl {K : PySem.W.Frag} {fd : FuncData} {ps : List Str} {us : List Value} (n : Nat) (ts : List V) (r : Vals ts us) (hn : ps.length = n + ts.length) (b : Binds K fd ps us) : KB K fd ps n [] (fun ds _ => ds ++ ts.map .v) :=
  ⟨fun vs _ => vs ++ us, fun vs _ => vs ++ ts, ⟨fun s vs ws X h1 h2 => b s vs X (by rw [List.length_append, h1, hn, r.length]), fun q _ => q.append r⟩, fun F ds zs vs ws h _ _ _ => by
    have aux : ∀ ts : List V, DenL K F (ts.map .v) ts := by
      intro ts
      induction ts with
      | nil => exact DenL.nil
      | cons t ts ih => exact DenL.cons (den_v.mpr rfl) ih
    exact denL_app h (aux ts)⟩
section
variable (X : Cx)
def allK (kws : List Keyword) : TA := fun σ H Q => ∀ (pos : Pos) (pins : List (Addr × Obj)) (s : Shared), Inv X pins σ H s → wpAny (model X.prog X.w) X.A (evalAll ((backToKw pos (keywordEach kws X.env)).map (·.2))) (AP X pins σ Q) X.xe s
def KX (kws : List Keyword) (Γ : Gm) (Ω : Om) (Q : List D → Om → Prop) (R : Rx) : Prop := ∀ σ F H, Sta X Γ Ω σ F H → ∀ q : List V → Hp → Prop, TkL X.K F H Ω Q q → TkX X σ F H Ω R → allK X kws σ H q

/-- the callee can be held while its arguments come -/
def Keeps (pins : List (Addr × Obj)) (σ : L2.St) (f : Value) : Prop := ∃ P : Heap → Prop, (∀ h, P h → ∃ k, (k = Keeper.frame ∨ k = Keeper.machine ∨ k = Keeper.boundFrame) ∧ PySem.W.Looks (model X.prog X.w) h (keeperOf f) k) ∧ ∀ H' s', Inv X pins σ H' s' → P s'.heap
/-- what stands in a call's parentheses -/
def CAX (pos : Pos) (args : List Expr) (kws : List Keyword) (ks : List Str) (Γ : Gm) (Ω : Om) (Qf : List D → List D → Om → Prop) (R : Rx) : Prop :=
  ∀ σ F H, Sta X Γ Ω σ F H → ∀ (pins : List (Addr × Obj)) (s : Shared) (f : Value) (first : List Value) (Q : Value → Shared → Prop), Inv X pins σ H s → Keeps X pins σ f →
    (∀ ds zs Ω' vs ws us us' F' H' s', Qf ds zs Ω' → Go X.K F H Ω F' H' Ω' → DenL X.K F' ds vs → DenL X.K F' zs ws → Vals vs us → Vals ws us' → Inv X pins σ H' s' → wpAny (model X.prog X.w) X.A (call f (first ++ us) (ks.zip us')) Q X.xe s') →
    TkX X σ F H Ω R → wpAny (model X.prog X.w) X.A (callWith pos f first (backTo pos (starEach args X.env)) (backToKw pos (keywordEach kws X.env))) Q X.xe s
end
section
variable {X : Cx} {Γ : Gm} {Ω : Om} {Q : Qe} {R : Rx} {d d1 d2 : D} {e a b c : Expr} {es : List Expr} {kws : List Keyword} {pos : Pos} {Qf : List D → List D → Om → Prop}
theorem keeps_kp {pins : List (Addr × Obj)} {σ : L2.St} {f : Value} (hk : PySem.W.keepIn X.K f = true) : Keeps X pins σ f := ⟨fun h => X.K.In h, PySem.W.keeps_K hk, fun H' s' I => I.kIn⟩
theorem pk_all : PK X kws (allK X kws) := ⟨fun pos pins s σ H Q I h => h pos pins s I⟩
theorem allK_of {t : TA} {σ : L2.St} {H : Hp} {q : List V → Hp → Prop} (p : PK X kws t) (h : t σ H q) : allK X kws σ H q := fun pos pins s I => p.run pos pins s σ H q I h
theorem kx_nil {Q : List D → Om → Prop} (k : Q [] Ω) : KX X [] Γ Ω Q R := fun σ F H s q t _ => allK_of pk_nil (t _ _ _ _ _ k s.go0 DenL.nil)
theorem kx_cons {nm : Option Str} {kpos : Pos} {Q : List D → Om → Prop} (h : EX X e Γ Ω (fun d Ω1 => KX X kws Γ Ω1 (fun ds Ω2 => Q (d :: ds) Ω2) R) R) : KX X (⟨nm, e, kpos⟩ :: kws) Γ Ω Q R := fun σ F H s q t x =>
  allK_of (pk_cons pe_all pk_all) (h σ F H s _ (fun d Ω1 v F1 H1 hb g1 n1 => hb σ F1 H1 (s.go g1) _ (fun ds Ω2 vs F2 H2 z g2 n2 => (t.go g1) _ _ _ _ _ z g2 (DenL.cons (n1.mono g2.fr) n2)) (x.go g1)) x)
theorem ca_0 (k : Qf [] [] Ω) : CAX X pos [] [] [] Γ Ω Qf R := fun σ F H s pins sh f first Q I kp go tx => by
  obtain ⟨P, h1, h2⟩ := kp
  refine PySem.W.callWith_of (P := P) rfl h1 (PyProof.Rows.evalArgs_nil3 ⟨h2 H sh I, ?_⟩)
  exact go [] [] Ω [] [] [] [] F H sh k s.go0 DenL.nil DenL.nil .nil .nil I
theorem ca_p (h : AX X (e :: es) Γ Ω (fun ds Ω1 => Qf ds [] Ω1) R) (he : starEach (e :: es) X.env = (false, eval e X.env) :: starEach es X.env := by rfl) (hpl : (backTo pos (starEach es X.env)).any (·.1) = false := by rfl) : CAX X pos (e :: es) [] [] Γ Ω Qf R := fun σ F H s pins sh f first Q I kp go tx => by
  obtain ⟨P, h1, h2⟩ := kp
  have run := h σ F H s (fun vs H' => ∃ ds Ω' F', Qf ds [] Ω' ∧ Go X.K F H Ω F' H' Ω' ∧ DenL X.K F' ds vs) (fun ds Ω' vs F' H' z g n => ⟨ds, Ω', F', z, g, n⟩) tx pos pins sh I
  rw [he] at run ⊢
  refine PySem.W.callWith_of (P := P) (by show ((false || (backTo pos (starEach es X.env)).any (·.1)) || false) = false; rw [hpl]; rfl) h1 (Calls.evalArgs_plain (thn run fun us s1 ⟨vs, H1, I1, r, ds, Ω', F', z, g, n⟩ => ⟨h2 H1 s1 I1, ?_⟩))
  exact go ds [] Ω' vs [] us [] F' H1 s1 z g n DenL.nil r .nil I1
theorem ca_k {ks : List Str} (h : KX X kws Γ Ω (fun zs Ω1 => Qf [] zs Ω1) R) (hall : (backToKw pos (keywordEach kws X.env)).all (·.1.isSome) = true := by rfl) (hks : (backToKw pos (keywordEach kws X.env)).filterMap (·.1) = ks := by rfl)
    (hpl : ((backTo pos (starEach [] X.env)).any (·.1) || (backToKw pos (keywordEach kws X.env)).any (·.1.isNone)) = false := by rfl) : CAX X pos [] kws ks Γ Ω Qf R := fun σ F H s pins sh f first Q I kp go tx => by
  obtain ⟨P, h1, h2⟩ := kp
  have run := h σ F H s (fun vs H' => ∃ ds Ω' F', Qf [] ds Ω' ∧ Go X.K F H Ω F' H' Ω' ∧ DenL X.K F' ds vs) (fun ds Ω' vs F' H' z g n => ⟨ds, Ω', F', z, g, n⟩) tx pos pins sh I
  refine PySem.W.callWith_of (P := P) hpl h1 (PyProof.Rows.evalArgs_kw2_nil hall (thn run fun us s1 ⟨vs, H1, I1, r, ds, Ω', F', z, g, n⟩ => ⟨h2 H1 s1 I1, ?_⟩))
  rw [hks]
  exact go [] ds Ω' [] vs [] us F' H1 s1 z g DenL.nil n .nil r I1
theorem ca_pk {ks : List Str} (h : AX X (e :: es) Γ Ω (fun ds Ω1 => KX X kws Γ Ω1 (fun zs Ω2 => Qf ds zs Ω2) R) R) (hall : (backToKw pos (keywordEach kws X.env)).all (·.1.isSome) = true := by rfl) (hks : (backToKw pos (keywordEach kws X.env)).filterMap (·.1) = ks := by rfl)
    (he : starEach (e :: es) X.env = (false, eval e X.env) :: starEach es X.env := by rfl) (hpl : ((backTo pos (starEach (e :: es) X.env)).any (·.1) || (backToKw pos (keywordEach kws X.env)).any (·.1.isNone)) = false := by rfl) : CAX X pos (e :: es) kws ks Γ Ω Qf R := fun σ F H s pins sh f first Q I kp go tx => by
  obtain ⟨P, h1, h2⟩ := kp
  have run := h σ F H s (fun vs H' => ∃ ds Ω' F', KX X kws Γ Ω' (fun zs Ω2 => Qf ds zs Ω2) R ∧ Go X.K F H Ω F' H' Ω' ∧ DenL X.K F' ds vs) (fun ds Ω' vs F' H' z g n => ⟨ds, Ω', F', z, g, n⟩) tx pos pins sh I
  refine PySem.W.callWith_of (P := P) hpl h1 (PyProof.Rows.evalArgs_kw2 hall (thn run fun us s1 ⟨vs, H1, I1, r, ds, Ω', F', z, g, n⟩ => ?_) he)
  have run2 := z σ F' H1 (s.go g) (fun ws H' => ∃ zs Ω2 F2, Qf ds zs Ω2 ∧ Go X.K F' H1 Ω' F2 H' Ω2 ∧ DenL X.K F2 zs ws) (fun zs Ω2 ws F2 H2 z2 g2 n2 => ⟨zs, Ω2, F2, z2, g2, n2⟩) (tx.go g) pos pins s1 I1
  refine thn run2 fun us2 s2 ⟨ws, H2, I2, r2, zs, Ω2, F2, z2, g2, n2⟩ => ⟨h2 H2 s2 I2, ?_⟩
  rw [hks]
  exact go ds zs Ω2 vs ws us us2 F2 H2 s2 z2 (g.trans g2) (n.mono g2.fr) n2 r r2 I2
/-! ### the callee runs -/
variable {k m n : Nat} {f C : Addr} {fd : FuncData} {ps ks : List Str} {W : Wx} {gD : List D → List D → List D}
theorem run_sp {pins : List (Addr × Obj)} {σ : L2.St} {F H : Hp} {s : Shared} {q : VK} {Ωa Ωr : Om} {ds zs : List D} {vs ws : List V} {us us' : List Value} (Fn : FnOk X.prog X.w X.K X.mg X.base (L2.CX X.prog X.w) k f fd ps (spS X.K m W)) (hr : Room k X.A) (hb : KB X.K fd ps n ks gD)
    (ex : Ex F H) (ow : Own X.K F H (Ωa ++ Ωr)) (I : Inv X pins σ H s) (n1 : DenL X.K F ds vs) (n2 : DenL X.K F zs ws) (r1 : Vals vs us) (r2 : Vals ws us') (l1 : ds.length = n) (l2 : zs.length = ks.length) (l3 : (gD ds zs).length = m)
    (h : W (gD ds zs) Ωa (fun d Ω' => Q d (Ω' ++ Ωr)) (fun c fs Ω' => R c fs (Ω' ++ Ωr))) (t : TkE X.K F H (Ωa ++ Ωr) Q q) (x : TkX X σ F H (Ωa ++ Ωr) R) : wpAny (model X.prog X.w) X.A (call (.ref f) us (ks.zip us')) (EP X pins σ q) X.xe s := by
  obtain ⟨g, gV, hb, hd⟩ := hb.ex
  have rel := hb.rel r1 r2
  have bound := hb.to s us us' I.kIn (by rw [← r1.length, ← n1.len]; exact l1) (by rw [← r2.length, ← n2.len]; exact l2)
  have sp : spS X.K m W (gV vs ws) H q (WS X σ) := ⟨F, Ωa, gD ds zs, _, _, ex, ow.drop.1, l3, hd F ds zs vs ws n1 n2 l1 l2, h, fun d Ω' v F' H' z g n => t _ _ _ _ _ z (Go.frame ow g) n, fun c fs Ω' dd F' H' z g n => x c fs _ dd F' H' z (Go.frame ow g) n⟩
  refine wpAny_call (codeAny_mono (Fn.run X.A X.stack s H ⟨us, ks.zip us'⟩ _ _ q (WS X σ) hr I.env0 bound rel sp) fun res s' out => ?_)
  rcases res with err | fl
  · exact passW pins H s err s' I out
  · cases fl with
    | ret u => exact I.after out
    | next => exact out.elim
    | brk => exact out.elim
    | cont => exact out.elim
/-- f(..) -/
theorem ex_call {x : Str} {p : Pos} (Fn : FnOk X.prog X.w X.K X.mg X.base (L2.CX X.prog X.w) k f fd ps (spS X.K m W)) (hr : Room k X.A) (hm : X.mg x = some (.ref f)) (hk : PySem.W.keepIn X.K (.ref f) = true) (hb : KB X.K fd ps n ks gD)
    (h : CAX X pos es kws ks Γ Ω (fun ds zs Ω1 => ∃ Ωa Ωr, Ω1 = Ωa ++ Ωr ∧ ds.length = n ∧ zs.length = ks.length ∧ (gD ds zs).length = m ∧ W (gD ds zs) Ωa (fun d Ω' => Q d (Ω' ++ Ωr)) (fun c fs Ω' => R c fs (Ω' ++ Ωr))) R)
    (hg : Gl X x := by rfl) (hdb : (x == ("__debug__" : Str)) = false := by decide) : EX X (.Call (.Name x p) es kws pos) Γ Ω Q R := fun σ F H s q t tx pins sh I => by
  refine wpAny_Call_Name_kw (ld_glob I hg hm ?_ hdb)
  refine h σ F H s pins sh (.ref f) [] _ I (keeps_kp hk) (fun ds zs Ω' vs ws us us' F' H' s' ⟨Ωa, Ωr, e, l1, l2, l3, w⟩ g n1 n2 r1 r2 I' => ?_) tx
  subst e
  exact run_sp Fn hr hb g.ex g.ow I' n1 n2 r1 r2 l1 l2 l3 w (t.go g) (tx.go g)
/-- o.m(..) -/
theorem ex_meth {pl : Sem Bool} {o : Expr} {mn : Str} {apos : Pos} (c : Cls X.K C) (hm : Meth X.K C mn f) (Fn : FnOk X.prog X.w X.K X.mg X.base (L2.CX X.prog X.w) k f fd ps (spS X.K m W)) (hr : Room k X.A) (hb : KB X.K fd ps n ks gD)
    (h : EX X o Γ Ω (fun d1 Ω0 => ∃ fs, ObjAt Ω0 d1 C fs ∧ fs.lookup mn = none ∧ CAX X pos es kws ks Γ Ω0 (fun ds zs Ω1 => ∃ Ωa Ωr, Ω1 = Ωa ++ Ωr ∧ (d1 :: ds).length = n ∧ zs.length = ks.length ∧ (gD (d1 :: ds) zs).length = m ∧ W (gD (d1 :: ds) zs) Ωa (fun d Ω' => Q d (Ω' ++ Ωr)) (fun c fs Ω' => R c fs (Ω' ++ Ωr))) R) R)
    (ht : eval (.Call (.Attribute o mn apos) es kws pos) X.env = (do
      let ov ← eval o X.env
      standAt apos.atName
      let (f, first) ← holding [ov] (getMethod ov mn pl)
      callWith pos f first (backTo pos (starEach es X.env)) (backToKw pos (keywordEach kws X.env))) := by rfl) : EX X (.Call (.Attribute o mn apos) es kws pos) Γ Ω Q R := fun σ F H s q t tx pins sh I => by
  refine PySem.W.methodCall_KW (pl := pl) (thn (h σ F H s (fun v H' => ∃ d1 Ω' F' fs, Go X.K F H Ω F' H' Ω' ∧ Den X.K F' d1 v ∧ ObjAt Ω' d1 C fs ∧ fs.lookup mn = none ∧ CAX X pos es kws ks Γ Ω' (fun ds zs Ω1 => ∃ Ωa Ωr, Ω1 = Ωa ++ Ωr ∧ (d1 :: ds).length = n ∧ zs.length = ks.length ∧ (gD (d1 :: ds) zs).length = m ∧ W (gD (d1 :: ds) zs) Ωa (fun d Ω' => Q d (Ω' ++ Ωr)) (fun c fs Ω' => R c fs (Ω' ++ Ωr))) R) (fun d1 Ω' v F' H' ⟨fs, o1, o2, o3⟩ g n => ⟨d1, Ω', F', fs, g, n, o1, o2, o3⟩) tx pins sh I) fun u s1 ⟨v, H1, I1, r1, d1, Ω', F1, fs, g1, n1, o1, o2, o3⟩ => ?_) ht
  obtain ⟨ad, dx, gs, rfl, ha, hF⟩ := o1.get g1.ex g1.ow n1
  obtain rfl : u = Value.ref ad := r1
  refine getmeth_ok I1 ha c hm (denF_none hF o2) ?_
  refine o3 σ F1 H1 (s.go g1) pins s1 (.ref f) [.ref ad] _ I1 (keeps_kp hm.kp) (fun ds zs Ω2 vs ws us us' F' H' s' ⟨Ωa, Ωr, e, l1, l2, l3, w⟩ g q1 q2 r2 r3 I' => ?_) (tx.go g1)
  subst e
  exact run_sp Fn hr hb g.ex g.ow I' (DenL.cons (n1.mono g.fr) q1) q2 (.cons (show RelV (V.ref ad) (Value.ref ad) from rfl) r2) r3 l1 l2 l3 w (t.go (g1.trans g)) (tx.go (g1.trans g))
/-- o.p, a property -/
theorem ex_prop {pn : Str} {pp : Addr} {p : Pos} (c : Cls X.K C) (hp : PropOf X.K C pn pp f) (Fn : FnOk X.prog X.w X.K X.mg X.base (L2.CX X.prog X.w) k f fd ps (spS X.K 1 W)) (hr : Room (k + 1) X.A) (hb : Binds X.K fd ps [])
    (h : EX X a Γ Ω (fun d1 Ω1 => ∃ fs Ωa Ωr, Ω1 = Ωa ++ Ωr ∧ ObjAt Ω1 d1 C fs ∧ W [d1] Ωa (fun d Ω' => Q d (Ω' ++ Ωr)) (fun _ _ _ => False)) R) (hab : attributeBase a pn X.env (eval a X.env) = eval a X.env := by rfl) : EX X (.Attribute a pn p) Γ Ω Q R := fun σ F H s q t x => by
  refine allE_of (pe_prop (E := fun _ _ _ => False) pe_all c hp Fn hr hb .nil (fun _ _ _ _ _ _ _ z => by obtain ⟨_, _, _, _, _, _, _, _, _, _, _, _, z⟩ := z; exact z.elim) hab) (h σ F H s _ (fun d1 Ω1 v F1 H1 ⟨fs, Ωa, Ωr, e, o, w⟩ g n => ?_) x)
  subst e
  obtain ⟨ad, dx, gs, rfl, ha, hF⟩ := o.get g.ex g.ow n
  exact ⟨ad, dx, gs, rfl, ha, F1, Ωa, [d1], _, _, g.ex, g.ow.drop.1, rfl, DenL.cons n DenL.nil, w, fun d Ω' v F' H' z g2 n2 => t _ _ _ _ _ z (g.trans (Go.frame g.ow g2)) n2, fun _ _ _ _ _ _ z => z.elim⟩
/-- a new instance -/
theorem run_new {pins : List (Addr × Obj)} {σ : L2.St} {F H : Hp} {s : Shared} {q : VK} {Ωa Ωr : Om} {ds zs : List D} {vs ws : List V} {us us' : List Value} (M : Mk X.K C f) (Fn : FnOk X.prog X.w X.K X.mg X.base (L2.CX X.prog X.w) k f fd ps (spS X.K m W)) (hr : Room (k + 1) X.A) (hb : KB X.K fd ps n ks gD)
    (ex : Ex F H) (ow : Own X.K F H (Ωa ++ Ωr)) (I : Inv X pins σ H s) (n1 : DenL X.K F ds vs) (n2 : DenL X.K F zs ws) (r1 : Vals vs us) (r2 : Vals ws us') (l1 : ds.length + 1 = n) (l2 : zs.length = ks.length)
    (h : ∀ x : Addr, (gD (.v (.ref x) :: ds) zs).length = m ∧ W (gD (.v (.ref x) :: ds) zs) ((x, .ins C []) :: Ωa) (fun d Ω' => d = .v .non ∧ Q (.v (.ref x)) (Ω' ++ Ωr)) (fun c fs Ω' => R c fs (Ω' ++ Ωr))) (t : TkE X.K F H (Ωa ++ Ωr) Q q) (x : TkX X σ F H (Ωa ++ Ωr) R) : wpAny (model X.prog X.w) X.A (call (.ref C) us (ks.zip us')) (EP X pins σ q) X.xe s := by
  obtain ⟨g, gV, hb, hd⟩ := hb.ex
  let nn := s.heap.objs.size
  have J : Inv X pins σ _ _ := Inv.made (C := C) I
  have hx : H (nn + 1) = none := I.hok.fresh (Nat.le_succ _)
  have hdx : H nn = none := I.hok.fresh (Nat.le_refl _)
  have hx2 : upd H nn (.own (nn + 1)) (nn + 1) = none := by rw [upd_ne (Nat.succ_ne_self nn)]; exact hx
  have g1 : Go X.K F H (Ωa ++ Ωr) F (upd H nn (.own (nn + 1))) (Ωa ++ Ωr) := Go.more ex ow (Ex.new hdx)
  have g2 := g1.trans (Go.alloc (c := .ins C []) (o := .ins C nn []) g1.ex g1.ow hx2 ⟨nn, [], upd_same, by simp only [DenF]⟩)
  obtain ⟨l3, w⟩ := h (nn + 1)
  have rel1 : Vals (V.ref (nn + 1) :: vs) (Value.ref (nn + 1) :: us) := .cons (show RelV (V.ref (nn + 1)) (Value.ref (nn + 1)) from rfl) r1
  have den1 : DenL X.K F (.v (.ref (nn + 1)) :: ds) (V.ref (nn + 1) :: vs) := DenL.cons (den_v.mpr rfl) n1
  have rel := hb.rel rel1 r2
  have bound := hb.to _ (Value.ref (nn + 1) :: us) us' J.kIn (by rw [← rel1.length, ← den1.len, List.length_cons]; exact l1) (by rw [← r2.length, ← n2.len]; exact l2)
  have g2' : Go X.K F H (Ωa ++ Ωr) F (upd (upd H nn (.own (nn + 1))) (nn + 1) (.ins C nn [])) (((nn + 1, .ins C []) :: Ωa) ++ Ωr) := g2
  have sp : spS X.K m W (gV (V.ref (nn + 1) :: vs) ws) (upd (upd H nn (.own (nn + 1))) (nn + 1) (.ins C nn [])) (fun v H2 => v = .non ∧ q (.ref (nn + 1)) H2) (WS X σ) :=
    ⟨F, (nn + 1, .ins C []) :: Ωa, _, _, _, g2'.ex, g2'.ow.drop.1, l3, hd F _ zs _ ws den1 n2 (by rw [List.length_cons]; exact l1) l2, w, fun d Ω' v F' H' ⟨z1, z2⟩ g n => by
      subst z1
      exact ⟨den_v.mp n, t _ _ _ _ _ z2 (g2'.trans (Go.frame g2'.ow g)) (den_v.mpr rfl)⟩, fun c fs Ω' dd F' H' z g n => x c fs _ dd F' H' z (g2'.trans (Go.frame g2'.ow g)) n⟩
  have ran := Fn.run _ X.stack _ _ ⟨Value.ref (nn + 1) :: us, ks.zip us'⟩ _ _ _ (WS X σ) (hr.make C us (ks.zip us')) (J.env0.make C us (ks.zip us')) bound rel sp
  refine wpAny_call (make_map (f := f) I.kIn M.makes M.init (beq_iff_eq.mp M.fn) (codeAny_mono ran fun res s' out => ?_))
  rcases res with err | fl
  · exact passW pins _ _ err s' J out
  · cases fl with
    | ret u =>
      obtain ⟨y, H', I3, ry, ey, q3⟩ := J.after out
      subst ey
      exact ⟨ry, ⟨V.ref (nn + 1), H', I3, rfl, q3⟩⟩
    | next => exact out.elim
    | brk => exact out.elim
    | cont => exact out.elim
theorem ex_make {x : Str} {p : Pos} (M : Mk X.K C f) (Fn : FnOk X.prog X.w X.K X.mg X.base (L2.CX X.prog X.w) k f fd ps (spS X.K m W)) (hr : Room (k + 1) X.A) (hm : X.mg x = some (.ref C)) (hb : KB X.K fd ps n ks gD)
    (h : CAX X pos es kws ks Γ Ω (fun ds zs Ω1 => ∃ Ωa Ωr, Ω1 = Ωa ++ Ωr ∧ ds.length + 1 = n ∧ zs.length = ks.length ∧ ∀ x : Addr, (gD (.v (.ref x) :: ds) zs).length = m ∧ W (gD (.v (.ref x) :: ds) zs) ((x, .ins C []) :: Ωa) (fun d Ω' => d = .v .non ∧ Q (.v (.ref x)) (Ω' ++ Ωr)) (fun c fs Ω' => R c fs (Ω' ++ Ωr))) R)
    (hg : Gl X x := by rfl) (hdb : (x == ("__debug__" : Str)) = false := by decide) : EX X (.Call (.Name x p) es kws pos) Γ Ω Q R := fun σ F H s q t tx pins sh I => by
  refine wpAny_Call_Name_kw (ld_glob I hg hm ?_ hdb)
  refine h σ F H s pins sh (.ref C) [] _ I (keeps_kp M.kp) (fun ds zs Ω' vs ws us us' F' H' s' ⟨Ωa, Ωr, e, l1, l2, w⟩ g n1 n2 r1 r2 I' => ?_) tx
  subst e
  exact run_new M Fn hr hb g.ex g.ow I' n1 n2 r1 r2 l1 l2 w (t.go g) (tx.go g)
/-- the same by a local name that holds the class -/
theorem ex_makeV (i : Nat) {x : Str} {p : Pos} (M : Mk X.K C f) (Fn : FnOk X.prog X.w X.K X.mg X.base (L2.CX X.prog X.w) k f fd ps (spS X.K m W)) (hr : Room (k + 1) X.A) (hi : Γ[i]? = some (some (.v (.ref C)))) (hb : KB X.K fd ps n ks gD)
    (h : CAX X pos es kws ks Γ Ω (fun ds zs Ω1 => ∃ Ωa Ωr, Ω1 = Ωa ++ Ωr ∧ ds.length + 1 = n ∧ zs.length = ks.length ∧ ∀ x : Addr, (gD (.v (.ref x) :: ds) zs).length = m ∧ W (gD (.v (.ref x) :: ds) zs) ((x, .ins C []) :: Ωa) (fun d Ω' => d = .v .non ∧ Q (.v (.ref x)) (Ω' ++ Ωr)) (fun c fs Ω' => R c fs (Ω' ++ Ωr))) R)
    (hN : X.N[i]? = some x := by rfl) (hv : Vis X.env.scope x := by first | exact Or.inl rfl | exact Or.inr (Or.inl rfl) | exact Or.inr (Or.inr rfl)) (hdb : (x == ("__debug__" : Str)) = false := by decide) (hcd : (x == ("__classdict__" : Str)) = false := by decide) : EX X (.Call (.Name x p) es kws pos) Γ Ω Q R := fun σ F H s q t tx pins sh I => by
  obtain ⟨v, e1, dv⟩ := s.cx i _ hi
  rw [den_v.mp dv] at e1
  have po : PE X (.Name x p) (tVar i) := pe_var hN hv hdb hcd
  refine wpAny_Call_Name_kw (thn (po.run pins sh σ H (fun v H' => v = .ref C ∧ H' = H) I ⟨.ref C, e1, rfl, rfl⟩) fun u s1 ⟨v, H0, I0, rv, ev, eH⟩ => ?_)
  subst ev eH
  obtain rfl : u = Value.ref C := rv
  refine h σ F H0 s pins s1 (.ref C) [] _ I0 (keeps_kp M.kp) (fun ds zs Ω' vs ws us us' F' H' s' ⟨Ωa, Ωr, e, l1, l2, w⟩ g n1 n2 r1 r2 I' => ?_) tx
  subst e
  exact run_new M Fn hr hb g.ex g.ow I' n1 n2 r1 r2 l1 l2 w (t.go g) (tx.go g)
/-- a new instance that changes no more -/
theorem ex_frzO (h : EX X e Γ Ω (fun d Ω' => ∃ p C fs Ω1, d = .v (.ref p) ∧ Ω' = (p, .ins C fs) :: Ω1 ∧ Q (.obj C fs) Ω1) R) : EX X e Γ Ω Q R := fun σ F H s q t x =>
  h σ F H s q (fun d Ω' v F' H' ⟨p, C, fs, Ω1, e1, e2, z⟩ g n => by
    subst e1; subst e2
    rw [den_v.mp n]
    obtain ⟨⟨h1, _, dx, gs, h2, h3⟩, _⟩ := g.ow
    refine t _ _ _ _ _ z (g.trans (Go.freeze g.ex g.ow h2)) ?_
    simp only [Den]
    exact ⟨p, dx, gs, rfl, upd_same, h3.mono (Ex.new h1)⟩) x
/-- C.m(..), m a static method -/
theorem ex_smeth {pl : Sem Bool} {pa : Addr} {o : Expr} {mn : Str} {apos : Pos} (S : SMet X.K C mn pa f) (Fn : FnOk X.prog X.w X.K X.mg X.base (L2.CX X.prog X.w) k f fd ps (spS X.K m W)) (hr : Room k X.A) (hb : KB X.K fd ps n ks gD)
    (h : EX X o Γ Ω (fun d1 Ω0 => d1 = .v (.ref C) ∧ CAX X pos es kws ks Γ Ω0 (fun ds zs Ω1 => ∃ Ωa Ωr, Ω1 = Ωa ++ Ωr ∧ ds.length = n ∧ zs.length = ks.length ∧ (gD ds zs).length = m ∧ W (gD ds zs) Ωa (fun d Ω' => Q d (Ω' ++ Ωr)) (fun c fs Ω' => R c fs (Ω' ++ Ωr))) R) R)
    (ht : eval (.Call (.Attribute o mn apos) es kws pos) X.env = (do
      let ov ← eval o X.env
      standAt apos.atName
      let (f, first) ← holding [ov] (getMethod ov mn pl)
      callWith pos f first (backTo pos (starEach es X.env)) (backToKw pos (keywordEach kws X.env))) := by rfl) : EX X (.Call (.Attribute o mn apos) es kws pos) Γ Ω Q R := fun σ F H s q t tx pins sh I => by
  refine PySem.W.methodCall_KW (pl := pl) (thn (h σ F H s (fun v H' => ∃ Ω' F', Go X.K F H Ω F' H' Ω' ∧ v = .ref C ∧ CAX X pos es kws ks Γ Ω' (fun ds zs Ω1 => ∃ Ωa Ωr, Ω1 = Ωa ++ Ωr ∧ ds.length = n ∧ zs.length = ks.length ∧ (gD ds zs).length = m ∧ W (gD ds zs) Ωa (fun d Ω' => Q d (Ω' ++ Ωr)) (fun c fs Ω' => R c fs (Ω' ++ Ωr))) R) (fun d1 Ω' v F' H' ⟨o1, o3⟩ g n => ⟨Ω', F', g, by subst o1; exact den_v.mp n, o3⟩) tx pins sh I) fun u s1 ⟨v, H1, I1, r1, Ω', F1, g1, ev, o3⟩ => ?_) ht
  subst ev
  obtain rfl : u = Value.ref C := r1
  obtain ⟨rest, hp⟩ := S.rc
  refine PySem.W.method_cls I1.kIn S.ga (PySem.W.cls_bind I1.kIn S.rd S.at_ (PySem.wpAny_call (PySem.W.sm_get (s := { s1 with toks := s1.toks + 1 }) I1.kIn hp (PySem.W.handed_on rfl ?_))))
  have I2 : Inv X pins σ H1 { s1 with toks := s1.toks + 1 } := I1.tok _
  refine o3 σ F1 H1 (s.go g1) pins _ (.ref f) [] _ I2 (keeps_kp S.kp) (fun ds zs Ω2 vs ws us us' F' H' s' ⟨Ωa, Ωr, e, l1, l2, l3, w⟩ g q1 q2 r2 r3 I' => ?_) (tx.go g1)
  subst e
  exact run_sp Fn hr hb g.ex g.ow I' q1 q2 r2 r3 l1 l2 l3 w (t.go (g1.trans g)) (tx.go (g1.trans g))
end
end Sy

namespace Sy
open PySem L2 Evl Trk
/-! ### what is walked -/
/-- items; while S holds of the own things they stay; then Q -/
def TkI (K : PySem.W.Frag) (F H : Hp) (Ω : Om) (Q : List D → (Om → Prop) → Om → Prop) (r : It → Hp → Prop) : Prop :=
  ∀ (items : List D) (S : Om → Prop) (Ω1 : Om) (J : It) (n : Nat) (G : Hp → Prop) (Y : Nat → Hp → V → Hp → Prop) (F1 H1 : Hp), Q items S Ω1 → Go K F H Ω F1 H1 Ω1 → items.length = n → Walk J n G Y →
    (∀ F2 H2 Ω2, Go K F1 H1 Ω1 F2 H2 Ω2 → S Ω2 → G H2) → (∀ i F2 H2 Ω2 x H3 d, Go K F1 H1 Ω1 F2 H2 Ω2 → S Ω2 → Y i H2 x H3 → items[i]? = some d → ∃ F3, Go K F2 H2 Ω2 F3 H3 Ω2 ∧ Den K F3 d x) → r J H1
def IX (X : Cx) (tg iter : Expr) (Γ : Gm) (Ω : Om) (Q : List D → (Om → Prop) → Om → Prop) (R : Rx) : Prop := ∃ wi, PI X tg iter wi ∧ ∀ σ F H, Sta X Γ Ω σ F H → ∀ r : It → Hp → Prop, TkI X.K F H Ω Q r → TkX X σ F H Ω R → wi σ H r
theorem walk_ofL {K : PySem.W.Frag} {a : Addr} {n : Nat} : Walk (Itl K a) n (fun H => ∃ ys, SqL K H a ys ∧ ys.length = n) (fun i H x H' => H' = H ∧ ∀ ys, SqL K H a ys → ys[i]? = some x) :=
  ⟨fun i H hi ⟨ys, h1, h2⟩ => ⟨ys, ys[i]'(by omega), h1, List.getElem?_eq_getElem (by omega)⟩, fun H ⟨ys, h1, h2⟩ => ⟨ys, h1, by omega⟩, fun i H x H' hi g y => y⟩
theorem walk_ofT {K : PySem.W.Frag} {a : Addr} {n : Nat} : Walk (Itt K a) n (fun H => ∃ ys, SqT K H a ys ∧ ys.length = n) (fun i H x H' => H' = H ∧ ∀ ys, SqT K H a ys → ys[i]? = some x) :=
  ⟨fun i H hi ⟨ys, h1, h2⟩ => ⟨ys, ys[i]'(by omega), h1, List.getElem?_eq_getElem (by omega)⟩, fun H ⟨ys, h1, h2⟩ => ⟨ys, h1, by omega⟩, fun i H x H' hi g y => y⟩
theorem walk_ofE {K : PySem.W.Frag} {a : Addr} {n : Nat} : Walk (Ite K a) n (fun H => ∃ ys, SqL K H a ys ∧ ys.length = n) (fun i H v H' => ∃ T x, v = .ref T ∧ H T = none ∧ H' = upd H T (.tup [.int (i : Nat), x]) ∧ ∀ xs, SqL K H a xs → xs[i]? = some x) :=
  ⟨fun i H hi ⟨ys, h1, h2⟩ => ⟨ys, ys[i]'(by omega), h1, List.getElem?_eq_getElem (by omega)⟩, fun H ⟨ys, h1, h2⟩ => ⟨ys, h1, by omega⟩, fun i H x H' hi g y => y⟩
theorem walk_ofZ {K : PySem.W.Frag} {a b : Addr} {n m : Nat} : Walk (Itz K a b) (min n m) (fun H => (∃ ys, SqL K H a ys ∧ ys.length = n) ∧ ∃ zs, SqL K H b zs ∧ zs.length = m)
    (fun i H v H' => ∃ T x y, v = .ref T ∧ H T = none ∧ H' = upd H T (.tup [x, y]) ∧ (∀ xs, SqL K H a xs → xs[i]? = some x) ∧ ∀ ys, SqL K H b ys → ys[i]? = some y) :=
  ⟨fun i H hi ⟨⟨ys, h1, h2⟩, zs, h3, h4⟩ => ⟨ys, zs, ys[i]'(by omega), zs[i]'(by omega), h1, h3, List.getElem?_eq_getElem (by omega), List.getElem?_eq_getElem (by omega)⟩,
   fun H ⟨⟨ys, h1, h2⟩, zs, h3, h4⟩ => ⟨ys, zs, h1, h3, by omega⟩, fun i H x H' hi g y => y⟩
section
variable {X : Cx} {Γ : Gm} {Ω : Om} {R : Rx} {d d1 d2 : D} {ds : List D} {e a b c tg : Expr} {es : List Expr} {pos : Pos} {st : Stmt} {sts body : List Stmt} {Φ Ψ : OS → Prop} {Q : List D → (Om → Prop) → Om → Prop}
/-- a list, frozen or own -/
theorem ix_list (h : EX X e Γ Ω (fun d Ω1 => ∃ ds, LstAt Ω1 d ds ∧ Q ds (fun Ω' => LstAt Ω' d ds) Ω1) R) (hpi : ∀ {t : TE}, PE X e t → PI X tg e (iList X.K t) := by intro _ h; exact pi_list h) : IX X tg e Γ Ω Q R :=
  ⟨_, hpi pe_all, fun σ F H s r t x => h σ F H s _ (fun d Ω1 v F1 H1 ⟨ds, l, z⟩ g n => by
    obtain ⟨p, ys, rfl, h1, h2⟩ := l.get g.ex g.ow n
    refine ⟨p, rfl, ⟨ys, SqL.of h1⟩, t ds _ Ω1 _ ds.length _ _ F1 H1 z g rfl walk_ofL (fun F2 H2 Ω2 g2 l2 => ?_) fun i F2 H2 Ω2 y H3 di g2 l2 hy hd => ?_⟩
    · obtain ⟨p', ys', ep, h3, h4⟩ := l2.get g2.ex g2.ow (n.mono g2.fr)
      cases ep
      exact ⟨ys', SqL.of h3, h4.len.symm⟩
    · obtain ⟨p', ys', ep, h3, h4⟩ := l2.get g2.ex g2.ow (n.mono g2.fr)
      cases ep
      obtain ⟨e1, e2⟩ := hy
      subst e1
      obtain ⟨y', hy', dy⟩ := h4.get hd
      rw [e2 ys' (SqL.of h3)] at hy'
      cases hy'
      exact ⟨F2, Go.refl g2.ex g2.ow, dy⟩) x⟩
theorem ix_tup (h : EX X e Γ Ω (fun d Ω1 => ∃ ds, d = .tup ds ∧ Q ds (fun _ => True) Ω1) R) (hpi : ∀ {t : TE}, PE X e t → PI X tg e (iTup X.K t) := by intro _ h; exact pi_tup h) : IX X tg e Γ Ω Q R :=
  ⟨_, hpi pe_all, fun σ F H s r t x => h σ F H s _ (fun d Ω1 v F1 H1 ⟨ds, e1, z⟩ g n => by
    subst e1
    simp only [Den] at n
    obtain ⟨p, ys, rfl, h1, h2⟩ := n
    refine ⟨p, rfl, ⟨ys, ex_t g.ex h1⟩, t ds _ Ω1 _ ds.length _ _ F1 H1 z g rfl walk_ofT (fun F2 H2 Ω2 g2 l2 => ⟨ys, ex_t (g2.fr.trans g2.ex) h1, h2.len.symm⟩) fun i F2 H2 Ω2 y H3 di g2 l2 hy hd => ?_⟩
    obtain ⟨e1, e2⟩ := hy
    subst e1
    obtain ⟨y', hy', dy⟩ := h2.get hd
    rw [e2 ys (ex_t (g2.fr.trans g2.ex) h1)] at hy'
    cases hy'
    exact ⟨F2, Go.refl g2.ex g2.ow, dy.mono g2.fr⟩) x⟩
/-- the ints of a range, as values -/
def rngD (lo : Int) (n : Nat) : List D := (List.range n).map fun i : Nat => iD (lo + (i : Int))
theorem rngD_get {lo : Int} {n i : Nat} {d : D} (h : (rngD lo n)[i]? = some d) : i < n ∧ d = iD (lo + (i : Int)) := by
  unfold rngD at h
  rw [List.getElem?_map] at h
  by_cases hi : i < n
  · rw [List.getElem?_eq_getElem (by simpa using hi)] at h
    simp at h
    exact ⟨hi, h.symm⟩
  · rw [List.getElem?_eq_none (by simp; omega)] at h
    cases h
theorem ix_rng1 {p : Pos} (hm : X.mg "range" = none) (h : EX X e Γ Ω (fun d Ω1 => ∃ n : Int, d = iD n ∧ -(2 ^ 62) ≤ n ∧ n < 2 ^ 62 ∧ Q (rngD 0 n.toNat) (fun _ => True) Ω1) R) (hg : Gl X "range" := by rfl) (he : starEach [e] X.env = [(false, eval e X.env)] := by rfl) (hse : starEach (e :: []) X.env = (false, eval e X.env) :: starEach [] X.env := by rfl) :
    IX X tg (.Call (.Name "range" p) [e] [] pos) Γ Ω Q R :=
  ⟨_, pi_range1 hg hm (pa_cons pe_all pa_nil hse) he, fun σ F H s r t x => h σ F H s _ (fun d Ω1 v F1 H1 ⟨n, e1, b1, b2, z⟩ g nn => by
    subst e1
    refine ⟨n, by rw [den_v.mp nn], b1, b2, t _ _ Ω1 _ n.toNat _ _ F1 H1 z g (by simp [rngD]) walk_range (fun _ _ _ _ _ => True.intro) fun i F2 H2 Ω2 y H3 di g2 l2 hy hd => ?_⟩
    obtain ⟨e1, e2⟩ := hy
    subst e1; subst e2
    obtain ⟨_, rfl⟩ := rngD_get hd
    exact ⟨F2, Go.refl g2.ex g2.ow, den_v.mpr rfl⟩) x⟩
theorem ix_rng2 {p : Pos} (hm : X.mg "range" = none) (h : EX X a Γ Ω (fun d Ω0 => EX X b Γ Ω0 (fun d2 Ω1 => ∃ i j : Int, d = iD i ∧ d2 = iD j ∧ (-(2 ^ 62) ≤ i ∧ i < 2 ^ 62 ∧ -(2 ^ 62) ≤ j ∧ j < 2 ^ 62) ∧ Q (rngD i (j - i).toNat) (fun _ => True) Ω1) R) R) (hg : Gl X "range" := by rfl)
    (hs : starEach [a, b] X.env = [(false, eval a X.env), (false, eval b X.env)] := by rfl) (hs2 : starEach [b] X.env = [(false, eval b X.env)] := by rfl) (hs3 : starEach (a :: [b]) X.env = (false, eval a X.env) :: starEach [b] X.env := by rfl) (hs4 : starEach (b :: []) X.env = (false, eval b X.env) :: starEach [] X.env := by rfl) :
    IX X tg (.Call (.Name "range" p) [a, b] [] pos) Γ Ω Q R :=
  ⟨_, pi_range2 hg hm (pa_cons pe_all (pa_cons pe_all pa_nil hs4) hs3) hs hs2, fun σ F H s r t x => h σ F H s _ (fun d Ω0 v F0 H0 hb g0 n0 => hb σ F0 H0 (s.go g0) _ (fun d2 Ω1 w F1 H1 ⟨i, j, e1, e2, bb, z⟩ g1 n1 => by
    subst e1; subst e2
    refine ⟨i, j, by rw [den_v.mp n0, den_v.mp n1], bb, t _ _ Ω1 _ (j - i).toNat _ _ F1 H1 z (g0.trans g1) (by simp [rngD]) walk_range (fun _ _ _ _ _ => True.intro) fun k F2 H2 Ω2 y H3 di g2 l2 hy hd => ?_⟩
    obtain ⟨e1, e2⟩ := hy
    subst e1; subst e2
    obtain ⟨_, rfl⟩ := rngD_get hd
    exact ⟨F2, Go.refl g2.ex g2.ow, den_v.mpr rfl⟩) (x.go g0)) x⟩
def stpD (lo c : Int) (n : Nat) : List D := (List.range n).map fun i : Nat => iD (lo + (i : Int) * c)
theorem ix_rng3 {p : Pos} (hm : X.mg "range" = none) (h : EX X a Γ Ω (fun d Ω0 => EX X b Γ Ω0 (fun d2 Ω1 => EX X c Γ Ω1 (fun d3 Ω2 => ∃ (i j k : Int) (n : Nat), d = iD i ∧ d2 = iD j ∧ d3 = iD k ∧ RgC i j k n ∧ Q (stpD i k n) (fun _ => True) Ω2) R) R) R) (hg : Gl X "range" := by rfl)
    (hse : starEach (a :: b :: c :: []) X.env = (false, eval a X.env) :: starEach (b :: c :: []) X.env := by rfl) (hse2 : starEach (b :: c :: []) X.env = (false, eval b X.env) :: starEach (c :: []) X.env := by rfl) (hse3 : starEach (c :: []) X.env = (false, eval c X.env) :: starEach [] X.env := by rfl)
    (hpl : (backTo pos (starEach (b :: c :: []) X.env)).any (·.1) = false := by rfl) :
    IX X tg (.Call (.Name "range" p) [a, b, c] [] pos) Γ Ω Q R :=
  ⟨_, pi_range3 hg hm (pa_cons pe_all (pa_cons pe_all (pa_cons pe_all pa_nil hse3) hse2) hse) hse hpl, fun σ F H s r t x => h σ F H s _ (fun d Ω0 v F0 H0 hb g0 n0 => hb σ F0 H0 (s.go g0) _ (fun d2 Ω1 w F1 H1 hc g1 n1 => hc σ F1 H1 (s.go (g0.trans g1)) _ (fun d3 Ω2 u F2 H2 ⟨i, j, k, n, e1, e2, e3, bb, z⟩ g2 n2 => by
    subst e1; subst e2; subst e3
    refine ⟨i, j, k, n, by rw [den_v.mp n0, den_v.mp n1, den_v.mp n2], bb, t _ _ Ω2 _ n _ _ F2 H2 z ((g0.trans g1).trans g2) (by simp [stpD]) walk_rangeC (fun _ _ _ _ _ => True.intro) fun l F3 H3 Ω3 y H4 di g3 l2 hy hd => ?_⟩
    obtain ⟨e1, e2⟩ := hy
    subst e1; subst e2
    refine ⟨F3, Go.refl g3.ex g3.ow, ?_⟩
    unfold stpD at hd
    rw [List.getElem?_map] at hd
    by_cases hi : l < n
    · rw [List.getElem?_eq_getElem (by simpa using hi)] at hd
      simp at hd
      subst hd
      exact den_v.mpr rfl
    · rw [List.getElem?_eq_none (by simp; omega)] at hd
      cases hd) (x.go (g0.trans g1))) (x.go g0)) x⟩
/-- pairs with their numbers -/
def enuD (ds : List D) : List D := (List.range ds.length).map fun i : Nat => .tup [iD (i : Int), ds.getD i (iD 0)]
def zipD (ds es : List D) : List D := (List.range (min ds.length es.length)).map fun i : Nat => .tup [ds.getD i (iD 0), es.getD i (iD 0)]
theorem map_get {n i : Nat} {f : Nat → D} {d : D} (h : ((List.range n).map f)[i]? = some d) : i < n ∧ d = f i := by
  rw [List.getElem?_map] at h
  by_cases hi : i < n
  · rw [List.getElem?_eq_getElem (by simpa using hi)] at h
    simp at h
    exact ⟨hi, h.symm⟩
  · rw [List.getElem?_eq_none (by simp; omega)] at h
    cases h
theorem den_pair {K : PySem.W.Frag} {F : Hp} {T : Addr} {x y : V} (h : F T = some (.tup [x, y])) (h1 : Den K F d1 x) (h2 : Den K F d2 y) : Den K F (.tup [d1, d2]) (.ref T) := by
  simp only [Den]
  exact ⟨T, [x, y], rfl, st_of h, DenL.cons h1 (DenL.cons h2 DenL.nil)⟩
theorem ix_enum {p tpos : Pos} {elts : List Expr} {kk : Nat} (hm : X.mg "enumerate" = none) (h : EX X e Γ Ω (fun d Ω1 => ∃ ds, LstAt Ω1 d ds ∧ Q (enuD ds) (fun Ω' => LstAt Ω' d ds) Ω1) R) (hg : Gl X "enumerate" := by rfl) (he : starEach [e] X.env = [(false, eval e X.env)] := by rfl) (hse : starEach (e :: []) X.env = (false, eval e X.env) :: starEach [] X.env := by rfl) :
    IX X (.Tuple elts kk tpos) (.Call (.Name "enumerate" p) [e] [] pos) Γ Ω Q R :=
  ⟨_, pi_enum hg hm (pa_cons pe_all pa_nil hse) he, fun σ F H s r t x => h σ F H s _ (fun d Ω1 v F1 H1 ⟨ds, l, z⟩ g n => by
    obtain ⟨p, ys, rfl, h1, h2⟩ := l.get g.ex g.ow n
    refine ⟨p, ys, rfl, SqL.of h1, t _ _ Ω1 _ ds.length _ _ F1 H1 z g (by simp [enuD]) walk_ofE (fun F2 H2 Ω2 g2 l2 => ?_) fun i F2 H2 Ω2 y H3 di g2 l2 hy hd => ?_⟩
    · obtain ⟨p', ys', ep, h3, h4⟩ := l2.get g2.ex g2.ow (n.mono g2.fr)
      cases ep
      exact ⟨ys', SqL.of h3, h4.len.symm⟩
    · obtain ⟨p', ys', ep, h3, h4⟩ := l2.get g2.ex g2.ow (n.mono g2.fr)
      cases ep
      obtain ⟨T, y', rfl, hT, rfl, e2⟩ := hy
      obtain ⟨hi, rfl⟩ := map_get hd
      obtain ⟨y2, hy2, dy⟩ := h4.get (List.getElem?_eq_getElem hi)
      rw [e2 ys' (SqL.of h3)] at hy2
      cases hy2
      have gg := Go.lay (o := .tup [.int (i : Nat), y']) g2.ex g2.ow hT
      refine ⟨_, gg, den_pair upd_same (den_v.mpr rfl) ?_⟩
      rw [List.getD_eq_getElem?_getD, List.getElem?_eq_getElem hi]
      exact dy.mono gg.fr) x⟩
theorem ix_zip {p tpos : Pos} {elts : List Expr} {kk : Nat} (hm : X.mg "zip" = none) (h : EX X a Γ Ω (fun d Ω0 => EX X b Γ Ω0 (fun d2 Ω1 => ∃ ds es, LstAt Ω1 d ds ∧ LstAt Ω1 d2 es ∧ Q (zipD ds es) (fun Ω' => LstAt Ω' d ds ∧ LstAt Ω' d2 es) Ω1) R) R) (hg : Gl X "zip" := by rfl)
    (hst : starEach [a, b] X.env = (false, eval a X.env) :: starEach [b] X.env := by rfl) (hs1 : starEach (b :: []) X.env = (false, eval b X.env) :: starEach [] X.env := by rfl) (hpl : (backTo pos (starEach [b] X.env)).any (·.1) = false := by rfl) :
    IX X (.Tuple elts kk tpos) (.Call (.Name "zip" p) [a, b] [] pos) Γ Ω Q R :=
  ⟨_, pi_zip hg hm (pa_cons pe_all (pa_cons pe_all pa_nil hs1) hst) hst hpl, fun σ F H s r t x => h σ F H s _ (fun d Ω0 v F0 H0 hb g0 n0 => hb σ F0 H0 (s.go g0) _ (fun d2 Ω1 w F1 H1 ⟨ds, es, l1, l2, z⟩ g1 n1 => by
    obtain ⟨p, ys, rfl, h1, h2⟩ := l1.get g1.ex g1.ow (n0.mono g1.fr)
    obtain ⟨p2, zs, rfl, h3, h4⟩ := l2.get g1.ex g1.ow n1
    refine ⟨p, p2, ys, zs, rfl, SqL.of h1, SqL.of h3, t _ _ Ω1 _ (min ds.length es.length) _ _ F1 H1 z (g0.trans g1) (by simp [zipD]) walk_ofZ (fun F2 H2 Ω2 g2 ⟨m1, m2⟩ => ?_) fun i F2 H2 Ω2 y H3 di g2 ⟨m1, m2⟩ hy hd => ?_⟩
    · obtain ⟨_, ys', ep, q1, q2⟩ := m1.get g2.ex g2.ow ((n0.mono g1.fr).mono g2.fr)
      obtain ⟨_, zs', ep2, q3, q4⟩ := m2.get g2.ex g2.ow (n1.mono g2.fr)
      cases ep; cases ep2
      exact ⟨⟨ys', SqL.of q1, q2.len.symm⟩, zs', SqL.of q3, q4.len.symm⟩
    · obtain ⟨_, ys', ep, q1, q2⟩ := m1.get g2.ex g2.ow ((n0.mono g1.fr).mono g2.fr)
      obtain ⟨_, zs', ep2, q3, q4⟩ := m2.get g2.ex g2.ow (n1.mono g2.fr)
      cases ep; cases ep2
      obtain ⟨T, x', y', rfl, hT, rfl, e2, e3⟩ := hy
      obtain ⟨hi, rfl⟩ := map_get hd
      have i1 : i < ds.length := by omega
      have i2 : i < es.length := by omega
      obtain ⟨x2, hx2, dx⟩ := q2.get (List.getElem?_eq_getElem i1)
      obtain ⟨y2, hy2, dy⟩ := q4.get (List.getElem?_eq_getElem i2)
      rw [e2 ys' (SqL.of q1)] at hx2
      rw [e3 zs' (SqL.of q3)] at hy2
      cases hx2; cases hy2
      have gg := Go.lay (o := .tup [x', y']) g2.ex g2.ow hT
      refine ⟨_, gg, den_pair upd_same ?_ ?_⟩
      · rw [List.getD_eq_getElem?_getD, List.getElem?_eq_getElem i1]
        exact dx.mono gg.fr
      · rw [List.getD_eq_getElem?_getD, List.getElem?_eq_getElem i2]
        exact dy.mono gg.fr) (x.go g0)) x⟩
/-! ### for, while -/
/-- the ends of a loop's turn -/
def Lp (X : Cx) (sts : List Stmt) (Φ : OS → Prop) (J : Gm → Om → Prop) : OS → Prop
  | .nx Γ Ω => J Γ Ω
  | .ct Γ Ω => J Γ Ω
  | .bk Γ Ω => SS X sts Γ Ω Φ
  | .rt d Ω => Φ (.rt d Ω)
  | .ex c fs Γ Ω => Φ (.ex c fs Γ Ω)
theorem ss_for {g : TG} (hc : X.calm = true) (hpg : PG X tg g) (h : IX X tg e Γ Ω (fun items S Ω1 => ∃ J : Nat → Gm → Om → Prop, J 0 Γ Ω1 ∧ (∀ j Γ' Ω', j ≤ items.length → J j Γ' Ω' → S Ω') ∧
      (∀ j d Γ' Ω', items[j]? = some d → J j Γ' Ω' → ∃ is put, Tgt X.K g is d put ∧ (∀ i ∈ is, i < X.N.length) ∧ SS X body (put Γ') Ω' (Lp X sts Φ (J (j + 1)))) ∧ ∀ Γ' Ω', J items.length Γ' Ω' → SS X sts Γ' Ω' Φ) (Out1 Φ Γ))
    (hp : PassesOwn (model X.prog X.w) X.A X.env X.xe := by first | exact PassesOwn.never | exact L2.passes_of rfl | assumption) (hfs : ∀ x, foldedSetIterable e X.env x = pure x := by intro _; rfl) : SS X (.For tg e body [] pos :: sts) Γ Ω Φ := fun σ F H s E t => by
  obtain ⟨wi, pi, hw⟩ := h
  refine all_cons (ps_for hp hc pi hpg ps_all hfs) (hw σ F H s _ (fun items S Ω1 J n G Y F1 H1 ⟨Jv, z0, zS, zb, ze⟩ g1 hn wk hG hY => ?_) (t.tkx s))
  subst hn
  refine for_it wk (fun j σ' H' => ∃ Γ' Ω' F', Jv j Γ' Ω' ∧ Go X.K F1 H1 Ω1 F' H' Ω' ∧ σ'.length = X.N.length ∧ Ctx X.K F' Γ' σ') ⟨Γ, Ω1, F1, z0, Go.refl g1.ex g1.ow, s.len, s.cx.mono g1.fr⟩ (fun j σ' H' hj ⟨Γ', Ω', F', q1, q2, q3, q4⟩ => hG F' H' Ω' q2 (zS j Γ' Ω' hj q1)) ?_ ?_
  · rintro j x σ' H' H'' hj ⟨Γ', Ω', F', q1, q2, q3, q4⟩ hy
    obtain ⟨F2, g2, dx⟩ := hY j F' H' Ω' x H'' items[j] q2 (zS j Γ' Ω' (Nat.le_of_lt hj) q1) hy (List.getElem?_eq_getElem hj)
    obtain ⟨is, put, T, hi, bd⟩ := zb j items[j] Γ' Ω' (List.getElem?_eq_getElem hj) q1
    refine T.go σ' F2 H'' x (fun i z => by rw [q3]; exact hi i z) g2.ex dx _ fun σ2 l w cx => ?_
    have gg := q2.trans g2
    have t' := t.go (g1.trans gg)
    refine bd σ2 F2 H'' ⟨l.trans q3, cx _ (q4.mono g2.fr), g2.ex, g2.ow⟩ _ ⟨fun Γ2 Ω2 σ3 F3 H3 z g3 l3 c3 => ⟨Γ2, Ω2, F3, z, gg.trans g3, l3, c3⟩, fun d Ω2 v F3 H3 z g3 n3 => t'.rt d Ω2 v F3 H3 z g3 n3, fun Γ2 Ω2 σ3 F3 H3 z g3 l3 c3 => z σ3 F3 H3 ⟨l3, c3, g3.ex, g3.ow⟩ E (t'.go g3), fun Γ2 Ω2 σ3 F3 H3 z g3 l3 c3 => ⟨Γ2, Ω2, F3, z, gg.trans g3, l3, c3⟩, fun c fs Γ2 Ω2 dd σ3 F3 H3 z g3 l3 c3 x3 => t'.ex c fs Γ2 Ω2 dd σ3 F3 H3 z g3 l3 c3 x3⟩
  · rintro σ' H' ⟨Γ', Ω', F', q1, q2, q3, q4⟩
    exact ze Γ' Ω' q1 σ' F' H' ⟨q3, q4, q2.ex, q2.ow⟩ E (t.go (g1.trans q2))
theorem ss_while (J : Nat → Gm → Om → Prop) (m0 : Nat) (h0 : J m0 Γ Ω)
    (h : ∀ m Γ' Ω', J m Γ' Ω' → TX X c Γ' Ω' (fun k Ω1 => (k = true → SS X body Γ' Ω1 (Lp X sts Φ fun Γ2 Ω2 => ∃ m', m' < m ∧ J m' Γ2 Ω2)) ∧ (k = false → SS X sts Γ' Ω1 Φ)) (Out1 Φ Γ'))
    (hp : PassesOwn (model X.prog X.w) X.A X.env X.xe := by first | exact PassesOwn.never | exact L2.passes_of rfl | assumption) : SS X (.While c body [] pos :: sts) Γ Ω Φ := fun σ F H s E t => by
  refine all_cons (ps_while hp pt_all ps_all) ?_
  refine ⟨fun m σ' H' => ∃ Γ' Ω' F', J m Γ' Ω' ∧ Go X.K F H Ω F' H' Ω' ∧ σ'.length = X.N.length ∧ Ctx X.K F' Γ' σ', ⟨m0, Γ, Ω, F, h0, s.go0, s.len, s.cx⟩, ?_⟩
  rintro m σ' H' ⟨Γ', Ω', F', q1, q2, q3, q4⟩
  have t' := t.go q2
  refine h m Γ' Ω' q1 σ' F' H' ⟨q3, q4, q2.ex, q2.ow⟩ _ (fun k Ω1 F1 H1 ⟨z1, z2⟩ g1 => ?_) (fun c fs Ω2 dd F2 H2 z g2 n2 => t'.ex c fs Γ' Ω2 dd σ' F2 H2 z g2 q3 (q4.mono g2.fr) n2)
  have t1 := t'.go g1
  cases k with
  | false =>
    show allS X sts E σ' H1
    exact z2 rfl σ' F1 H1 ⟨q3, q4.mono g1.fr, g1.ex, g1.ow⟩ E t1
  | true =>
    show ∃ N : L2.St → Hp → Prop, _
    refine ⟨fun σ3 H3 => ∃ m' Γ3 Ω3 F3, m' < m ∧ J m' Γ3 Ω3 ∧ Go X.K F H Ω F3 H3 Ω3 ∧ σ3.length = X.N.length ∧ Ctx X.K F3 Γ3 σ3, fun σ3 H3 ⟨m', Γ3, Ω3, F3, p1, p2, p3, p4, p5⟩ => ⟨m', p1, Γ3, Ω3, F3, p2, p3, p4, p5⟩, ?_⟩
    have gg := q2.trans g1
    refine z1 rfl σ' F1 H1 ⟨q3, q4.mono g1.fr, g1.ex, g1.ow⟩ _ ⟨fun Γ2 Ω2 σ3 F3 H3 ⟨m', y1, y2⟩ g3 l3 c3 => ⟨m', Γ2, Ω2, F3, y1, y2, gg.trans g3, l3, c3⟩, fun d Ω2 v F3 H3 z g3 n3 => t1.rt d Ω2 v F3 H3 z g3 n3, fun Γ2 Ω2 σ3 F3 H3 z g3 l3 c3 => z σ3 F3 H3 ⟨l3, c3, g3.ex, g3.ow⟩ E (t1.go g3), fun Γ2 Ω2 σ3 F3 H3 ⟨m', y1, y2⟩ g3 l3 c3 => ⟨m', Γ2, Ω2, F3, y1, y2, gg.trans g3, l3, c3⟩, fun c fs Γ2 Ω2 dd σ3 F3 H3 z g3 l3 c3 x3 => t1.ex c fs Γ2 Ω2 dd σ3 F3 H3 z g3 l3 c3 x3⟩
end
/-! ### comprehensions -/
section
variable {K : PySem.W.Frag} {F H F' H' : Hp} {Ω Ω' : Om}
theorem Go.frame1 {a : Addr} {c : Cell} (ow : Own K F H ((a, c) :: Ω)) (g : Go K F H Ω F' H' Ω') : Go K F H ((a, c) :: Ω) F' H' ((a, c) :: Ω') := by
  obtain ⟨⟨h1, h2, h3⟩, h4⟩ := ow
  obtain ⟨o, ho⟩ := h3.there
  have far : ¬ (H a = none ∨ a ∈ keys Ω) := fun z => by
    rcases z with z | z
    · rw [ho] at z; cases z
    · exact h2 z
  have hF : F' a = none := by
    cases q : F' a with
    | none => rfl
    | some o => exact absurd (g.new a h1 (by rw [q]; intro z; cases z)) far
  refine ⟨g.fr, fun b q1 q2 => ?_, fun b o q1 q2 => g.keep b o q1 fun z => q2 (List.mem_cons_of_mem _ z), fun b q => ?_, g.ex, ⟨⟨hF, fun z => far (g.own a z), h3.move g.fr ?_⟩, g.ow⟩⟩
  · rcases g.new b q1 q2 with z | z
    · exact .inl z
    · exact .inr (List.mem_cons_of_mem _ z)
  · rcases List.mem_cons.mp q with z | z
    · exact .inr (List.mem_cons.mpr (.inl z))
    · rcases g.own b z with y | y
      · exact .inl y
      · exact .inr (List.mem_cons_of_mem _ y)
  · rw [ho]
    exact g.keep a o ho h2
end
section
variable {X : Cx} {Γ : Gm} {Ω : Om} {Q : Qe} {R : Rx} {e elt tg : Expr} {pos : Pos} {scope : Scope}
/-- within a comprehension nothing is raised -/
abbrev R0 : Rx := fun _ _ _ => False
/-- the slots of a comprehension's own names forgotten -/
def wipeG (Γ : Gm) : List Nat → Gm
  | [] => Γ
  | i :: is => (wipeG Γ is).set i none
theorem ctx_wipe {K : PySem.W.Frag} {F : Hp} {σ : L2.St} : ∀ (is : List Nat), Ctx K F Γ σ → Ctx K F (wipeG Γ is) (wipe σ is)
  | [], c => c
  | i :: is, c => (ctx_wipe is c).unset
/-- the contexts of a comprehension's block -/
def Blk (X : Cx) (scope : Scope) (p : Cx → Prop) : Prop := ∀ (s : Shared) (H : Hp) (C : Addr) (cl : List (Str × Addr)) (fp : List Addr), p (X.blk s H scope (compEnvC scope cl C X.env) fp)
/-- the law of a comprehension's walk, for the list that comes -/
def LcOk (X : Cx) (scope : Scope) (g : TG) (own : List (Str × Nat)) (elt : Expr) (Γ : Gm) (items : List D) (S : Om → Prop) (Ω1 : Om) (K : List D → Om → Prop) : Prop :=
  ∃ J : Nat → List D → Om → Prop, J 0 [] Ω1 ∧ (∀ j acc Ω', j ≤ items.length → J j acc Ω' → S Ω' ∧ acc.length ≤ 999999) ∧
    (∀ j d acc Ω', items[j]? = some d → J j acc Ω' → ∃ put, Tgt X.K g (own.map (·.2)) d put ∧ Blk X scope fun B => EX B elt (put (wipeG Γ (own.map (·.2)))) Ω' (fun r Ω2 => J (j + 1) (acc ++ [r]) Ω2) R0) ∧ ∀ acc Ω', J items.length acc Ω' → K acc Ω'
theorem blk_K {s : Shared} {H : Hp} {env : Env} {fp : List Addr} : (X.blk s H scope env fp).K = X.K := rfl
theorem lc_go {g : TG} {own : List (Str × Nat)} {items : List D} {S : Om → Prop} {σ : L2.St} {F1 H1 : Hp} {Ω1 : Om} {J : It} {n : Nat} {G : Hp → Prop} {Y : Nat → Hp → V → Hp → Prop} {D0 : Addr} {Qd : Hp → Prop} {K0 : List D → Om → Prop} (hix : ∀ p ∈ own, p.2 < X.N.length) (s : Sta X Γ Ω1 σ F1 H1) (hl : LcOk X scope g own elt Γ items S Ω1 K0) (hn : items.length = n) (wk : Walk J n G Y)
    (hG : ∀ F2 H2 Ω2, Go X.K F1 H1 Ω1 F2 H2 Ω2 → S Ω2 → G H2) (hY : ∀ i F2 H2 Ω2 x H3 d, Go X.K F1 H1 Ω1 F2 H2 Ω2 → S Ω2 → Y i H2 x H3 → items[i]? = some d → ∃ F3, Go X.K F2 H2 Ω2 F3 H3 Ω2 ∧ Den X.K F3 d x) (nD : H1 D0 = none)
    (fin : ∀ acc Ω' F' H', K0 acc Ω' → Go X.K F1 H1 Ω1 F' H' ((D0, .lst acc) :: Ω') → Qd H') :
    ∃ W : Nat → Nat → Hp → Prop, (∃ m, W 0 m (upd H1 D0 (.lst []))) ∧ ∀ i m H, W i m H →
      (J.stop i H ∧ Qd H) ∨ (J.go i H ∧ ∃ Nx : Hp → Prop, (∀ H', Nx H' → ∃ m', m' < m ∧ W (i + 1) m' H') ∧ ∀ x H', J.yld i H x H' → g x (wipe σ (own.map (·.2))) H' fun σ2 H2 => wipe σ2 (own.map (·.2)) = wipe σ (own.map (·.2)) ∧ tYes σ2 H2 fun b H3 =>
        if b = true then blkE X scope elt σ2 H3 fun y H4 => ∃ acc, H4 D0 = some (.lst acc) ∧ acc.length < sizeLine ∧ Nx (upd H4 D0 (.lst (acc ++ [y]))) else Nx H3) := by
  subst hn
  obtain ⟨Jv, z0, zS, zb, ze⟩ := hl
  refine lc_it wk (fun j H' => ∃ acc Ω' F' ys, Jv j acc Ω' ∧ Go X.K F1 H1 Ω1 F' H' ((D0, .lst acc) :: Ω') ∧ H' D0 = some (.lst ys) ∧ DenL X.K F' acc ys) ⟨[], Ω1, F1, [], z0, Go.alloc s.ex s.ow nD ⟨[], upd_same, DenL.nil⟩, upd_same, DenL.nil⟩ ?_ ?_ ?_
  · rintro j H' hj ⟨acc, Ω', F', ys, q1, q2, q3, q4⟩
    have g' : Go X.K F1 H1 Ω1 F' H' Ω' := q2.trans (Go.pick (Ωa := []) (Pick.d Pick.all) q2.ex q2.ow)
    exact hG F' H' Ω' g' (zS j acc Ω' hj q1).1
  · rintro j x H' H'' hj ⟨acc, Ω', F', ys, q1, q2, q3, q4⟩ hy
    have g' : Go X.K F1 H1 Ω1 F' H' Ω' := q2.trans (Go.pick (Ωa := []) (Pick.d Pick.all) q2.ex q2.ow)
    obtain ⟨F2, g2, dx⟩ := hY j F' H' Ω' x H'' items[j] g' (zS j acc Ω' (Nat.le_of_lt hj) q1).1 hy (List.getElem?_eq_getElem hj)
    have f2 := Go.frame1 q2.ow g2
    obtain ⟨put, T, bd⟩ := zb j items[j] acc Ω' (List.getElem?_eq_getElem hj) q1
    refine T.go (wipe σ (own.map (·.2))) F2 H'' x (fun i z => ?_) g2.ex dx _ fun σ2 l w cx => ?_
    · obtain ⟨p, hp, e⟩ := List.mem_map.mp z
      rw [wipe_len, s.len, ← e]
      exact hix p hp
    · refine ⟨?_, ?_⟩
      · rw [w]
        have : ∀ (is : List Nat) (τ : L2.St), wipe (wipe τ is) is = wipe τ is := by
          intro is
          induction is with
          | nil => intro τ; rfl
          | cons i is ih =>
            intro τ
            show (wipe ((wipe τ is).set i none) is).set i none = (wipe τ is).set i none
            rw [← wipe_comm, ih, List.set_set]
        exact this _ _
      · show blkE X scope elt σ2 H'' _
        intro s0 H0 Ca cl fp pins s' I
        have sB : Sta (X.blk s0 H0 scope (compEnvC scope cl Ca X.env) fp) (put (wipeG Γ (own.map (·.2)))) Ω' σ2 F2 H'' := ⟨by rw [l, wipe_len]; exact s.len, cx _ (((ctx_wipe _ s.cx).mono g'.fr).mono g2.fr), g2.ex, g2.ow⟩
        refine bd s0 H0 Ca cl fp σ2 F2 H'' sB _ (fun r Ω2 v F3 H3 z g3 n3 => ?_) (fun _ _ _ _ _ _ z => z.elim) pins s' I
        have f3 := Go.frame1 f2.ow g3
        have all := (q2.trans f2).trans f3
        obtain ⟨⟨_, _, ys3, y1, y2⟩, _⟩ := f3.ow
        refine ⟨ys3, y1, by rw [← y2.len, sizeLine_eq]; have := (zS j acc Ω' (Nat.le_of_lt hj) q1).2; omega, ?_⟩
        have p := all.trans (Go.put (k := 0) (d := .lst (acc ++ [r])) (o := .lst (ys3 ++ [v])) all.ex all.ow rfl ⟨_, upd_same, denL_snoc n3 y2⟩)
        exact ⟨acc ++ [r], Ω2, F3, ys3 ++ [v], z, p, upd_same, denL_snoc n3 y2⟩
  · rintro H' ⟨acc, Ω', F', ys, q1, q2, q3, q4⟩
    exact fin acc Ω' F' H' (ze acc Ω' q1) q2
/-- [elt for tg in e] -/
theorem ex_lc (own : List (Str × Nat)) {g : TG} (hc : X.calm = true) {N ps0 : List Str} {sc0 : Scope} (S0 : FnScope N ps0 sc0) (hNN : X.N = N) (hSS : X.env.scope = sc0) (ok : blkC N sc0 scope own = true) (hix : ∀ p ∈ own, p.2 < N.length)
    (hpg : Blk X scope fun B => PG B tg g) (h : IX X tg e Γ Ω (fun items S Ω1 => LcOk X scope g own elt Γ items S Ω1 (fun acc Ω' => ∀ p : Addr, Q (.v (.ref p)) ((p, .lst acc) :: Ω'))) R)
    (hs : ∀ x, foldedSetIterable e X.env x = pure x := by intro _; rfl) : EX X (.ListComp elt [⟨tg, e, [], 0⟩] scope pos) Γ Ω Q R := by
  subst hNN
  subst hSS
  obtain ⟨wi, pi, hw⟩ := h
  intro σ F H s q t x
  refine allE_of (pe_lc hc S0.nd pi (blkOk_by ok) hpg (fun _ _ _ _ _ => pts_nil) (te := blkE X scope elt) (fun s H0 C cl fp => ⟨fun pins s' σ H Q I h => h s H0 C cl fp pins s' I⟩) hs) ?_
  refine hw σ F H s _ (fun items S Ω1 J n G Y F1 H1 z g1 hn wk hG hY D0 nD => ?_) x
  exact lc_go hix (s.go g1) z hn wk hG hY nD fun acc Ω' F' H' k g2 => t _ _ _ _ _ (k D0) (g1.trans g2) (den_v.mpr rfl)
/-- y = [elt for tg in e] -/
theorem ss_lc (i : Nat) {y : Str} {py spos : Pos} {sts : List Stmt} {Φ : OS → Prop} (own : List (Str × Nat)) {g : TG} (hc : X.calm = true) {N ps0 : List Str} {sc0 : Scope} (S0 : FnScope N ps0 sc0) (hNN : X.N = N) (hSS : X.env.scope = sc0) (ok : blkC N sc0 scope own = true) (hix : ∀ p ∈ own, p.2 < N.length)
    (hpg : Blk X scope fun B => PG B tg g) (h : IX X tg e Γ Ω (fun items S Ω1 => LcOk X scope g own elt Γ items S Ω1 (fun acc Ω' => ∀ p : Addr, SS X sts (Γ.set i (some (.v (.ref p)))) ((p, .lst acc) :: Ω') Φ)) (Out1 Φ Γ))
    (hy : X.N[i]? = some y := by rfl) (hyl : X.env.scope.names.lookup y = some .local := by rfl) (hsw : swapsWith (.ListComp elt [⟨tg, e, [], 0⟩] scope pos) (some (.Name y py)) spos.line X.env = pure true := by rfl)
    (hs : ∀ x, foldedSetIterable e X.env x = pure x := by intro _; rfl) : SS X (.Assign [.Name y py] (.ListComp elt [⟨tg, e, [], 0⟩] scope pos) spos :: sts) Γ Ω Φ := by
  subst hNN
  subst hSS
  obtain ⟨wi, pi, hw⟩ := h
  intro σ F H s E t
  refine all_cons (ps_setLc hc S0.nd hy hyl hsw pi (blkOk_by ok) hpg (fun _ _ _ _ _ => pts_nil) (te := blkE X scope elt) (fun s H0 C cl fp => ⟨fun pins s' σ H Q I h => h s H0 C cl fp pins s' I⟩) hs) ?_
  refine hw σ F H s _ (fun items S Ω1 J n G Y F1 H1 z g1 hn wk hG hY D0 nD => ?_) (t.tkx s)
  have hi : i < σ.length := by rw [s.len]; exact (List.getElem?_eq_some_iff.mp hy).1
  exact lc_go hix (s.go g1) z hn wk hG hY nD fun acc Ω' F' H' k g2 => k D0 _ F' H' ⟨by rw [List.length_set]; exact s.len, (s.cx.mono (g1.trans g2).fr).set hi (den_v.mpr rfl), g2.ex, g2.ow⟩ E (t.go (g1.trans g2))
end
end Sy

namespace Sy
open PySem L2 Evl Trk
section
variable {K : PySem.W.Frag} {F H F' H' : Hp} {Ω Ω' : Om}
theorem Go.lay2 {a : Addr} {o : HO} (ex : Ex F H) (ow : Own K F H Ω) (e : Ex H H') (h : H a = none) (h' : H' a = some o) : Go K F H Ω (upd F a o) H' Ω := by
  have hn : ∀ b ∈ keys Ω, b ≠ a := fun b z q => by
    subst q
    obtain ⟨_, o, q⟩ := ow.mem z
    rw [h] at q; cases q
  have fa := fresh_back ex h
  refine ⟨Ex.new fa, fun b h1 h2 => ?_, fun b u hb _ => e b u hb, fun b hb => .inr hb, fun b u hb => ?_, ow.move (Ex.new fa) (fun b hb => ?_) fun b hb => ?_⟩
  · by_cases z : b = a
    · subst z
      exact .inl h
    · rw [upd_ne z] at h2
      exact absurd h1 h2
  · by_cases z : b = a
    · subst z
      rw [upd_same] at hb
      rw [h', hb]
    · rw [upd_ne z] at hb
      exact e b u (ex b u hb)
  · rw [upd_ne (hn b hb)]
    exact (ow.mem hb).1
  · obtain ⟨_, o, q⟩ := ow.mem hb
    rw [q]
    exact e b o q
end
section
variable {X : Cx} {Γ : Gm} {Ω : Om} {Q : Qe} {R : Rx} {d d1 d2 : D} {ds es' : List D} {e a b c : Expr} {es : List Expr} {pos : Pos} {st : Stmt} {sts body : List Stmt} {Φ Ψ : OS → Prop}
/-! ### built-ins by values -/
theorem cx_abs {i : Int} (k : Q (iD (i.natAbs : Int)) Ω) : ClX X.K (fun xs H Q => ∃ i, xs = [.int i] ∧ Q (.int (if i < 0 then -i else i)) H) Ω [iD i] Q := fun F H xs e o n q t => by
  obtain ⟨x, rfl, h1⟩ := denL_one n
  refine ⟨i, by rw [den_v.mp h1], ?_⟩
  rw [ab_eq]
  exact t _ _ _ _ _ k (Go.refl e o) (den_v.mpr rfl)
theorem cx_int {i : Int} (k : Q (iD i) Ω) : ClX X.K (fun xs H Q => (∃ i, xs = [.int i] ∧ Q (.int i) H) ∨ ∃ k, xs = [.bl k] ∧ Q (.int (if k then 1 else 0)) H) Ω [iD i] Q := fun F H xs e o n q t => by
  obtain ⟨x, rfl, h1⟩ := denL_one n
  exact .inl ⟨i, by rw [den_v.mp h1], t _ _ _ _ _ k (Go.refl e o) (den_v.mpr rfl)⟩
theorem cx_bool {i : Int} (k : Q (bD (i != 0)) Ω) : ClX X.K (fun xs H Q => (∃ i, xs = [.int i] ∧ Q (.bl (i != 0)) H) ∨ ∃ k, xs = [.bl k] ∧ Q (.bl k) H) Ω [iD i] Q := fun F H xs e o n q t => by
  obtain ⟨x, rfl, h1⟩ := denL_one n
  exact .inl ⟨i, by rw [den_v.mp h1], t _ _ _ _ _ k (Go.refl e o) (den_v.mpr rfl)⟩
theorem cx_boolB {i : Bool} (k : Q (bD i) Ω) : ClX X.K (fun xs H Q => (∃ i, xs = [.int i] ∧ Q (.bl (i != 0)) H) ∨ ∃ k, xs = [.bl k] ∧ Q (.bl k) H) Ω [bD i] Q := fun F H xs e o n q t => by
  obtain ⟨x, rfl, h1⟩ := denL_one n
  exact .inr ⟨i, by rw [den_v.mp h1], t _ _ _ _ _ k (Go.refl e o) (den_v.mpr rfl)⟩
theorem cx_gcd {i j : Int} (k : Q (iD ((Nat.gcd i.natAbs j.natAbs : Nat) : Int)) Ω) : ClX X.K rGcd Ω [iD i, iD j] Q := fun F H xs e o n q t => by
  obtain ⟨x, y, rfl, h1, h2⟩ := denL_two n
  exact ⟨i, j, by rw [den_v.mp h1, den_v.mp h2], t _ _ _ _ _ k (Go.refl e o) (den_v.mpr rfl)⟩
def rLcm : List V → Hp → VK → Prop := fun vs H Q => ∃ a b : Int, vs = [.int a, .int b] ∧ a.natAbs < 2 ^ 64 ∧ b.natAbs < 2 ^ 64 ∧ Q (.int ((Nat.lcm a.natAbs b.natAbs : Nat) : Int)) H
theorem cr_lcm : CallR X (.builtin "math.lcm") rLcm := by
  intro pins s σ H vs us Q I r h
  obtain ⟨a, b, rfl, h1, h2, q⟩ := h
  obtain ⟨t, u, rfl⟩ := Vals.int2 r
  exact PySem.W.mc_lcm h1 h2 fun _ => ⟨.int _, H, I.tok _, ⟨_, rfl⟩, q⟩
theorem cx_lcm {i j : Int} (hi : i.natAbs < 2 ^ 64) (hj : j.natAbs < 2 ^ 64) (k : Q (iD ((Nat.lcm i.natAbs j.natAbs : Nat) : Int)) Ω) : ClX X.K rLcm Ω [iD i, iD j] Q := fun F H xs e o n q t => by
  obtain ⟨x, y, rfl, h1, h2⟩ := denL_two n
  exact ⟨i, j, by rw [den_v.mp h1, den_v.mp h2], hi, hj, t _ _ _ _ _ k (Go.refl e o) (den_v.mpr rfl)⟩
theorem cx_max {i j : Int} (k : Q (iD (max i j)) Ω) : ClX X.K (fun xs H Q => ∃ i j, xs = [.int i, .int j] ∧ Q (.int (if j > i then j else i)) H) Ω [iD i, iD j] Q := fun F H xs e o n q t => by
  obtain ⟨x, y, rfl, h1, h2⟩ := denL_two n
  refine ⟨i, j, by rw [den_v.mp h1, den_v.mp h2], ?_⟩
  rw [show (if j > i then j else i) = max i j by split <;> omega]
  exact t _ _ _ _ _ k (Go.refl e o) (den_v.mpr rfl)
theorem cx_min {i j : Int} (k : Q (iD (min i j)) Ω) : ClX X.K (fun xs H Q => ∃ i j, xs = [.int i, .int j] ∧ Q (.int (if j < i then j else i)) H) Ω [iD i, iD j] Q := fun F H xs e o n q t => by
  obtain ⟨x, y, rfl, h1, h2⟩ := denL_two n
  refine ⟨i, j, by rw [den_v.mp h1, den_v.mp h2], ?_⟩
  rw [show (if j < i then j else i) = min i j by split <;> omega]
  exact t _ _ _ _ _ k (Go.refl e o) (den_v.mpr rfl)
theorem denL_intsB {K : PySem.W.Frag} {H : Hp} : ∀ {ns : List Int} {ys : List V}, DenL K H (ns.map iD) ys → ys = ns.map V.int
  | [], ys, h => by
    simp only [List.map_nil, DenL] at h
    exact h
  | n :: ns, ys, h => by
    simp only [List.map_cons, DenL] at h
    obtain ⟨z, zs, rfl, h1, h2⟩ := h
    rw [den_v.mp h1, denL_intsB h2, List.map_cons]
theorem cx_sum {ns : List Int} (l : LstAt Ω d (ns.map iD)) (k : Q (iD ns.sum) Ω) : ClX X.K (rSum X.K) Ω [d] Q := fun F H xs e o n q t => by
  obtain ⟨x, rfl, h1⟩ := denL_one n
  obtain ⟨p, ys, rfl, h2, h3⟩ := l.get e o h1
  rw [denL_intsB h3] at h2
  exact ⟨p, ns, rfl, SqL.of h2, t _ _ _ _ _ k (Go.refl e o) (den_v.mpr rfl)⟩
theorem cx_any {bs : List Bool} (l : LstAt Ω d (bs.map bD)) (k : Q (bD (bs.any id)) Ω) : ClX X.K (rAny X.K) Ω [d] Q := fun F H xs e o n q t => by
  obtain ⟨x, rfl, h1⟩ := denL_one n
  obtain ⟨p, ys, rfl, h2, h3⟩ := l.get e o h1
  rw [denL_bools h3] at h2
  exact ⟨p, bs, rfl, SqL.of h2, t _ _ _ _ _ k (Go.refl e o) (den_v.mpr rfl)⟩
theorem cx_all {bs : List Bool} (l : LstAt Ω d (bs.map bD)) (k : Q (bD (bs.all id)) Ω) : ClX X.K (rAll X.K) Ω [d] Q := fun F H xs e o n q t => by
  obtain ⟨x, rfl, h1⟩ := denL_one n
  obtain ⟨p, ys, rfl, h2, h3⟩ := l.get e o h1
  rw [denL_bools h3] at h2
  exact ⟨p, bs, rfl, SqL.of h2, t _ _ _ _ _ k (Go.refl e o) (den_v.mpr rfl)⟩
/-- list(xs), its own -/
theorem cx_list (l : LstAt Ω d ds) (k : ∀ p : Addr, Q (.v (.ref p)) ((p, .lst ds) :: Ω)) : ClX X.K (fun xs H Q => ∃ p ys, xs = [.ref p] ∧ (SqL X.K H p ys ∨ SqT X.K H p ys) ∧ ∀ l, H l = none → Q (.ref l) (upd H l (.lst ys))) Ω [d] Q := fun F H xs e o n q t => by
  obtain ⟨x, rfl, h1⟩ := denL_one n
  obtain ⟨p, ys, rfl, h2, h3⟩ := l.get e o h1
  exact ⟨p, ys, rfl, .inl (SqL.of h2), fun l hl => t _ _ _ _ _ (k l) (Go.alloc e o hl ⟨ys, upd_same, h3⟩) (den_v.mpr rfl)⟩
theorem cx_tuple (l : LstAt Ω d ds) (k : Q (.tup ds) Ω) : ClX X.K (fun xs H Q => ∃ p ys, xs = [.ref p] ∧ ((SqL X.K H p ys ∧ ∀ l, H l = none → Q (.ref l) (upd H l (.tup ys))) ∨ (SqT X.K H p ys ∧ Q (.ref p) H))) Ω [d] Q := fun F H xs e o n q t => by
  obtain ⟨x, rfl, h1⟩ := denL_one n
  obtain ⟨p, ys, rfl, h2, h3⟩ := l.get e o h1
  refine ⟨p, ys, rfl, .inl ⟨SqL.of h2, fun l hl => t _ _ _ _ _ k (Go.lay e o hl) ?_⟩⟩
  simp only [Den]
  exact ⟨l, ys, rfl, st_of upd_same, h3.mono (Ex.new (fresh_back e hl))⟩
/-- isinstance(x, c) -/
theorem cx_isi {cv : V} {t u : Value} {k : Bool} (hc : ClsV cv u) (ht : ∀ F H v, Ex F H → Own X.K F H Ω → Den X.K F d v → TyX X.K H v t) (hk : PySem.W.kitOne X.K t u = some k) (q : Q (bD k) Ω) : ClX X.K (rIsi X.K) Ω [d, .v cv] Q := fun F H xs e o n qq tk => by
  obtain ⟨x, y, rfl, h1, h2⟩ := denL_two n
  rw [den_v.mp h2]
  exact ⟨x, cv, t, u, k, rfl, hc, ht F H x e o h1, hk, tk _ _ _ _ _ q (Go.refl e o) (den_v.mpr rfl)⟩
theorem tyx_of {t : Value} (h : TyD X.K X.mg d t) : ∀ F H v, Ex F H → Own X.K F H Ω → Den X.K F d v → TyX X.K H v t := fun F H v e o n => h.to (n.mono e)
/-- isinstance(x, (c1, c2)) -/
theorem ex_isi2 {u1 u2 : Value} {cv1 cv2 : V} {c1 c2 : Expr} {p p2 : Pos} {x1} (hm : X.mg "isinstance" = none) (hc1 : PE X c1 (tC cv1)) (hc2 : PE X c2 (tC cv2)) (hcv1 : ClsV cv1 u1) (hcv2 : ClsV cv2 u2)
    (h : EX X a Γ Ω (fun d Ω1 => ∃ t k, (∀ F H v, Ex F H → Own X.K F H Ω1 → Den X.K F d v → TyX X.K H v t) ∧ PySem.W.kitAny X.K t [u1, u2] = some k ∧ Q (bD k) Ω1) R) (hg : Gl X "isinstance" := by rfl)
    (he : starEach (a :: [.Tuple [c1, c2] x1 p2]) X.env = (false, eval a X.env) :: starEach [.Tuple [c1, c2] x1 p2] X.env := by rfl) (hs1 : starEach (.Tuple [c1, c2] x1 p2 :: []) X.env = (false, eval (.Tuple [c1, c2] x1 p2) X.env) :: starEach [] X.env := by rfl)
    (hs2 : starEach (c1 :: [c2]) X.env = (false, eval c1 X.env) :: starEach [c2] X.env := by rfl) (hs3 : starEach (c2 :: []) X.env = (false, eval c2 X.env) :: starEach [] X.env := by rfl)
    (hpl : (backTo pos (starEach [.Tuple [c1, c2] x1 p2] X.env)).any (·.1) = false := by rfl) :
    EX X (.Call (.Name "isinstance" p) [a, .Tuple [c1, c2] x1 p2] [] pos) Γ Ω Q R := fun σ F H s q tk x => by
  refine allE_of (pe_callB (call_isiT (X := X)) hg hm (by decide +kernel) (pa_cons pe_all (pa_cons (pe_tup (pa_cons hc1 (pa_cons hc2 pa_nil hs3) hs2)) pa_nil hs1) he) (by decide) (by decide) he hpl) ?_
  refine h σ F H s _ (fun d Ω1 v F1 H1 ⟨t, k, ht, hk, z⟩ g n => ⟨(by show 2 ≤ sizeLine; decide), fun tp hn => ?_⟩) x
  have gl := Go.more g.ex g.ow (Ex.new (o := .tup [cv1, cv2]) hn)
  exact ⟨v, tp, [cv1, cv2], t, [u1, u2], k, rfl, upd_same, .cons hcv1 (.cons hcv2 .nil), ht F1 _ v gl.ex gl.ow n, hk, tk _ _ _ _ _ z (g.trans gl) (den_v.mpr rfl)⟩
/-! ### lists put together -/
theorem ox_cat (h1 : LstAt Ω d1 ds) (h2 : LstAt Ω d2 es') (hl : ds.length + es'.length ≤ 1000000) (k : ∀ p : Addr, Q (.v (.ref p)) ((p, .lst (ds ++ es')) :: Ω)) : OpX X.K rCat Ω d1 d2 Q := fun F H x y e o n1 n2 q t => by
  obtain ⟨p, xs, rfl, g1, g2⟩ := h1.get e o n1
  obtain ⟨p2, ys, rfl, g3, g4⟩ := h2.get e o n2
  exact ⟨p, p2, xs, ys, rfl, rfl, g1, g3, by rw [← g2.len, ← g4.len, sizeLine_eq]; omega, fun l hn => t _ _ _ _ _ (k l) (Go.alloc e o hn ⟨_, upd_same, denL_app g2 g4⟩) (den_v.mpr rfl)⟩
/-- [a] * n -/
theorem ex_rep {p2 : Pos} (h : EX X a Γ Ω (fun d Ω1 => EX X b Γ Ω1 (fun d2 Ω2 => ∃ n : Int, d2 = iD n ∧ -(2 ^ 63) ≤ n ∧ n < 1000000 ∧ ∀ p : Addr, Q (.v (.ref p)) ((p, .lst (List.replicate n.toNat d)) :: Ω2)) R) R) (hse : starEach (a :: []) X.env = (false, eval a X.env) :: starEach [] X.env := by rfl) : EX X (.BinOp (.List [a] p2) .Mult b pos) Γ Ω Q R := fun σ F H s q t x =>
  allE_of (pe_op op_rep (pe_lst (pa_cons pe_all pa_nil hse)) pe_all) (h σ F H s _ (fun d Ω1 v F1 H1 hb g1 n1 => ⟨(by show 1 ≤ sizeLine; rw [sizeLine_eq]; omega), fun l hn => by
    have g1' := g1.trans (Go.lay (o := .lst [v]) g1.ex g1.ow hn)
    refine hb σ _ _ (s.go g1') _ (fun d2 Ω2 w F2 H2 ⟨n, e2, b1, b2, z⟩ g2 n2 => ?_) (x.go g1')
    subst e2
    rw [den_v.mp n2]
    have hl2 : H2 l = some (.lst [v]) := g2.ex _ _ (g2.fr _ _ upd_same)
    refine ⟨l, n, [v], rfl, rfl, hl2, b1, by omega, ?_, fun p hp => ?_⟩
    · rw [sizeLine_eq]
      show 1 * n.toNat ≤ _
      omega
    · have n1' := n1.mono ((Ex.new (fresh_back g1.ex hn)).trans g2.fr)
      exact t _ _ _ _ _ (z p) ((g1'.trans g2).trans (Go.alloc g2.ex g2.ow hp ⟨_, upd_same, denL_rep n1' _⟩)) (den_v.mpr rfl)⟩) x)
/-- xs[lo:hi] -/
def cutD {α : Type} (xs : List α) (lo hi : Option Int) : List α := (xs.drop (HT.sIx xs.length 0 lo)).take (HT.sIx xs.length xs.length hi - HT.sIx xs.length 0 lo)
theorem denL_cut {K : PySem.W.Frag} {F : Hp} {ds : List D} {ys : List V} {lo hi : Option Int} (h : DenL K F ds ys) : DenL K F (cutD ds lo hi) (L2.cutV ys lo hi) := by
  unfold cutD L2.cutV
  rw [h.len]
  exact denL_take (denL_drop h)
theorem cutD_map {α β : Type} (f : α → β) (xs : List α) (lo hi : Option Int) : cutD (xs.map f) lo hi = (cutD xs lo hi).map f := by
  unfold cutD
  rw [List.length_map, List.map_take, List.map_drop]
theorem ex_sl00 {p2 : Pos} (h : EX X a Γ Ω (fun d Ω1 => ∃ ds, LstAt Ω1 d ds ∧ ∀ p : Addr, Q (.v (.ref p)) ((p, .lst (cutD ds none none)) :: Ω1)) R) : EX X (.Subscript a (.Slice none none none p2) pos) Γ Ω Q R := fun σ F H s q t x =>
  allE_of (pe_slice sl_list pe_all po_none po_none) (h σ F H s _ (fun d Ω1 v F1 H1 ⟨ds, l, z⟩ g n => by
    obtain ⟨p, ys, rfl, h1, h2⟩ := l.get g.ex g.ow n
    exact ⟨p, ys, rfl, SqL.of h1, fun l hn => t _ _ _ _ _ (z l) (g.trans (Go.alloc g.ex g.ow hn ⟨_, upd_same, denL_cut h2⟩)) (den_v.mpr rfl)⟩) x)
theorem ex_sl01 {p2 : Pos} (h : EX X a Γ Ω (fun d Ω1 => EX X b Γ Ω1 (fun d2 Ω2 => ∃ ds i, LstAt Ω2 d ds ∧ d2 = iD i ∧ ∀ p : Addr, Q (.v (.ref p)) ((p, .lst (cutD ds none (some i))) :: Ω2)) R) R) : EX X (.Subscript a (.Slice none (some b) none p2) pos) Γ Ω Q R := fun σ F H s q t x =>
  allE_of (pe_slice sl_list pe_all po_none (po_some pe_all)) (h σ F H s _ (fun d Ω1 v F1 H1 hb g1 n1 => hb σ F1 H1 (s.go g1) _ (fun d2 Ω2 w F2 H2 ⟨ds, i, l, e2, z⟩ g n => by
    subst e2
    obtain ⟨p, ys, rfl, h1, h2⟩ := l.get g.ex g.ow (n1.mono g.fr)
    exact ⟨i, den_v.mp n, p, ys, rfl, SqL.of h1, fun l hn => t _ _ _ _ _ (z l) ((g1.trans g).trans (Go.alloc g.ex g.ow hn ⟨_, upd_same, denL_cut h2⟩)) (den_v.mpr rfl)⟩) (x.go g1)) x)
theorem ex_sl10 {p2 : Pos} (h : EX X a Γ Ω (fun d Ω1 => EX X b Γ Ω1 (fun d2 Ω2 => ∃ ds i, LstAt Ω2 d ds ∧ d2 = iD i ∧ ∀ p : Addr, Q (.v (.ref p)) ((p, .lst (cutD ds (some i) none)) :: Ω2)) R) R) : EX X (.Subscript a (.Slice (some b) none none p2) pos) Γ Ω Q R := fun σ F H s q t x =>
  allE_of (pe_slice sl_list pe_all (po_some pe_all) po_none) (h σ F H s _ (fun d Ω1 v F1 H1 hb g1 n1 => hb σ F1 H1 (s.go g1) _ (fun d2 Ω2 w F2 H2 ⟨ds, i, l, e2, z⟩ g n => by
    subst e2
    obtain ⟨p, ys, rfl, h1, h2⟩ := l.get g.ex g.ow (n1.mono g.fr)
    exact ⟨i, den_v.mp n, p, ys, rfl, SqL.of h1, fun l hn => t _ _ _ _ _ (z l) ((g1.trans g).trans (Go.alloc g.ex g.ow hn ⟨_, upd_same, denL_cut h2⟩)) (den_v.mpr rfl)⟩) (x.go g1)) x)
theorem ex_sl11 {p2 : Pos} (h : EX X a Γ Ω (fun d Ω1 => EX X b Γ Ω1 (fun d2 Ω2 => ∃ i, d2 = iD i ∧ EX X c Γ Ω2 (fun d3 Ω3 => ∃ ds j, LstAt Ω3 d ds ∧ d3 = iD j ∧ ∀ p : Addr, Q (.v (.ref p)) ((p, .lst (cutD ds (some i) (some j))) :: Ω3)) R) R) R) : EX X (.Subscript a (.Slice (some b) (some c) none p2) pos) Γ Ω Q R := fun σ F H s q t x =>
  allE_of (pe_slice sl_list pe_all (po_some pe_all) (po_some pe_all)) (h σ F H s _ (fun d Ω1 v F1 H1 hb g1 n1 => hb σ F1 H1 (s.go g1) _ (fun d2 Ω2 w F2 H2 ⟨i, e2, hc⟩ g2 n2 => ⟨i, by subst e2; exact den_v.mp n2, hc σ F2 H2 (s.go (g1.trans g2)) _ (fun d3 Ω3 u F3 H3 ⟨ds, j, l, e3, z⟩ g n => by
    subst e3
    obtain ⟨p, ys, rfl, h1, h2⟩ := l.get g.ex g.ow ((n1.mono g2.fr).mono g.fr)
    exact ⟨j, den_v.mp n, p, ys, rfl, SqL.of h1, fun l hn => t _ _ _ _ _ (z l) (((g1.trans g2).trans g).trans (Go.alloc g.ex g.ow hn ⟨_, upd_same, denL_cut h2⟩)) (den_v.mpr rfl)⟩) (x.go (g1.trans g2))⟩) (x.go g1)) x)
/-- x in xs, ints -/
theorem ox_inI {i : Int} {ns : List Int} (l : LstAt Ω d2 (ns.map iD)) (k : Q (bD (decide (i ∈ ns))) Ω) : OpX X.K (rIn X.K false) Ω (iD i) d2 Q := fun F H x y e o n1 n2 q t => by
  obtain ⟨p, ys, rfl, h2, h3⟩ := l.get e o n2
  rw [denL_intsB h3] at h2
  rw [den_v.mp n1]
  refine ⟨p, _, rfl, .inl (SqL.of h2), rfl, by induction ns <;> simp_all [flatV], ?_⟩
  have : inV (.int i) (ns.map V.int) = decide (i ∈ ns) := by
    unfold inV
    induction ns with
    | nil => simp
    | cons m ns ih =>
      rw [List.map_cons, List.any_cons]
      have hh : (eqV (.int m) (.int i)) = decide (i = m) := by
        simp only [eqV]
        by_cases z : i = m
        · subst z; simp
        · have z' : ¬ m = i := fun q => z q.symm
          simp [z, z']
      rw [hh]
      have ih' : ((ns.map V.int).any fun y => eqV y (.int i)) = decide (i ∈ ns) := by
        clear ih k t h2 h3 l
        induction ns with
        | nil => simp
        | cons m ns ih =>
          rw [List.map_cons, List.any_cons, ih]
          have hh : (eqV (.int m) (.int i)) = decide (i = m) := by
            simp only [eqV]
            by_cases z : i = m
            · subst z; simp
            · have z' : ¬ m = i := fun q => z q.symm
              simp [z, z']
          rw [hh]
          simp [List.mem_cons, Bool.decide_or]
      rw [ih']
      simp [List.mem_cons, Bool.decide_or]
  show q (.bl (inV (.int i) (ns.map V.int))) H
  rw [this]
  exact t _ _ _ _ _ k (Go.refl e o) (den_v.mpr rfl)
/-! ### raise -/
theorem ss_raise0 {x : Str} {C : Addr} {p p2 : Pos} (hc : X.calm = true) (T : ErT X.K X.mg x C) (h : Φ (.ex (.ref C) [] Γ Ω)) (hg : Gl X x := by rfl) (hdb : (x == ("__debug__" : Str)) = false := by decide) : SS X (.Raise (some (.Call (.Name x p) [] [] pos)) none p2 :: sts) Γ Ω Φ := fun σ F H s E t =>
  all_cons (ps_raise hc tk0 (pmk_own0 T hg hdb)) (t.ex _ _ Γ Ω none σ F H h s.go0 s.len s.cx (.inl ⟨rfl, rfl⟩))
theorem ss_raise1 {x f : Str} {C BE fI : Addr} {fd : FuncData} {ps : List Str} {p p2 : Pos} (hc : X.calm = true) (T : EcT X.K X.mg x C BE) (iC : PySem.W.findIn X.K (.ref C) "__init__" = some (some (.ref fI))) (tI : PySem.W.typeIn X.K (.ref fI) = some (.type "function"))
    (F1 : FnOk X.prog X.w X.K X.mg X.base CX0 1 fI fd ps (spE1 C f)) (hr : Room 2 X.A) (hb : Binds X.K fd ps []) (h : EX X e Γ Ω (fun d Ω1 => Φ (.ex (.ref C) [(f, d)] Γ Ω1)) (Out1 Φ Γ)) (hg : Gl X x := by rfl)
    (hdb : (x == ("__debug__" : Str)) = false := by decide) (he : starEach (e :: []) X.env = (false, eval e X.env) :: starEach [] X.env := by rfl) (hpl : (backTo pos (starEach [] X.env)).any (·.1) = false := by rfl) :
    SS X (.Raise (some (.Call (.Name x p) [e] [] pos)) none p2 :: sts) Γ Ω Φ := fun σ F H s E t => by
  refine all_cons (ps_raise hc tk0 (pmk_oex T.oex iC tI F1 hr hb .nil pass0 hg T.mg (pa_cons pe_all pa_nil he) hdb he hpl)) (h σ F H s _ (fun d Ω1 y F1 H1 z g h1 => ⟨by show 1 ≤ 1000; decide, fun a n => ?_⟩) (t.tkx s))
  refine ⟨a, y, rfl, upd_same, fun dx n2 ne => ⟨rfl, dx, [(f, y)], upd_same, by rw [upd_ne ne, upd_same], ?_, ?_⟩⟩
  · rw [upd_ne ne] at n2
    exact n2
  · rw [upd_ne ne] at n2
    have up : Ex H1 (upd (L2.del (upd (upd (upd H1 a (exo a C none)) dx (exd dx [(f, y)])) a (exo a C (some dx))) a) dx (.xd [(f, y)])) := ex_let (o1 := exo a C none) (o2 := exo a C none) (Ex.refl H1) n n2 fun b b1 b2 => by rw [upd_ne b1, upd_ne b2, upd_ne b1]
    have g2 := g.trans (Go.lay2 (o := .xd [(f, y)]) g.ex g.ow up n2 upd_same)
    refine t.ex _ _ Γ Ω1 _ σ _ _ z g2 s.len (s.cx.mono g2.fr) (.inr ⟨dx, [(f, y)], by simp, rfl, upd_same, ?_⟩)
    exact denF_cons (h1.mono (Ex.new (fresh_back g.ex n2))) denF_nil
theorem ss_raise2 {x f f2 : Str} {C BE fI : Addr} {fd : FuncData} {ps : List Str} {p p2 : Pos} (hc : X.calm = true) (T : EcT X.K X.mg x C BE) (iC : PySem.W.findIn X.K (.ref C) "__init__" = some (some (.ref fI))) (tI : PySem.W.typeIn X.K (.ref fI) = some (.type "function"))
    (F1 : FnOk X.prog X.w X.K X.mg X.base CX0 1 fI fd ps (spE2 C f f2)) (hr : Room 2 X.A) (hb : Binds X.K fd ps []) (h : EX X e Γ Ω (fun d Ω1 => EX X b Γ Ω1 (fun d2 Ω2 => Φ (.ex (.ref C) [(f2, d2), (f, d)] Γ Ω2)) (Out1 Φ Γ)) (Out1 Φ Γ)) (hg : Gl X x := by rfl)
    (hdb : (x == ("__debug__" : Str)) = false := by decide) (he : starEach (e :: [b]) X.env = (false, eval e X.env) :: starEach [b] X.env := by rfl) (he2 : starEach (b :: []) X.env = (false, eval b X.env) :: starEach [] X.env := by rfl) (hpl : (backTo pos (starEach [b] X.env)).any (·.1) = false := by rfl) :
    SS X (.Raise (some (.Call (.Name x p) [e, b] [] pos)) none p2 :: sts) Γ Ω Φ := fun σ F H s E t => by
  have tx := t.tkx s
  refine all_cons (ps_raise hc tk0 (pmk_oex T.oex iC tI F1 hr hb .nil pass0 hg T.mg (pa_cons pe_all (pa_cons pe_all pa_nil he2) he) hdb he hpl)) (h σ F H s _ (fun d Ω1 y F1 H1 hb2 g1 h1 => hb2 σ F1 H1 (s.go g1) _ (fun d2 Ω2 z F2 H2 w g2 h2 => ⟨by show 2 ≤ 1000; decide, fun a n => ?_⟩) (tx.go g1)) tx)
  refine ⟨a, y, z, rfl, upd_same, fun dx n2 ne => ⟨rfl, dx, [(f2, z), (f, y)], by rw [upd_ne (Ne.symm ne), upd_same], upd_same, ?_, ?_⟩⟩
  · rw [upd_ne ne] at n2
    exact n2
  · rw [upd_ne ne] at n2
    have up : Ex H2 (upd (L2.del (upd (upd (upd (upd H2 a (exo a C none)) dx (exd dx [(f, y)])) a (exo a C (some dx))) dx (exd dx [(f2, z), (f, y)])) a) dx (.xd [(f2, z), (f, y)])) := ex_let (o1 := exo a C none) (o2 := exo a C none) (Ex.refl H2) n n2 fun b b1 b2 => by rw [upd_ne b2, upd_ne b1, upd_ne b2, upd_ne b1]
    have g := g1.trans g2
    have g3 := g.trans (Go.lay2 (o := .xd [(f2, z), (f, y)]) g.ex g.ow up n2 upd_same)
    have fd := Ex.new (o := .xd [(f2, z), (f, y)]) (fresh_back g.ex n2)
    refine t.ex _ _ Γ Ω2 _ σ _ _ w g3 s.len (s.cx.mono g3.fr) (.inr ⟨dx, [(f2, z), (f, y)], by simp, rfl, upd_same, ?_⟩)
    exact denF_cons (h2.mono fd) (denF_cons ((h1.mono g2.fr).mono fd) denF_nil)
end
end Sy

/-! What a text does as a statement in numbers and lists alone: the combinators, and the rules that lead there. -/
namespace Sy
open PySem L2 Evl Trk
/-! ### combinators -/
def forW {α S : Type} (body : α → S → (S → Prop) → Prop) (K : S → Prop) : List α → S → Prop
  | [], s => K s
  | x :: xs, s => body x s fun s' => forW body K xs s'
def whileW {S : Type} (tb : S → (S → Prop) → Prop) : Nat → S → Prop
  | 0, _ => False
  | n + 1, s => tb s fun s' => whileW tb n s'
def mapS {α β S : Type} (g : α → S → (β → S → Prop) → Prop) : List α → S → (List β → S → Prop) → Prop
  | [], s, K => K [] s
  | x :: xs, s, K => g x s fun b s' => mapS g xs s' fun bs s2 => K (b :: bs) s2
/-- two ways that meet -/
def ifW {α : Type} (t : Bool) (a b : (α → Prop) → Prop) (K : α → Prop) : Prop := (t = true → a K) ∧ (t = false → b K)
/-- a number: an int, a fraction -/
inductive Num where
  | i (n : Int)
  | q (r : Rat)
def Num.val : Num → Rat
  | .i n => (n : Rat)
  | .q r => r
abbrev eN (C : Addr) : Num → D
  | .i n => iD n
  | .q r => fr C r
abbrev eL {α : Type} (f : α → D) (xs : List α) : D := .lst (xs.map f)
abbrev eT {α β : Type} (f : α → D) (g : β → D) (p : α × β) : D := .tup [f p.1, g p.2]
abbrev eT3 {α β γ : Type} (f : α → D) (g : β → D) (h : γ → D) (p : α × β × γ) : D := .tup [f p.1, g p.2.1, h p.2.2]
abbrev sD (s : Str) : D := .v (.str s)
abbrev nD (_ : Unit) : D := .v .non
abbrev rD (a : Addr) : D := .v (.ref a)
def rngL (lo : Int) (n : Nat) : List Int := (List.range n).map fun i : Nat => lo + (i : Int)
def stpL (lo c : Int) (n : Nat) : List Int := (List.range n).map fun i : Nat => lo + (i : Int) * c
def enuL {α : Type} : Int → List α → List (Int × α)
  | _, [] => []
  | i, x :: xs => (i, x) :: enuL (i + 1) xs
theorem rngD_eq {lo : Int} {n : Nat} : rngD lo n = (rngL lo n).map iD := by simp [rngD, rngL, List.map_map, Function.comp_def]
theorem stpD_eq {lo c : Int} {n : Nat} : stpD lo c n = (stpL lo c n).map iD := by simp [stpD, stpL, List.map_map, Function.comp_def]
theorem enuL_len {α : Type} : ∀ {i : Int} {xs : List α}, (enuL i xs).length = xs.length
  | _, [] => rfl
  | i, x :: xs => by simp [enuL, enuL_len]
theorem enuL_get {α : Type} : ∀ {i : Int} {xs : List α} {j : Nat}, (enuL i xs)[j]? = xs[j]?.map fun x => (i + (j : Int), x)
  | _, [], j => by simp [enuL]
  | i, x :: xs, 0 => by simp [enuL]
  | i, x :: xs, j + 1 => by
    rw [enuL, List.getElem?_cons_succ, enuL_get, List.getElem?_cons_succ]
    congr 1
    funext y
    simp
    omega
theorem enuD_eq {α : Type} {f : α → D} {xs : List α} : enuD (xs.map f) = (enuL 0 xs).map (eT iD f) := by
  apply List.ext_getElem?
  intro j
  rw [List.getElem?_map, enuL_get]
  unfold enuD
  rw [List.getElem?_map, List.length_map]
  by_cases h : j < xs.length
  · rw [List.getElem?_eq_getElem (by simpa using h), List.getElem?_eq_getElem h]
    simp [h]
  · rw [List.getElem?_eq_none (by simp; omega), List.getElem?_eq_none (by omega)]
    rfl
theorem zip_get {α β : Type} : ∀ {xs : List α} {ys : List β} {j : Nat}, (xs.zip ys)[j]? = xs[j]?.bind fun x => ys[j]?.map fun y => (x, y)
  | [], ys, j => by simp
  | x :: xs, [], j => by cases h : (x :: xs)[j]? <;> simp
  | x :: xs, y :: ys, 0 => by simp
  | x :: xs, y :: ys, j + 1 => by
    rw [List.zip_cons_cons, List.getElem?_cons_succ, List.getElem?_cons_succ, List.getElem?_cons_succ, zip_get]
theorem zipD_eq {α β : Type} {f : α → D} {g : β → D} {xs : List α} {ys : List β} : zipD (xs.map f) (ys.map g) = (xs.zip ys).map (eT f g) := by
  apply List.ext_getElem?
  intro j
  rw [List.getElem?_map, zip_get]
  unfold zipD
  rw [List.getElem?_map, List.length_map, List.length_map]
  by_cases h : j < min xs.length ys.length
  · rw [List.getElem?_eq_getElem (by simpa using h)]
    have h1 : j < xs.length := by omega
    have h2 : j < ys.length := by omega
    simp [h1, h2]
  · rw [List.getElem?_eq_none (by simp; omega)]
    by_cases h1 : j < xs.length
    · have h2 : ¬ j < ys.length := by omega
      simp [h1, h2]
    · simp [h1]
theorem at_map {α β : Type} {f : α → β} {xs : List α} {i : Int} {v : α} (h : atI xs i = some v) : atI (xs.map f) i = some (f v) := by
  unfold atI at h ⊢
  rw [List.length_map]
  cases q : ixN xs.length i with
  | none =>
    rw [q] at h
    cases h
  | some j =>
    rw [q] at h
    show (xs.map f)[j]? = some (f v)
    rw [List.getElem?_map, show xs[j]? = some v from h]
    rfl
theorem drop_get {α : Type} {xs : List α} {f : α → D} {j : Nat} {d : D} (h : (xs.map f)[j]? = some d) : ∃ x, d = f x ∧ xs.drop j = x :: xs.drop (j + 1) := by
  rw [List.getElem?_map] at h
  cases q : xs[j]? with
  | none =>
    rw [q] at h
    cases h
  | some x =>
    rw [q] at h
    obtain ⟨hj, e⟩ := List.getElem?_eq_some_iff.mp q
    exact ⟨x, (Option.some.inj h).symm, by rw [List.drop_eq_getElem_cons hj, e]⟩
section
variable {X : Cx} {Γ : Gm} {Ω : Om} {Q : Qe} {R : Rx} {d d1 d2 : D} {ds es' : List D} {e a b c tg : Expr} {es : List Expr} {pos : Pos} {st : Stmt} {sts body : List Stmt} {Φ Ψ : OS → Prop} {α β S : Type} {f : α → D} {f2 : β → D}
/-! ### forms with a list's entries told by a function -/
theorem ex_appT {o : Expr} {p2 : Pos} (h : EX X o Γ Ω (fun d1 Ω1 => ∃ (p : Addr) (k : Nat) (ds : List D), d1 = .v (.ref p) ∧ Ω1[k]? = some (p, Cell.lst ds) ∧ EX X e Γ Ω1 (fun d Ω2 => ∃ (f : α → D) (k : Nat) (xs : List α) (v : α), d = f v ∧ Ω2[k]? = some (p, Cell.lst (xs.map f)) ∧ xs.length < 1000000 ∧ Q (.v .non) (Ω2.set k (p, .lst ((xs ++ [v]).map f)))) R) R)
    (hbase : attributeBase o "append" X.env (eval o X.env) = eval o X.env := by rfl)
    (hfew : ((backTo pos (starEach (e :: []) X.env)).all (fun x => !x.1) && (backToKw pos (keywordEach [] X.env)).all (fun x => x.1.isSome) && decide ((e :: []).length + ([] : List Keyword).length + (if ([] : List Keyword).isEmpty then 0 else 1) < 30)) = true := by rfl)
    (hline : (p2.endLine == pos.line) = true := by rfl) (hs1 : starEach (e :: []) X.env = (false, eval e X.env) :: starEach [] X.env := by rfl) (hpl : (backTo pos (starEach [] X.env)).any (·.1) = false := by rfl) :
    EX X (.Call (.Attribute o "append" p2) [e] [] pos) Γ Ω Q R :=
  ex_app (h.imp fun d1 Ω1 ⟨p, k, ds, e1, hk, hb⟩ => ⟨p, k, ds, e1, hk, hb.imp fun d Ω2 ⟨f, k, xs, v, e2, hk2, hl, q⟩ => by
    subst e2
    rw [List.map_append] at q
    exact ⟨k, xs.map f, hk2, by rw [List.length_map]; exact hl, q⟩⟩) hbase hfew hline hs1 hpl
theorem ss_itemT {o : Expr} {p2 : Pos} (h : EX X e Γ Ω (fun d Ω1 => EX X o Γ Ω1 (fun d1 Ω2 => EX X a Γ Ω2 (fun d2 Ω3 => ∃ (f : α → D) (k : Nat) (p : Addr) (xs : List α) (v : α) (n : Int) (j : Nat), d = f v ∧ d1 = .v (.ref p) ∧ d2 = iD n ∧ Ω3[k]? = some (p, Cell.lst (xs.map f)) ∧ ixN xs.length n = some j ∧ SS X sts Γ (Ω3.set k (p, .lst ((xs.set j v).map f))) Φ) (Out1 Φ Γ)) (Out1 Φ Γ)) (Out1 Φ Γ))
    (hpg : ∀ {to ti : TE}, PE X o to → PE X a ti → PG X (.Subscript o a p2) (gSub to ti rSetL) := by intro _ _ h1 h2; exact pg_sub h1 h2 set_list)
    (hs : swapsWithSole [.Subscript o a p2] e pos.line X.env = pure false := by rfl) (hw : swappedStores [.Subscript o a p2] e X.env = pure none := by rfl)
    (h1 : (assignEach [.Subscript o a p2] X.env).map (·.2) = [assign (.Subscript o a p2) X.env] := by rfl) : SS X (.Assign [.Subscript o a p2] e pos :: sts) Γ Ω Φ :=
  ss_item (h.imp fun d Ω1 hb => hb.imp fun d1 Ω2 hc => hc.imp fun d2 Ω3 ⟨f, k, p, xs, v, n, j, e0, e1, e2, hk, hj, q⟩ => by
    subst e0
    rw [List.map_set] at q
    exact ⟨k, p, xs.map f, n, j, e1, e2, hk, by rw [List.length_map]; exact hj, q⟩) hpg hs hw h1
theorem ex_repT {p2 : Pos} (h : EX X a Γ Ω (fun d Ω1 => EX X b Γ Ω1 (fun d2 Ω2 => ∃ (f : α → D) (v : α) (n : Int), d = f v ∧ d2 = iD n ∧ -(2 ^ 63) ≤ n ∧ n < 1000000 ∧ ∀ p : Addr, Q (.v (.ref p)) ((p, .lst ((List.replicate n.toNat v).map f)) :: Ω2)) R) R) (hse : starEach (a :: []) X.env = (false, eval a X.env) :: starEach [] X.env := by rfl) : EX X (.BinOp (.List [a] p2) .Mult b pos) Γ Ω Q R :=
  ex_rep (h.imp fun d Ω1 hb => hb.imp fun d2 Ω2 ⟨f, v, n, e1, e2, b1, b2, z⟩ => ⟨n, e2, b1, b2, fun p => by
    subst e1
    have := z p
    rw [List.map_replicate] at this
    exact this⟩) hse
theorem ox_catT {xs ys : List α} (h1 : LstAt Ω d1 (xs.map f)) (h2 : LstAt Ω d2 (ys.map f)) (hl : xs.length + ys.length ≤ 1000000) (k : ∀ p : Addr, Q (.v (.ref p)) ((p, .lst ((xs ++ ys).map f)) :: Ω)) : OpX X.K rCat Ω d1 d2 Q :=
  ox_cat h1 h2 (by rw [List.length_map, List.length_map]; exact hl) fun p => by
    have := k p
    rw [List.map_append] at this
    exact this
theorem ex_sl01T {p2 : Pos} (h : EX X a Γ Ω (fun d Ω1 => EX X b Γ Ω1 (fun d2 Ω2 => ∃ (f : α → D) (xs : List α) (i : Int), LstAt Ω2 d (xs.map f) ∧ d2 = iD i ∧ ∀ p : Addr, Q (.v (.ref p)) ((p, .lst ((cutD xs none (some i)).map f)) :: Ω2)) R) R) : EX X (.Subscript a (.Slice none (some b) none p2) pos) Γ Ω Q R :=
  ex_sl01 (h.imp fun d Ω1 hb => hb.imp fun d2 Ω2 ⟨f, xs, i, l, e2, z⟩ => ⟨_, i, l, e2, fun p => by rw [cutD_map]; exact z p⟩)
theorem ex_sl10T {p2 : Pos} (h : EX X a Γ Ω (fun d Ω1 => EX X b Γ Ω1 (fun d2 Ω2 => ∃ (f : α → D) (xs : List α) (i : Int), LstAt Ω2 d (xs.map f) ∧ d2 = iD i ∧ ∀ p : Addr, Q (.v (.ref p)) ((p, .lst ((cutD xs (some i) none).map f)) :: Ω2)) R) R) : EX X (.Subscript a (.Slice (some b) none none p2) pos) Γ Ω Q R :=
  ex_sl10 (h.imp fun d Ω1 hb => hb.imp fun d2 Ω2 ⟨f, xs, i, l, e2, z⟩ => ⟨_, i, l, e2, fun p => by rw [cutD_map]; exact z p⟩)
theorem ex_sl11T {p2 : Pos} (h : EX X a Γ Ω (fun d Ω1 => EX X b Γ Ω1 (fun d2 Ω2 => ∃ i, d2 = iD i ∧ EX X c Γ Ω2 (fun d3 Ω3 => ∃ (f : α → D) (xs : List α) (j : Int), LstAt Ω3 d (xs.map f) ∧ d3 = iD j ∧ ∀ p : Addr, Q (.v (.ref p)) ((p, .lst ((cutD xs (some i) (some j)).map f)) :: Ω3)) R) R) R) : EX X (.Subscript a (.Slice (some b) (some c) none p2) pos) Γ Ω Q R :=
  ex_sl11 (h.imp fun d Ω1 hb => hb.imp fun d2 Ω2 ⟨i, e2, hc⟩ => ⟨i, e2, hc.imp fun d3 Ω3 ⟨f, xs, j, l, e3, z⟩ => ⟨_, j, l, e3, fun p => by rw [cutD_map]; exact z p⟩⟩)
/-! ### what is walked -/
abbrev ItW (α : Type) := List α → (α → D) → (Om → Prop) → Om → Prop
def IW (X : Cx) (tg iter : Expr) (Γ : Gm) (Ω : Om) (f : α → D) (Q : List α → (Om → Prop) → Om → Prop) (R : Rx) : Prop := IX X tg iter Γ Ω (fun items St Ω1 => ∃ xs : List α, items = xs.map f ∧ Q xs St Ω1) R
theorem iw_list {Q : List α → (Om → Prop) → Om → Prop} (h : EX X e Γ Ω (fun d Ω1 => ∃ xs : List α, LstAt Ω1 d (xs.map f) ∧ Q xs (fun Ω' => LstAt Ω' d (xs.map f)) Ω1) R) (hpi : ∀ {t : TE}, PE X e t → PI X tg e (iList X.K t) := by intro _ h; exact pi_list h) : IW X tg e Γ Ω f Q R :=
  ix_list (h.imp fun d Ω1 ⟨xs, l, q⟩ => ⟨_, l, xs, rfl, q⟩) hpi
theorem iw_tup {Q : List α → (Om → Prop) → Om → Prop} (h : EX X e Γ Ω (fun d Ω1 => ∃ xs : List α, d = .tup (xs.map f) ∧ Q xs (fun _ => True) Ω1) R) (hpi : ∀ {t : TE}, PE X e t → PI X tg e (iTup X.K t) := by intro _ h; exact pi_tup h) : IW X tg e Γ Ω f Q R :=
  ix_tup (h.imp fun d Ω1 ⟨xs, l, q⟩ => ⟨_, l, xs, rfl, q⟩) hpi
theorem iw_rng1 {p : Pos} {Q : List Int → (Om → Prop) → Om → Prop} (hm : X.mg "range" = none) (h : EX X e Γ Ω (fun d Ω1 => ∃ n : Int, d = iD n ∧ -(2 ^ 62) ≤ n ∧ n < 2 ^ 62 ∧ Q (rngL 0 n.toNat) (fun _ => True) Ω1) R) (hg : Gl X "range" := by rfl) (he : starEach [e] X.env = [(false, eval e X.env)] := by rfl) (hse : starEach (e :: []) X.env = (false, eval e X.env) :: starEach [] X.env := by rfl) :
    IW X tg (.Call (.Name "range" p) [e] [] pos) Γ Ω iD Q R := ix_rng1 hm (h.imp fun d Ω1 ⟨n, e1, b1, b2, q⟩ => ⟨n, e1, b1, b2, _, rngD_eq, q⟩) hg he hse
theorem iw_rng2 {p : Pos} {Q : List Int → (Om → Prop) → Om → Prop} (hm : X.mg "range" = none) (h : EX X a Γ Ω (fun d Ω0 => EX X b Γ Ω0 (fun d2 Ω1 => ∃ i j : Int, d = iD i ∧ d2 = iD j ∧ (-(2 ^ 62) ≤ i ∧ i < 2 ^ 62 ∧ -(2 ^ 62) ≤ j ∧ j < 2 ^ 62) ∧ Q (rngL i (j - i).toNat) (fun _ => True) Ω1) R) R) (hg : Gl X "range" := by rfl)
    (hs : starEach [a, b] X.env = [(false, eval a X.env), (false, eval b X.env)] := by rfl) (hs2 : starEach [b] X.env = [(false, eval b X.env)] := by rfl) (hs3 : starEach (a :: [b]) X.env = (false, eval a X.env) :: starEach [b] X.env := by rfl) (hs4 : starEach (b :: []) X.env = (false, eval b X.env) :: starEach [] X.env := by rfl) :
    IW X tg (.Call (.Name "range" p) [a, b] [] pos) Γ Ω iD Q R := ix_rng2 hm (h.imp fun d Ω0 hb => hb.imp fun d2 Ω1 ⟨i, j, e1, e2, b1, q⟩ => ⟨i, j, e1, e2, b1, _, rngD_eq, q⟩) hg hs hs2 hs3 hs4
theorem iw_rng3 {p : Pos} {Q : List Int → (Om → Prop) → Om → Prop} (hm : X.mg "range" = none) (h : EX X a Γ Ω (fun d Ω0 => EX X b Γ Ω0 (fun d2 Ω1 => EX X c Γ Ω1 (fun d3 Ω2 => ∃ (i j k : Int) (n : Nat), d = iD i ∧ d2 = iD j ∧ d3 = iD k ∧ RgC i j k n ∧ Q (stpL i k n) (fun _ => True) Ω2) R) R) R) (hg : Gl X "range" := by rfl)
    (hse : starEach (a :: b :: c :: []) X.env = (false, eval a X.env) :: starEach (b :: c :: []) X.env := by rfl) (hse2 : starEach (b :: c :: []) X.env = (false, eval b X.env) :: starEach (c :: []) X.env := by rfl) (hse3 : starEach (c :: []) X.env = (false, eval c X.env) :: starEach [] X.env := by rfl)
    (hpl : (backTo pos (starEach (b :: c :: []) X.env)).any (·.1) = false := by rfl) : IW X tg (.Call (.Name "range" p) [a, b, c] [] pos) Γ Ω iD Q R :=
  ix_rng3 hm (h.imp fun d Ω0 hb => hb.imp fun d2 Ω1 hc => hc.imp fun d3 Ω2 ⟨i, j, k, n, e1, e2, e3, b1, q⟩ => ⟨i, j, k, n, e1, e2, e3, b1, _, stpD_eq, q⟩) hg hse hse2 hse3 hpl
theorem iw_enum {p tpos : Pos} {elts : List Expr} {kk : Nat} {Q : List (Int × α) → (Om → Prop) → Om → Prop} (hm : X.mg "enumerate" = none) (h : EX X e Γ Ω (fun d Ω1 => ∃ xs : List α, LstAt Ω1 d (xs.map f) ∧ Q (enuL 0 xs) (fun Ω' => LstAt Ω' d (xs.map f)) Ω1) R) (hg : Gl X "enumerate" := by rfl) (he : starEach [e] X.env = [(false, eval e X.env)] := by rfl) (hse : starEach (e :: []) X.env = (false, eval e X.env) :: starEach [] X.env := by rfl) :
    IW X (.Tuple elts kk tpos) (.Call (.Name "enumerate" p) [e] [] pos) Γ Ω (eT iD f) Q R := ix_enum hm (h.imp fun d Ω1 ⟨xs, l, q⟩ => ⟨_, l, _, enuD_eq, q⟩) hg he hse
theorem iw_zip {p tpos : Pos} {elts : List Expr} {kk : Nat} {Q : List (α × β) → (Om → Prop) → Om → Prop} (hm : X.mg "zip" = none) (h : EX X a Γ Ω (fun d Ω0 => EX X b Γ Ω0 (fun d2 Ω1 => ∃ (xs : List α) (ys : List β), LstAt Ω1 d (xs.map f) ∧ LstAt Ω1 d2 (ys.map f2) ∧ Q (xs.zip ys) (fun Ω' => LstAt Ω' d (xs.map f) ∧ LstAt Ω' d2 (ys.map f2)) Ω1) R) R) (hg : Gl X "zip" := by rfl)
    (hst : starEach [a, b] X.env = (false, eval a X.env) :: starEach [b] X.env := by rfl) (hs1 : starEach (b :: []) X.env = (false, eval b X.env) :: starEach [] X.env := by rfl) (hpl : (backTo pos (starEach [b] X.env)).any (·.1) = false := by rfl) :
    IW X (.Tuple elts kk tpos) (.Call (.Name "zip" p) [a, b] [] pos) Γ Ω (eT f f2) Q R := ix_zip hm (h.imp fun d Ω0 hb => hb.imp fun d2 Ω1 ⟨xs, ys, l1, l2, q⟩ => ⟨_, _, l1, l2, _, zipD_eq, q⟩) hg hst hs1 hpl
/-! ### loops by the combinators -/
theorem ss_forW {g : TG} (f : α → D) (hc : X.calm = true) (hpg : PG X tg g) (inv : S → Gm → Om → Prop)
    (h : IW X tg e Γ Ω f (fun xs St Ω1 => ∃ (bw : α → S → (S → Prop) → Prop) (Kf : S → Prop) (s0 : S), forW bw Kf xs s0 ∧ inv s0 Γ Ω1 ∧ (∀ s Γ' Ω', inv s Γ' Ω' → St Ω') ∧
      (∀ x s Γ' Ω' nx, inv s Γ' Ω' → bw x s nx → ∃ is put, Tgt X.K g is (f x) put ∧ (∀ i ∈ is, i < X.N.length) ∧ SS X body (put Γ') Ω' (Lp X sts Φ fun Γ2 Ω2 => ∃ s', nx s' ∧ inv s' Γ2 Ω2)) ∧ ∀ s Γ' Ω', inv s Γ' Ω' → Kf s → SS X sts Γ' Ω' Φ) (Out1 Φ Γ))
    (hp : PassesOwn (model X.prog X.w) X.A X.env X.xe := by first | exact PassesOwn.never | exact L2.passes_of rfl | assumption) (hfs : ∀ x, foldedSetIterable e X.env x = pure x := by intro _; rfl) : SS X (.For tg e body [] pos :: sts) Γ Ω Φ := by
  obtain ⟨wi, pi, hw⟩ := h
  refine ss_for hc hpg ⟨wi, pi, fun σ F H s r t x => hw σ F H s r (fun items St Ω1 J n G Y F1 H1 ⟨xs, e1, bw, Kf, s0, hW, i0, iS, ib, ie⟩ g1 hn wk hG hY => t items St Ω1 J n G Y F1 H1 ?_ g1 hn wk hG hY) x⟩ hp hfs
  subst e1
  refine ⟨fun j Γ' Ω' => ∃ s, inv s Γ' Ω' ∧ forW bw Kf (xs.drop j) s, ⟨s0, i0, hW⟩, fun j Γ' Ω' _ ⟨s, i1, _⟩ => iS s Γ' Ω' i1, fun j d Γ' Ω' hd ⟨s, i1, w⟩ => ?_, fun Γ' Ω' ⟨s, i1, w⟩ => ?_⟩
  · obtain ⟨x, rfl, e2⟩ := drop_get hd
    rw [e2] at w
    obtain ⟨is, put, T, hi, bd⟩ := ib x s Γ' Ω' _ i1 w
    refine ⟨is, put, T, hi, bd.imp fun o ho => ?_⟩
    cases o with
    | nx Γ2 Ω2 => obtain ⟨s', w', i'⟩ := ho; exact ⟨s', i', w'⟩
    | ct Γ2 Ω2 => obtain ⟨s', w', i'⟩ := ho; exact ⟨s', i', w'⟩
    | bk Γ2 Ω2 => exact ho
    | rt d Ω2 => exact ho
    | ex c fs Γ2 Ω2 => exact ho
  · rw [List.length_map, List.drop_length] at w
    exact ie s Γ' Ω' i1 w
theorem ss_whileW (inv : S → Gm → Om → Prop) {tb : S → (S → Prop) → Prop} {s0 : S} (hW : ∃ n, whileW tb n s0) (i0 : inv s0 Γ Ω)
    (h : ∀ s Γ' Ω' nx, inv s Γ' Ω' → tb s nx → TX X c Γ' Ω' (fun k Ω1 => (k = true → SS X body Γ' Ω1 (Lp X sts Φ fun Γ2 Ω2 => ∃ s', nx s' ∧ inv s' Γ2 Ω2)) ∧ (k = false → SS X sts Γ' Ω1 Φ)) (Out1 Φ Γ'))
    (hp : PassesOwn (model X.prog X.w) X.A X.env X.xe := by first | exact PassesOwn.never | exact L2.passes_of rfl | assumption) : SS X (.While c body [] pos :: sts) Γ Ω Φ := by
  obtain ⟨n0, hW⟩ := hW
  refine ss_while (fun m Γ' Ω' => ∃ s, inv s Γ' Ω' ∧ whileW tb m s) n0 ⟨s0, i0, hW⟩ (fun m Γ' Ω' ⟨s, i1, w⟩ => ?_) hp
  cases m with
  | zero => exact w.elim
  | succ m =>
    have z := h s Γ' Ω' _ i1 w
    intro σ F H st q t x
    refine z σ F H st q (fun b Ω1 F1 H1 ⟨z1, z2⟩ g => t b Ω1 F1 H1 ⟨fun hb => (z1 hb).imp fun o ho => ?_, z2⟩ g) x
    cases o with
    | nx Γ2 Ω2 => obtain ⟨s', w', i'⟩ := ho; exact ⟨m, Nat.lt_succ_self m, s', i', w'⟩
    | ct Γ2 Ω2 => obtain ⟨s', w', i'⟩ := ho; exact ⟨m, Nat.lt_succ_self m, s', i', w'⟩
    | bk Γ2 Ω2 => exact ho
    | rt d Ω2 => exact ho
    | ex c fs Γ2 Ω2 => exact ho
/-- what a comprehension's walk asks, by the combinator -/
theorem lcOk_of {scope : Scope} {g : TG} {own : List (Str × Nat)} {elt : Expr} {St : Om → Prop} {K : List D → Om → Prop} {xs : List α} {gw : α → S → (β → S → Prop) → Prop} {Kf : List β → S → Prop} {s0 : S} (inv : S → Om → Prop) (hl : xs.length ≤ 999999) (hW : mapS gw xs s0 Kf) (i0 : inv s0 Ω) (iS : ∀ s Ω', inv s Ω' → St Ω')
    (ib : ∀ x s Ω' (nx : β → S → Prop), inv s Ω' → gw x s nx → ∃ put, Tgt X.K g (own.map (·.2)) (f x) put ∧ Blk X scope fun B => EX B elt (put (wipeG Γ (own.map (·.2)))) Ω' (fun r Ω2 => ∃ y s', r = f2 y ∧ nx y s' ∧ inv s' Ω2) R0)
    (ie : ∀ ys s Ω', inv s Ω' → Kf ys s → K (ys.map f2) Ω') : LcOk X scope g own elt Γ (xs.map f) St Ω K := by
  refine ⟨fun j acc Ω' => ∃ bs s, acc = bs.map f2 ∧ bs.length = j ∧ inv s Ω' ∧ mapS gw (xs.drop j) s fun rs s2 => Kf (bs ++ rs) s2, ⟨[], s0, rfl, rfl, i0, hW⟩, fun j acc Ω' hj ⟨bs, s, e1, e2, i1, _⟩ => ⟨iS s Ω' i1, ?_⟩, fun j d acc Ω' hd ⟨bs, s, e1, e2, i1, w⟩ => ?_, fun acc Ω' ⟨bs, s, e1, e2, i1, w⟩ => ?_⟩
  · rw [List.length_map] at hj
    rw [e1, List.length_map]
    omega
  · obtain ⟨x, rfl, e3⟩ := drop_get hd
    rw [e3] at w
    obtain ⟨put, T, bd⟩ := ib x s Ω' _ i1 w
    refine ⟨put, T, fun s0 H0 C cl fp => (bd s0 H0 C cl fp).imp fun r Ω2 ⟨y, s', e4, w', i'⟩ => ⟨bs ++ [y], s', ?_, ?_, i', ?_⟩⟩
    · rw [e1, e4, List.map_append]
      rfl
    · rw [List.length_append, e2]
      rfl
    · have e5 : (fun rs s2 => Kf (bs ++ (y :: rs)) s2) = fun rs s2 => Kf (bs ++ [y] ++ rs) s2 := by
        funext rs s2
        rw [List.append_assoc]
        rfl
      rw [← e5]
      exact w'
  · rw [List.length_map, List.drop_length] at w
    have w' : Kf (bs ++ []) s := w
    rw [List.append_nil] at w'
    rw [e1]
    exact ie bs s Ω' i1 w'
theorem ex_ifJ {τ : Type} {t : Bool} {wa wb : (τ → Prop) → Prop} {K : τ → Prop} {Ω1 Ω2 : Om} (f : τ → D) (hW : ifW t wa wb K) (h : TX X c Γ Ω (fun k Ω' => k = t ∧ Ω' = Ω1) R)
    (ha : t = true → wa K → EX X a Γ Ω1 (fun d Ω' => ∃ y, d = f y ∧ Ω' = Ω2 ∧ K y) R) (hb : t = false → wb K → EX X b Γ Ω1 (fun d Ω' => ∃ y, d = f y ∧ Ω' = Ω2 ∧ K y) R) (hk : ∀ y, K y → Q (f y) Ω2) : EX X (.IfExp c a b pos) Γ Ω Q R := by
  refine ex_if ?_
  intro σ F H s q tk x
  refine h σ F H s q (fun k Ω' F' H' ⟨e1, e2⟩ g => tk k Ω' F' H' ?_ g) x
  subst e1; subst e2
  refine ⟨fun z => (ha z (hW.1 z)).imp fun d Ω' ⟨y, e1, e2, q⟩ => ?_, fun z => (hb z (hW.2 z)).imp fun d Ω' ⟨y, e1, e2, q⟩ => ?_⟩ <;> subst e1 <;> subst e2 <;> exact hk y q
end
end Sy

namespace Sy
open PySem L2 Evl Trk
section
variable {X : Cx} {Γ : Gm} {Ω Ω1 : Om} {Q : Qe} {R : Rx} {d d1 d2 : D} {ds : List D} {e a b c : Expr} {es : List Expr} {pos : Pos} {sts : List Stmt} {Φ : OS → Prop} {α S : Type} {f : α → D}
theorem seq_nx (h : SS X sts Γ Ω Φ) : Seq X sts Φ (.nx Γ Ω) := h
/-- behind a branch: the rest, from what the two ways have in common -/
def SeqJ (inv : S → Gm → Om → Prop) (Kj : S → Prop) (Φ : OS → Prop) : OS → Prop
  | .nx Γ Ω => ∃ s, inv s Γ Ω ∧ Kj s
  | o => Φ o
theorem seqJ_nx {inv : S → Gm → Om → Prop} {Kj : S → Prop} (s : S) (h : inv s Γ Ω) (k : Kj s) : SeqJ inv Kj Φ (.nx Γ Ω) := ⟨s, h, k⟩
theorem ss_ifJ {t : Bool} {wa wb : (S → Prop) → Prop} {Kj : S → Prop} {sa sb : List Stmt} (inv : S → Gm → Om → Prop) (hW : ifW t wa wb Kj) (h : TX X c Γ Ω (fun k Ω' => k = t ∧ Ω' = Ω1) (Out1 Φ Γ))
    (ha : t = true → wa Kj → SS X sa Γ Ω1 (SeqJ inv Kj Φ)) (hb : t = false → wb Kj → SS X sb Γ Ω1 (SeqJ inv Kj Φ)) (hk : ∀ s Γ' Ω', inv s Γ' Ω' → Kj s → SS X sts Γ' Ω' Φ) : SS X (.If c sa sb pos :: sts) Γ Ω Φ := by
  have go : ∀ o, SeqJ inv Kj Φ o → Seq X sts Φ o := fun o ho => by
    cases o with
    | nx Γ' Ω' => obtain ⟨s, i, k⟩ := ho; exact hk s Γ' Ω' i k
    | rt d Ω' => exact ho
    | bk Γ' Ω' => exact ho
    | ct Γ' Ω' => exact ho
    | ex c fs Γ' Ω' => exact ho
  refine ss_if fun σ F H s q t2 x => h σ F H s q (fun k Ω' F' H' ⟨e1, e2⟩ g => t2 k Ω' F' H' ?_ g) x
  subst e1; subst e2
  exact ⟨fun z => (ha z (hW.1 z)).imp go, fun z => (hb z (hW.2 z)).imp go⟩
/-- one way leaves -/
theorem ss_if1 {t : Bool} {sa sb : List Stmt} (h : TX X c Γ Ω (fun k Ω' => k = t ∧ Ω' = Ω1) (Out1 Φ Γ)) (ha : t = true → SS X sa Γ Ω1 (Seq X sts Φ)) (hb : t = false → SS X sb Γ Ω1 (Seq X sts Φ)) : SS X (.If c sa sb pos :: sts) Γ Ω Φ :=
  ss_if fun σ F H s q t2 x => h σ F H s q (fun k Ω' F' H' ⟨e1, e2⟩ g => t2 k Ω' F' H' (by subst e1; subst e2; exact ⟨ha, hb⟩) g) x
theorem TX.imp {Q Q' : Bool → Om → Prop} (h : TX X e Γ Ω Q' R) (i : ∀ b Ω', Q' b Ω' → Q b Ω') : TX X e Γ Ω Q R := fun σ F H s q t x => h σ F H s q (fun b Ω' F' H' z => t b Ω' F' H' (i b Ω' z)) x
theorem WX.imp {Q Q' : Bool → Om → Prop} (h : WX X e Γ Ω Q' R) (i : ∀ b Ω', Q' b Ω' → Q b Ω') : WX X e Γ Ω Q R := fun σ F H s q t x => h σ F H s q (fun b Ω' F' H' z => t b Ω' F' H' (i b Ω' z)) x
/-- and, or of tests whose answers are known -/
theorem wx_andP {Q : Bool → Om → Prop} {ta tb : Bool} (hA : TX X a Γ Ω (fun k Ω' => k = ta ∧ Ω' = Ω) R) (hB : ta = true → WX X (.BoolOp .And (b :: es) pos) Γ Ω (fun k Ω' => k = tb ∧ Ω' = Ω) R) (hk : Q (ta && tb) Ω) : WX X (.BoolOp .And (a :: b :: es) pos) Γ Ω Q R :=
  wx_and (hA.imp fun k Ω' ⟨e1, e2⟩ => by
    subst e1; subst e2
    cases k with
    | false => exact ⟨fun _ => hk, fun z => by cases z⟩
    | true => exact ⟨fun z => (by cases z), fun _ => (hB rfl).imp fun k Ω' ⟨e1, e2⟩ => by subst e1; subst e2; exact hk⟩)
theorem wx_orP {Q : Bool → Om → Prop} {ta tb : Bool} (hA : TX X a Γ Ω (fun k Ω' => k = ta ∧ Ω' = Ω) R) (hB : ta = false → WX X (.BoolOp .Or (b :: es) pos) Γ Ω (fun k Ω' => k = tb ∧ Ω' = Ω) R) (hk : Q (ta || tb) Ω) : WX X (.BoolOp .Or (a :: b :: es) pos) Γ Ω Q R :=
  wx_or (hA.imp fun k Ω' ⟨e1, e2⟩ => by
    subst e1; subst e2
    cases k with
    | true => exact ⟨fun _ => hk, fun z => by cases z⟩
    | false => exact ⟨fun z => (by cases z), fun _ => (hB rfl).imp fun k Ω' ⟨e1, e2⟩ => by subst e1; subst e2; exact hk⟩)
/-- .. whose second one is a call -/
def andW (ta : Bool) (wb : (Bool → Prop) → Prop) (K : Bool → Prop) : Prop := (ta = false → K false) ∧ (ta = true → wb K)
def orW (ta : Bool) (wb : (Bool → Prop) → Prop) (K : Bool → Prop) : Prop := (ta = true → K true) ∧ (ta = false → wb K)
theorem wx_andJ {Q : Bool → Om → Prop} {ta : Bool} {wb : (Bool → Prop) → Prop} {K : Bool → Prop} (hW : andW ta wb K) (hA : TX X a Γ Ω (fun k Ω' => k = ta ∧ Ω' = Ω) R) (hB : ta = true → wb K → WX X (.BoolOp .And (b :: es) pos) Γ Ω (fun k Ω' => Ω' = Ω ∧ K k) R) (hk : ∀ k, K k → Q k Ω) : WX X (.BoolOp .And (a :: b :: es) pos) Γ Ω Q R :=
  wx_and (hA.imp fun k Ω' ⟨e1, e2⟩ => by
    subst e1; subst e2
    cases k with
    | false => exact ⟨fun _ => hk _ (hW.1 rfl), fun z => by cases z⟩
    | true => exact ⟨fun z => (by cases z), fun _ => (hB rfl (hW.2 rfl)).imp fun k Ω' ⟨e1, e2⟩ => by subst e1; exact hk k e2⟩)
theorem wx_orJ {Q : Bool → Om → Prop} {ta : Bool} {wb : (Bool → Prop) → Prop} {K : Bool → Prop} (hW : orW ta wb K) (hA : TX X a Γ Ω (fun k Ω' => k = ta ∧ Ω' = Ω) R) (hB : ta = false → wb K → WX X (.BoolOp .Or (b :: es) pos) Γ Ω (fun k Ω' => Ω' = Ω ∧ K k) R) (hk : ∀ k, K k → Q k Ω) : WX X (.BoolOp .Or (a :: b :: es) pos) Γ Ω Q R :=
  wx_or (hA.imp fun k Ω' ⟨e1, e2⟩ => by
    subst e1; subst e2
    cases k with
    | true => exact ⟨fun _ => hk _ (hW.1 rfl), fun z => by cases z⟩
    | false => exact ⟨fun z => (by cases z), fun _ => (hB rfl (hW.2 rfl)).imp fun k Ω' ⟨e1, e2⟩ => by subst e1; exact hk k e2⟩)
theorem tx_lstT {Q : Bool → Om → Prop} (h : EX X e Γ Ω (fun d Ω' => ∃ (f : α → D) (xs : List α), LstAt Ω' d (xs.map f) ∧ Q (!xs.isEmpty) Ω') R) (he : ∀ whole, isTrue e X.env whole = (do let v ← whole; standAt e.pos; holding [v] (truthy v)) := by intro _; rfl) : TX X e Γ Ω Q R :=
  tx_lst (h.imp fun d Ω' ⟨f, xs, l, q⟩ => ⟨_, l, by rw [show (xs.map f).isEmpty = xs.isEmpty by cases xs <;> rfl]; exact q⟩) he
theorem cx_lenL {xs : List α} (l : LstAt Ω d (xs.map f)) (k : Q (iD (xs.length : Int)) Ω) : ClX X.K (fun xs H Q => ∃ p ys, xs = [.ref p] ∧ (SqL X.K H p ys ∨ SqT X.K H p ys) ∧ Q (.int ys.length) H) Ω [d] Q := cx_len l (by rw [List.length_map]; exact k)
theorem cx_listL {xs : List α} (l : LstAt Ω d (xs.map f)) (k : ∀ p : Addr, Q (.v (.ref p)) ((p, .lst (xs.map f)) :: Ω)) : ClX X.K (fun xs H Q => ∃ p ys, xs = [.ref p] ∧ (SqL X.K H p ys ∨ SqT X.K H p ys) ∧ ∀ l, H l = none → Q (.ref l) (upd H l (.lst ys))) Ω [d] Q := cx_list l k
theorem ox_eqI {i j : Int} (k : Q (bD (decide (i = j))) Ω) : OpX X.K rEq Ω (iD i) (iD j) Q := ox_eq rfl (by
  have : decide ((V.int i) = V.int j) = decide (i = j) := by simp
  rw [this]; exact k)
theorem ox_neI {i j : Int} (k : Q (bD (decide (i ≠ j))) Ω) : OpX X.K rNe Ω (iD i) (iD j) Q := ox_ne rfl (by
  have : (!decide ((V.int i) = V.int j)) = decide (i ≠ j) := by simp
  rw [this]; exact k)
theorem ox_eqS {i j : Str} (k : Q (bD (decide (i = j))) Ω) : OpX X.K rEq Ω (sD i) (sD j) Q := ox_eq rfl (by
  have : decide ((V.str i) = V.str j) = decide (i = j) := by simp
  rw [this]; exact k)
theorem ox_neS {i j : Str} (k : Q (bD (decide (i ≠ j))) Ω) : OpX X.K rNe Ω (sD i) (sD j) Q := ox_ne rfl (by
  have : (!decide ((V.str i) = V.str j)) = decide (i ≠ j) := by simp
  rw [this]; exact k)
theorem ox_eqB {i j : Bool} (k : Q (bD (decide (i = j))) Ω) : OpX X.K rEq Ω (bD i) (bD j) Q := ox_eq rfl (by
  have : decide ((V.bl i) = V.bl j) = decide (i = j) := by simp
  rw [this]; exact k)
/-- a comprehension's walk, its own things told by the state -/
theorem lcW {β : Type} {scope : Scope} {g : TG} {own : List (Str × Nat)} {elt : Expr} {St : Om → Prop} {K : List D → Om → Prop} {xs : List α} {gw : α → S → (β → S → Prop) → Prop} {Kf : List β → S → Prop} {s0 : S} (f2 : β → D) (om : S → Om) (hl : xs.length ≤ 999999) (hW : mapS gw xs s0 Kf) (i0 : Ω = om s0) (iS : ∀ s, St (om s))
    (ib : ∀ x s (nx : β → S → Prop), gw x s nx → ∃ put, Tgt X.K g (own.map (·.2)) (f x) put ∧ Blk X scope fun B => EX B elt (put (wipeG Γ (own.map (·.2)))) (om s) (fun r Ω2 => ∃ y s', r = f2 y ∧ nx y s' ∧ Ω2 = om s') R0)
    (ie : ∀ ys s, Kf ys s → K (ys.map f2) (om s)) : LcOk X scope g own elt Γ (xs.map f) St Ω K :=
  lcOk_of (f2 := f2) (fun s Ω' => Ω' = om s) hl hW i0 (fun s Ω' e => by subst e; exact iS s) (fun x s Ω' nx e w => by subst e; exact ib x s nx w) (fun ys s Ω' e k => by subst e; exact ie ys s k)
theorem iw_lc {scope : Scope} {tg : Expr} {g : TG} {own : List (Str × Nat)} {elt : Expr} {K : List D → Om → Prop} (h : IW X tg e Γ Ω f (fun xs St Ω1 => LcOk X scope g own elt Γ (xs.map f) St Ω1 K) R) : IX X tg e Γ Ω (fun items St Ω1 => LcOk X scope g own elt Γ items St Ω1 K) R := by
  obtain ⟨wi, pi, hw⟩ := h
  exact ⟨wi, pi, fun σ F H s r t x => hw σ F H s r (fun items St Ω1 J n G Y F1 H1 ⟨xs, e1, z⟩ g1 hn wk hG hY => t items St Ω1 J n G Y F1 H1 (by subst e1; exact z) g1 hn wk hG hY) x⟩
/-- a statement's expression, its value given a name -/
theorem ss_asgV (i : Nat) {τ : Type} {x : Str} {pos' : Pos} (f : τ → D) (v : τ) (hd : X.N.Nodup) (h : EX X e Γ Ω (fun d Ω' => d = f v ∧ Ω' = Ω1) (Out1 Φ Γ)) (k : SS X sts (Γ.set i (some (f v))) Ω1 Φ) (hN : X.N[i]? = some x := by rfl) (hx : Loc X.env.scope x := by first | exact Or.inl rfl | exact Or.inr rfl)
    (hs : swapsWith e (some (.Name x pos')) pos.line X.env = pure false := by rfl) (hf : X.fn x = true ∨ X.env.scope.names.lookup x = some .local := by first | exact .inl rfl | exact .inr rfl) : SS X (.Assign [.Name x pos'] e pos :: sts) Γ Ω Φ :=
  ss_asg i hd (h.imp fun d Ω' ⟨e1, e2⟩ => by subst e1; subst e2; exact k) hN hx hs hf
end
end Sy

namespace Sy
open PySem L2 Evl Trk
section
variable {X : Cx} {Γ : Gm} {Ω Ω1 : Om} {Q : Qe} {R : Rx} {d d1 d2 : D} {ds : List D} {e a b c : Expr} {es : List Expr} {kws : List Keyword} {pos : Pos} {sts : List Stmt} {Φ : OS → Prop} {α S : Type} {f : α → D}
/-- a value is given a name -/
theorem ss_gen {τ : Type} {v : τ} {K : τ → Prop} (Γ' : τ → Gm) (Ω' : τ → Om) (hW : ∀ x, x = v → K x) (k : ∀ x, K x → SS X sts (Γ' x) (Ω' x) Φ) : SS X sts (Γ' v) (Ω' v) Φ := k v (hW v rfl)
/-- two ways that meet, the test told within -/
def joinW {S : Type} (A : (S → Prop) → Prop) (K : S → Prop) : Prop := A K
theorem ss_ifK {A : (S → Prop) → Prop} {Kj : S → Prop} {sa sb : List Stmt} (inv : S → Gm → Om → Prop) (hW : joinW A Kj)
    (h : A Kj → TX X c Γ Ω (fun k Ω1 => (k = true → SS X sa Γ Ω1 (SeqJ inv Kj Φ)) ∧ (k = false → SS X sb Γ Ω1 (SeqJ inv Kj Φ))) (Out1 Φ Γ)) (hk : ∀ s Γ' Ω', inv s Γ' Ω' → Kj s → SS X sts Γ' Ω' Φ) : SS X (.If c sa sb pos :: sts) Γ Ω Φ := by
  have go : ∀ o, SeqJ inv Kj Φ o → Seq X sts Φ o := fun o ho => by
    cases o with
    | nx Γ' Ω' => obtain ⟨s, i, k⟩ := ho; exact hk s Γ' Ω' i k
    | rt d Ω' => exact ho
    | bk Γ' Ω' => exact ho
    | ct Γ' Ω' => exact ho
    | ex c fs Γ' Ω' => exact ho
  refine ss_if fun σ F H s q t2 x => h hW σ F H s q (fun k Ω' F' H' ⟨z1, z2⟩ g => t2 k Ω' F' H' ⟨fun z => (z1 z).imp go, fun z => (z2 z).imp go⟩ g) x
/-- C.m(..), m a classmethod -/
theorem ex_cmeth {k m n : Nat} {f C : Addr} {fd : FuncData} {ps ks : List Str} {W : Wx} {gD : List D → List D → List D} {pl : Sem Bool} {pa : Addr} {o : Expr} {mn : Str} {apos : Pos} (S : CMetK X.K C mn pa f) (Fn : FnOk X.prog X.w X.K X.mg X.base (L2.CX X.prog X.w) k f fd ps (spS X.K m W)) (hr : Room k X.A) (hb : KB X.K fd ps n ks gD)
    (h : EX X o Γ Ω (fun d1 Ω0 => d1 = .v (.ref C) ∧ CAX X pos es kws ks Γ Ω0 (fun ds zs Ω1 => ∃ Ωa Ωr, Ω1 = Ωa ++ Ωr ∧ ds.length + 1 = n ∧ zs.length = ks.length ∧ (gD (.v (.ref C) :: ds) zs).length = m ∧ W (gD (.v (.ref C) :: ds) zs) Ωa (fun d Ω' => Q d (Ω' ++ Ωr)) (fun c fs Ω' => R c fs (Ω' ++ Ωr))) R) R)
    (ht : eval (.Call (.Attribute o mn apos) es kws pos) X.env = (do
      let ov ← eval o X.env
      standAt apos.atName
      let (f, first) ← holding [ov] (getMethod ov mn pl)
      callWith pos f first (backTo pos (starEach es X.env)) (backToKw pos (keywordEach kws X.env))) := by rfl) : EX X (.Call (.Attribute o mn apos) es kws pos) Γ Ω Q R := fun σ F H st q t tx pins sh I => by
  refine PySem.W.methodCall_KW (pl := pl) (thn (h σ F H st (fun v H' => ∃ Ω' F', Go X.K F H Ω F' H' Ω' ∧ v = .ref C ∧ CAX X pos es kws ks Γ Ω' (fun ds zs Ω1 => ∃ Ωa Ωr, Ω1 = Ωa ++ Ωr ∧ ds.length + 1 = n ∧ zs.length = ks.length ∧ (gD (.v (.ref C) :: ds) zs).length = m ∧ W (gD (.v (.ref C) :: ds) zs) Ωa (fun d Ω' => Q d (Ω' ++ Ωr)) (fun c fs Ω' => R c fs (Ω' ++ Ωr))) R) (fun d1 Ω' v F' H' ⟨o1, o3⟩ g n => ⟨Ω', F', g, by subst o1; exact den_v.mp n, o3⟩) tx pins sh I) fun u s1 ⟨v, H1, I1, r1, Ω', F1, g1, ev, o3⟩ => ?_) ht
  subst ev
  obtain rfl : u = Value.ref C := r1
  obtain ⟨rest, hp⟩ := S.rc
  refine PySem.W.method_cls I1.kIn S.ga (PySem.W.cls_bind I1.kIn S.rd S.at_ (PySem.wpAny_call (PySem.W.cm_get (s := { s1 with toks := s1.toks + 1 }) I1.kIn hp ?_)))
  refine PySem.W.handed_on rfl ?_
  have I2 : Inv X pins σ H1 { s1 with heap := s1.heap.push (PySem.W.methodObj (.ref f) (.ref C)), toks := s1.toks + 1 } := I1.kept fun b u hb => Heap.get?_push_of_some _ hb
  have hq : (s1.heap.push (PySem.W.methodObj (.ref f) (.ref C))).get? s1.heap.objs.size = some (PySem.W.methodObj (.ref f) (.ref C)) := Heap.get?_push_size _ rfl
  have I3 := I2.pinned (fp := [s1.heap.objs.size]) (fun b hb => by
    rw [List.mem_singleton.mp hb]
    exact I1.fpOk (Nat.le_refl _) I1.fresh) (fun b hb => by
    rw [List.mem_singleton.mp hb]
    exact ⟨_, hq, fun v z => by cases z⟩)
  have ep : L2.pinsAt [s1.heap.objs.size] (s1.heap.push (PySem.W.methodObj (.ref f) (.ref C))) = [(s1.heap.objs.size, PySem.W.methodObj (.ref f) (.ref C))] := by
    unfold L2.pinsAt
    simp only [List.filterMap, hq, Option.map]
  have st1 := st.go g1
  refine o3 σ F1 H1 st1 _ _ (.ref s1.heap.objs.size) [] _ I3 ⟨PySem.W.MethP X.K s1.heap.objs.size f (.ref C), fun h hP => ⟨_, .inr (.inr rfl), keep_bound S.fn hP⟩, fun H' s' I4 => ⟨(I4.pin (s1.heap.objs.size, PySem.W.methodObj (.ref f) (.ref C)) (by rw [ep]; simp)).1, I4.unpinned.kIn⟩⟩ (fun ds zs Ω2 vs ws us us' F' H' s' ⟨Ωa, Ωr, e, l1, l2, l3, w⟩ g q1 q2 r2 r3 I4 => ?_) (tx.go g1)
  subst e
  have hat := (I4.pin (s1.heap.objs.size, PySem.W.methodObj (.ref f) (.ref C)) (by
    rw [ep]
    simp)).1
  have I5 := I4.unpinned
  obtain ⟨gv, gV, hb, hd⟩ := hb.ex
  have rel1 : Vals (V.ref C :: vs) (Value.ref C :: us) := .cons (show RelV (V.ref C) (Value.ref C) from rfl) r2
  have den1 : DenL X.K F' (.v (.ref C) :: ds) (V.ref C :: vs) := DenL.cons (den_v.mpr rfl) q1
  have rel := hb.rel rel1 r3
  have bound := hb.to s' (Value.ref C :: us) us' I5.kIn (by rw [← rel1.length, ← den1.len, List.length_cons]; exact l1) (by rw [← r3.length, ← q2.len]; exact l2)
  have gg := g1.trans g
  have ow' := g.ow
  have t' := t.go gg
  have tx' := tx.go gg
  have sp : spS X.K m W (gV (V.ref C :: vs) ws) H' q (WS X σ) := ⟨F', Ωa, gD (.v (.ref C) :: ds) zs, _, _, g.ex, g.ow.drop.1, l3, hd F' _ zs _ ws den1 q2 (by rw [List.length_cons]; exact l1) l2, w, fun d Ω' v F2 H2 z g n => t' _ _ _ _ _ z (Go.frame ow' g) n, fun c fs Ω' dd F2 H2 z g n => tx' c fs _ dd F2 H2 z (Go.frame ow' g) n⟩
  refine wpAny_call (PySem.W.method_call hat (codeAny_mono (Fn.run X.A X.stack s' H' ⟨Value.ref C :: us, ks.zip us'⟩ _ _ q (WS X σ) hr I5.env0 bound rel sp) fun res s'' out => ?_))
  rcases res with err | fl
  · exact passW pins H' s' err s'' I5 out
  · cases fl with
    | ret u => exact I5.after out
    | next => exact out.elim
    | brk => exact out.elim
    | cont => exact out.elim
abbrev eT0 (_ : Unit) : D := .tup []
theorem rt_law {b : Bool} (h : b = true) : ∃ Ω', OS.rt (bD b) Ω = .rt (bD true) Ω' := ⟨_, by rw [h]⟩
theorem ph_rt {Qd : Qe} (Ωa Ωr : Om) (p : Pick Ω Ωa Ωr) (h : Qd d (Ωa ++ Ωr)) : ∃ Ωa Ωr, Pick Ω Ωa Ωr ∧ Qd d (Ωa ++ Ωr) := ⟨Ωa, Ωr, p, h⟩
theorem ph_ex {Rd : Rx} {c : Value} {fs : List (Str × D)} (Ωa Ωr : Om) (p : Pick Ω Ωa Ωr) (h : Rd c fs (Ωa ++ Ωr)) : ∃ Ωa Ωr, Pick Ω Ωa Ωr ∧ Rd c fs (Ωa ++ Ωr) := ⟨Ωa, Ωr, p, h⟩
theorem denF_put {K : PySem.W.Frag} {F : Hp} {f : Str} {v : V} (n : Den K F d v) : ∀ {fs : List (Str × D)} {gs : List (Str × V)}, DenF K F fs gs → DenF K F (putD f d fs) (putF f v gs)
  | [], gs, h => by
    simp only [DenF] at h
    subst h
    simp only [putD, putF, DenF]
    exact ⟨v, [], rfl, n, rfl⟩
  | (g0, x0) :: fs, gs, h => by
    simp only [DenF] at h
    obtain ⟨z, zs, rfl, hz, hzs⟩ := h
    simp only [putD, putF]
    split
    · simp only [DenF]
      exact ⟨v, zs, rfl, n, hzs⟩
    · simp only [DenF]
      exact ⟨z, _, rfl, hz, denF_put n hzs⟩
def gFld (K : PySem.W.Frag) (to : TE) (f : Str) : TG := fun v σ H Q => to σ H fun x H1 => ∃ a C dx fs, x = .ref a ∧ H1 a = some (.ins C dx fs) ∧ Cls K C ∧ NoAttr K C f ∧ fs.length < 1000 ∧ Q σ (upd H1 a (.ins C dx (putF f v fs)))
theorem pg_fld {o : Expr} {to : TE} {f : Str} (ho : PE X o to) : PG X (.Attribute o f pos) (gFld X.K to f) := by
  refine ⟨fun pins s σ H v u Q I r h => ?_⟩
  rw [PySem.assign_Attribute]
  refine PySem.wpAny_bind (PySem.wpAny_holding (thn (ho.run pins s σ H _ I h) fun ov s1 ⟨x, H1, I1, r1, a, C, dx, fs, ex, ea, c, n, l, q⟩ => ?_))
  subst ex
  obtain rfl : ov = Value.ref a := r1
  refine PySem.wpAny_bind (PySem.wpAny_standAt (PySem.wpAny_bind (PySem.wpAny_holding (setattr_ok I1 ea c n l r fun s3 I3 => ?_))))
  exact PySem.wpAny_release ⟨σ, _, I3, q⟩
/-- (o.f, y) = e, o the name of an own instance -/
theorem ss_asgFN (io iy : Nat) {xo xy f : Str} {C : Addr} {p1 p2 p3 p4 : Pos} {kk : Nat} (hd : X.N.Nodup) (hc : Cls X.K C) (hn : NoAttr X.K C f)
    (h : EX X e Γ Ω (fun d Ω1 => ∃ d1 d2 k p fs, d = .tup [d1, d2] ∧ Γ[io]? = some (some (.v (.ref p))) ∧ Ω1[k]? = some (p, .ins C fs) ∧ fs.length < 1000 ∧ SS X sts (Γ.set iy (some d2)) (Ω1.set k (p, .ins C (putD f d1 fs))) Φ) (Out1 Φ Γ))
    (hcm : X.calm = true := by rfl) (hN : X.N[io]? = some xo := by rfl) (hNy : X.N[iy]? = some xy := by rfl) (hxy : Loc X.env.scope xy := by first | exact Or.inl rfl | exact Or.inr rfl) (hv : Vis X.env.scope xo := by first | exact Or.inl rfl | exact Or.inr (Or.inl rfl) | exact Or.inr (Or.inr rfl)) (hdb : (xo == ("__debug__" : Str)) = false := by decide)
    (hcd : (xo == ("__classdict__" : Str)) = false := by decide) (hf : X.fn xy = true ∨ X.env.scope.names.lookup xy = some .local := by first | exact .inl rfl | exact .inr rfl)
    (hpg : ∀ {t u : TG}, PG X (.Attribute (.Name xo p1) f p2) t → PG X (.Name xy p3) u → PG X (.Tuple [.Attribute (.Name xo p1) f p2, .Name xy p3] kk p4) (gTup X.K 2 (gCons t (gCons u gNil))) := by intro _ _ h1 h2; exact pg_tup rfl (pgs_cons h1 (pgs_cons h2 pgs_nil)))
    (hs : swapsWithSole [.Tuple [.Attribute (.Name xo p1) f p2, .Name xy p3] kk p4] e pos.line X.env = pure false := by rfl) (hw : swappedStores [.Tuple [.Attribute (.Name xo p1) f p2, .Name xy p3] kk p4] e X.env = pure none := by rfl)
    (h1 : (assignEach [.Tuple [.Attribute (.Name xo p1) f p2, .Name xy p3] kk p4] X.env).map (·.2) = [assign (.Tuple [.Attribute (.Name xo p1) f p2, .Name xy p3] kk p4) X.env] := by rfl) :
    SS X (.Assign [.Tuple [.Attribute (.Name xo p1) f p2, .Name xy p3] kk p4] e pos :: sts) Γ Ω Φ := fun σ F H s E t => by
  have tx := t.tkx s
  refine all_cons (ps_asg pe_all (hpg (pg_fld (pe_var hN hv hdb hcd)) (pg_name hd hNy hxy hf)) hs hw h1) (h σ F H s _ (fun d Ω1 v F1 H1 ⟨d1, d2, k, p, fs, e0, e1, hk, hl, kk⟩ g n => ?_) tx)
  subst e0
  simp only [Den] at n
  obtain ⟨a, ys, rfl, m1, m2⟩ := n
  obtain ⟨x, y, rfl, n1, n2⟩ := denL_two m2
  obtain ⟨u, hu, du⟩ := s.cx io _ e1
  have eu := den_v.mp du
  subst eu
  obtain ⟨_, dx, gs, y1, y2⟩ := g.ow.get hk
  refine ⟨a, [x, y], rfl, ex_t g.ex m1, rfl, x, [y], rfl, ⟨_, hu, p, C, dx, gs, rfl, y1, hc, hn, by rw [← denF_len y2]; exact hl, ?_⟩⟩
  refine ⟨y, [], rfl, rfl, ?_⟩
  have g4 := g.trans (Go.put (d := .ins C (putD f d1 fs)) (o := .ins C dx (putF f x gs)) g.ex g.ow hk ⟨dx, _, upd_same, denF_put n1 y2⟩)
  have hi : iy < σ.length := by rw [s.len]; exact (List.getElem?_eq_some_iff.mp hNy).1
  exact kk _ F1 _ ⟨by rw [List.length_set]; exact s.len, (s.cx.mono g.fr).set hi n2, g4.ex, g4.ow⟩ E (t.go g4)
/-- [elt for tg in e], within another one too -/
theorem ex_lc2 {elt tg : Expr} {scope : Scope} (own : List (Str × Nat)) {g : TG} (hc : X.calm = true) {N : List Str} {sc0 : Scope} (nd : N.Nodup) (hNN : X.N = N) (hSS : X.env.scope = sc0) (ok : blkC N sc0 scope own = true) (hix : ∀ p ∈ own, p.2 < N.length)
    (hpg : Blk X scope fun B => PG B tg g) (h : IX X tg e Γ Ω (fun items S Ω1 => LcOk X scope g own elt Γ items S Ω1 (fun acc Ω' => ∀ p : Addr, Q (.v (.ref p)) ((p, .lst acc) :: Ω'))) R)
    (hs : ∀ x, foldedSetIterable e X.env x = pure x := by intro _; rfl) : EX X (.ListComp elt [⟨tg, e, [], 0⟩] scope pos) Γ Ω Q R := by
  subst hNN
  subst hSS
  obtain ⟨wi, pi, hw⟩ := h
  intro σ F H s q t x
  refine allE_of (pe_lc hc nd pi (blkOk_by ok) hpg (fun _ _ _ _ _ => pts_nil) (te := blkE X scope elt) (fun s H0 C cl fp => ⟨fun pins s' σ H Q I h => h s H0 C cl fp pins s' I⟩) hs) ?_
  refine hw σ F H s _ (fun items S Ω1 J n G Y F1 H1 z g1 hn wk hG hY D0 nD => ?_) x
  exact lc_go hix (s.go g1) z hn wk hG hY nD fun acc Ω' F' H' k g2 => t _ _ _ _ _ (k D0) (g1.trans g2) (den_v.mpr rfl)
theorem ss_lc2 {elt tg : Expr} {scope : Scope} (i : Nat) {y : Str} {py spos : Pos} (own : List (Str × Nat)) {g : TG} (hc : X.calm = true) {N : List Str} {sc0 : Scope} (nd : N.Nodup) (hNN : X.N = N) (hSS : X.env.scope = sc0) (ok : blkC N sc0 scope own = true) (hix : ∀ p ∈ own, p.2 < N.length)
    (hpg : Blk X scope fun B => PG B tg g) (h : IX X tg e Γ Ω (fun items S Ω1 => LcOk X scope g own elt Γ items S Ω1 (fun acc Ω' => ∀ p : Addr, SS X sts (Γ.set i (some (.v (.ref p)))) ((p, .lst acc) :: Ω') Φ)) (Out1 Φ Γ))
    (hy : X.N[i]? = some y := by rfl) (hyl : X.env.scope.names.lookup y = some .local := by rfl) (hsw : swapsWith (.ListComp elt [⟨tg, e, [], 0⟩] scope pos) (some (.Name y py)) spos.line X.env = pure true := by rfl)
    (hs : ∀ x, foldedSetIterable e X.env x = pure x := by intro _; rfl) : SS X (.Assign [.Name y py] (.ListComp elt [⟨tg, e, [], 0⟩] scope pos) spos :: sts) Γ Ω Φ := by
  subst hNN
  subst hSS
  obtain ⟨wi, pi, hw⟩ := h
  intro σ F H s E t
  refine all_cons (ps_setLc hc nd hy hyl hsw pi (blkOk_by ok) hpg (fun _ _ _ _ _ => pts_nil) (te := blkE X scope elt) (fun s H0 C cl fp => ⟨fun pins s' σ H Q I h => h s H0 C cl fp pins s' I⟩) hs) ?_
  refine hw σ F H s _ (fun items S Ω1 J n G Y F1 H1 z g1 hn wk hG hY D0 nD => ?_) (t.tkx s)
  have hi : i < σ.length := by rw [s.len]; exact (List.getElem?_eq_some_iff.mp hy).1
  exact lc_go hix (s.go g1) z hn wk hG hY nD fun acc Ω' F' H' k g2 => k D0 _ F' H' ⟨by rw [List.length_set]; exact s.len, (s.cx.mono (g1.trans g2).fr).set hi (den_v.mpr rfl), g2.ex, g2.ow⟩ E (t.go (g1.trans g2))
end
end Sy

namespace Sy
open PySem L2 Evl Trk
theorem ix_all {N : List Str} {is : List Nat} (h : is.all (fun i => Nat.ble (i + 1) N.length) = true) : ∀ i ∈ is, i < N.length := fun i hi => Nat.le_of_ble_eq_true (List.all_eq_true.mp h i hi)
theorem ixp {N : List Str} {own : List (Str × Nat)} (h : own.all (fun p => Nat.ble (p.2 + 1) N.length) = true) : ∀ p ∈ own, p.2 < N.length := fun p hp => Nat.le_of_ble_eq_true (List.all_eq_true.mp h p hp)
section
variable {X : Cx} {Γ : Gm} {Ω Ω1 : Om} {Q : Qe} {R : Rx} {d d1 d2 : D} {ds : List D} {e a b c : Expr} {es : List Expr} {kws : List Keyword} {pos : Pos} {sts : List Stmt} {Φ : OS → Prop} {α β γ S : Type} {f : α → D} {f2 : β → D}
theorem it_gen {J : It} {n : Nat} {G : Hp → Prop} {Y : Nat → Hp → V → Hp → Prop} (w : Walk J n G Y) {H0 : Hp} {Qd : Hp → Prop} {B : (Hp → Prop) → V → Hp → Prop} (Pv : Nat → Hp → Prop) (h0 : Pv 0 H0) (hG : ∀ i H, i ≤ n → Pv i H → G H) (hs : ∀ i x H H', i < n → Pv i H → Y i H x H' → B (Pv (i + 1)) x H') (hd : ∀ H, Pv n H → Qd H) :
    ∃ W : Nat → Nat → Hp → Prop, (∃ m, W 0 m H0) ∧ ∀ i m H, W i m H → (J.stop i H ∧ Qd H) ∨ (J.go i H ∧ ∃ Nx : Hp → Prop, (∀ H', Nx H' → ∃ m', m' < m ∧ W (i + 1) m' H') ∧ ∀ x H', J.yld i H x H' → B Nx x H') := by
  refine ⟨fun i m H => m = n - i ∧ i ≤ n ∧ Pv i H, ⟨n, by simp, Nat.zero_le _, h0⟩, ?_⟩
  rintro i m H ⟨rfl, hi, p⟩
  have q := hG i H hi p
  by_cases hlt : i < n
  · refine .inr ⟨w.goes i H hlt q, Pv (i + 1), fun H' p' => ⟨n - (i + 1), by omega, rfl, hlt, p'⟩, fun x H' y => hs i x H H' hlt p (w.yields i H x H' hlt q y)⟩
  · have e : i = n := by omega
    subst e
    exact .inl ⟨w.stops H q, hd H p⟩
theorem tyes_mk {σ : L2.St} {H : Hp} {P Q : Hp → Prop} (h : P H) : tYes σ H (fun b H3 => if b = true then P H3 else Q H3) := by
  show (if true = true then P H else Q H)
  rw [if_pos rfl]
  exact h
theorem wipe_in : ∀ (is vs : List Nat) (σ : L2.St), (∀ i ∈ is, i ∈ vs) → wipe (wipe σ is) vs = wipe σ vs
  | [], vs, σ, _ => rfl
  | i :: is, vs, σ, h => by
    show wipe ((wipe σ is).set i none) vs = wipe σ vs
    rw [wipe_set i none vs (wipe σ is) (h i List.mem_cons_self), wipe_in is vs σ fun j hj => h j (List.mem_cons_of_mem _ hj)]
theorem wipe_sub {is vs : List Nat} {σ τ : L2.St} (h : ∀ i ∈ is, i ∈ vs) (e : wipe τ is = wipe (wipe σ vs) is) : wipe τ vs = wipe σ vs := by
  rw [← wipe_in is vs τ h, e, wipe_in is vs _ h, wipe_in vs vs σ fun i hi => hi]
/-- the walk of [elt for tg in e for tg1 in iter1], own things left alone -/
def Lc2Ok (X : Cx) (scope : Scope) (g g1 : TG) (own : List (Str × Nat)) (vs1 : List Nat) (iter1 elt : Expr) (Γ : Gm) (xs : List α) (f : α → D) (f2 : β → D) (f1 : γ → D) (Ω : Om) (K : List β → Prop) : Prop :=
  ∃ (W1 : α → List β → (List β → Prop) → Prop) (Kf : List β → Prop), forW W1 Kf xs [] ∧ (∀ x acc nx, W1 x acc nx → ∃ is0 put, Tgt X.K g is0 (f x) put ∧ (∀ i ∈ is0, i ∈ own.map (·.2)) ∧ ∃ (ys : List γ) (d1 : D),
    (Blk X scope fun B => EX B iter1 (put (wipeG Γ (own.map (·.2)))) Ω (fun d Ω' => d = d1 ∧ Ω' = Ω) R0) ∧ LstAt Ω d1 (ys.map f1) ∧ acc.length + ys.length ≤ 999999 ∧ ∃ gw : γ → Unit → (β → Unit → Prop) → Prop, mapS gw ys () (fun zs _ => nx (acc ++ zs)) ∧
      ∀ y nx2, gw y () nx2 → ∃ put1, Tgt X.K g1 vs1 (f1 y) put1 ∧ Blk X scope fun B => EX B elt (put1 (wipeG (put (wipeG Γ (own.map (·.2)))) vs1)) Ω (fun r Ω2 => ∃ z, r = f2 z ∧ nx2 z () ∧ Ω2 = Ω) R0) ∧ ∀ acc, Kf acc → K acc
theorem ex_lc22 {elt tg tg1 iter1 : Expr} {scope : Scope} (f1 : γ → D) (f2 : β → D) (own : List (Str × Nat)) (vs1 : List Nat) {g g1 : TG} (hc : X.calm = true) {N : List Str} {sc0 : Scope} (nd : N.Nodup) (hNN : X.N = N) (hSS : X.env.scope = sc0) (ok : blkC N sc0 scope own = true) (hix : ∀ p ∈ own, p.2 < N.length) (hv : ∀ i ∈ vs1, i ∈ own.map (·.2))
    (hpg : Blk X scope fun B => PG B tg g) (hpg1 : Blk X scope fun B => PG B tg1 g1) (h : IW X tg e Γ Ω f (fun xs St Ω1 => St Ω1 ∧ Lc2Ok X scope g g1 own vs1 iter1 elt Γ xs f f2 f1 Ω1 (fun acc => ∀ p : Addr, Q (.v (.ref p)) ((p, .lst (acc.map f2)) :: Ω1))) R)
    (hpi : ∀ {B : Cx} {t : TE}, PE B iter1 t → PI B tg1 iter1 (iList B.K t) := by intro _ _ h; exact pi_list h) (hs : ∀ x, foldedSetIterable e X.env x = pure x := by intro _; rfl) (hs1 : ∀ env x, foldedSetIterable iter1 env x = pure x := by intro _ _; rfl) : EX X (.ListComp elt [⟨tg, e, [], 0⟩, ⟨tg1, iter1, [], 0⟩] scope pos) Γ Ω Q R := by
  subst hNN
  subst hSS
  obtain ⟨wi, pi, hw⟩ := h
  intro σ F H s q t x
  refine allE_of (pe_lc2 (vs1 := vs1) hc nd pi (blkOk_by ok) hv hpg (fun _ _ _ _ _ => pts_nil) (wi1 := iList X.K (blkE X scope iter1)) (fun s0 H0 C cl fp => hpi ⟨fun pins s' σ H Q I h => h s0 H0 C cl fp pins s' I⟩) hpg1 (fun _ _ _ _ _ => pts_nil) (te := blkE X scope elt) (fun s H0 C cl fp => ⟨fun pins s' σ H Q I h => h s H0 C cl fp pins s' I⟩) hs hs1) ?_
  refine hw σ F H s _ (fun items St Ω1 J n G Y F1 H1 z gg hn wk hG hY D0 nD => ?_) x
  obtain ⟨xs, e0, hSt, W1, Kf, hW, ib, ie⟩ := z
  subst e0
  have s1 := s.go gg
  have g0 : Go X.K F1 H1 Ω1 F1 H1 Ω1 := s1.go0
  refine it_gen (B := fun Nx x H' => g x (wipe σ (own.map (·.2))) H' fun σ2 H2 => wipe σ2 (own.map (·.2)) = wipe σ (own.map (·.2)) ∧ tYes σ2 H2 fun b H3 =>
    if b = true then iList X.K (blkE X scope iter1) σ2 H3 fun J1 H4 => ∃ W1 : Nat → Nat → Hp → Prop, (∃ m, W1 0 m H4) ∧ ∀ j k H, W1 j k H →
      (J1.stop j H ∧ Nx H) ∨ (J1.go j H ∧ ∃ Nx1 : Hp → Prop, (∀ H', Nx1 H' → ∃ k', k' < k ∧ W1 (j + 1) k' H') ∧ ∀ x H', J1.yld j H x H' → g1 x (wipe σ2 vs1) H' fun σ3 H5 => wipe σ3 vs1 = wipe σ2 vs1 ∧ tYes σ3 H5 fun b H6 =>
        if b = true then blkE X scope elt σ3 H6 fun y H7 => ∃ acc, H7 D0 = some (.lst acc) ∧ acc.length < sizeLine ∧ Nx1 (upd H7 D0 (.lst (acc ++ [y]))) else Nx1 H6) else Nx H3) wk
    (fun j H' => ∃ acc F', forW W1 Kf (xs.drop j) acc ∧ Go X.K F1 H1 Ω1 F' H' ((D0, .lst (acc.map f2)) :: Ω1)) ⟨[], F1, hW, Go.alloc s1.ex s1.ow nD ⟨[], upd_same, DenL.nil⟩⟩ ?_ ?_ ?_
  · rintro j H' hj ⟨acc, F', q1, q2⟩
    exact hG F' H' Ω1 (q2.trans (Go.pick (Ωa := []) (Pick.d Pick.all) q2.ex q2.ow)) hSt
  · rintro i v H' H'' hi ⟨acc, F', q1, q2⟩ hy
    have g' : Go X.K F1 H1 Ω1 F' H' Ω1 := q2.trans (Go.pick (Ωa := []) (Pick.d Pick.all) q2.ex q2.ow)
    have hi' : i < (xs.map f).length := by rw [hn]; exact hi
    obtain ⟨F2, g2, dx⟩ := hY i F' H' Ω1 v H'' (xs.map f)[i] g' hSt hy (List.getElem?_eq_getElem hi')
    have f2' := Go.frame1 q2.ow g2
    obtain ⟨x0, ex0, ed0⟩ := drop_get (List.getElem?_eq_getElem hi')
    rw [ex0] at dx
    rw [ed0] at q1
    obtain ⟨is0, put, T, hsub, ys, d1, bi, hl, hlen, gw, hm, be⟩ := ib x0 acc _ q1
    show g v (wipe σ (own.map (·.2))) H'' _
    refine T.go (wipe σ (own.map (·.2))) F2 H'' v (fun i z => ?_) g2.ex dx _ fun σ2 l w2 cx => ?_
    · obtain ⟨p, hp, e⟩ := List.mem_map.mp (hsub i z)
      rw [wipe_len, s1.len, ← e]
      exact hix p hp
    refine ⟨wipe_sub hsub w2, ?_⟩
    have l2 : σ2.length = X.N.length := by rw [l, wipe_len]; exact s1.len
    have c2 := cx _ (((ctx_wipe (own.map (·.2)) s1.cx).mono g'.fr).mono g2.fr)
    refine tyes_mk ?_
    intro sa Ha Ca cl fp pins s' I
    have sB : Sta (X.blk sa Ha scope (compEnvC scope cl Ca X.env) fp) (put (wipeG Γ (own.map (·.2)))) Ω1 σ2 F2 H'' := ⟨l2, c2, g2.ex, g2.ow⟩
    refine bi sa Ha Ca cl fp σ2 F2 H'' sB _ (fun d Ω2 u F3 H3 ⟨e1, e2⟩ g3 n3 => ?_) (fun _ _ _ _ _ _ z => z.elim) pins s' I
    subst e1
    rw [e2] at g3
    obtain ⟨p, us, rfl, h1, h2⟩ := hl.get g3.ex g3.ow n3
    refine ⟨p, rfl, ⟨us, SqL.of h1⟩, ?_⟩
    have f3 := Go.frame1 f2'.ow g3
    have bas := (q2.trans f2').trans f3
    refine it_gen (B := fun Nx1 x H' => g1 x (wipe σ2 vs1) H' fun σ3 H5 => wipe σ3 vs1 = wipe σ2 vs1 ∧ tYes σ3 H5 fun b H6 =>
        if b = true then blkE X scope elt σ3 H6 fun y H7 => ∃ acc, H7 D0 = some (.lst acc) ∧ acc.length < sizeLine ∧ Nx1 (upd H7 D0 (.lst (acc ++ [y]))) else Nx1 H6) (walk_ofL (n := ys.length))
      (fun j H' => ∃ bs F4, mapS gw (ys.drop j) () (fun zs _ => forW W1 Kf (xs.drop (i + 1)) (acc ++ bs ++ zs)) ∧ bs.length = j ∧ Go X.K F3 H3 ((D0, .lst (acc.map f2)) :: Ω1) F4 H' ((D0, .lst ((acc ++ bs).map f2)) :: Ω1)) ⟨[], F3, by simpa using hm, rfl, by rw [List.append_nil]; exact Go.refl f3.ex f3.ow⟩ ?_ ?_ ?_
    · rintro j H4 hj ⟨bs, F4, m1, m2, m3⟩
      obtain ⟨p', ys', ep, h3, h4⟩ := hl.get m3.ex m3.ow.2 (n3.mono m3.fr)
      cases ep
      exact ⟨ys', SqL.of h3, by rw [← h4.len, List.length_map]⟩
    · rintro j y H4 H5 hj ⟨bs, F4, m1, m2, m3⟩ ⟨ey, hyy⟩
      subst ey
      obtain ⟨p', ys', ep, h3, h4⟩ := hl.get m3.ex m3.ow.2 (n3.mono m3.fr)
      cases ep
      have hj' : j < (ys.map f1).length := by rw [List.length_map]; exact hj
      obtain ⟨y', hy', dy⟩ := h4.get (List.getElem?_eq_getElem hj')
      rw [hyy ys' (SqL.of h3)] at hy'
      cases hy'
      obtain ⟨y0, ey0, edy⟩ := drop_get (List.getElem?_eq_getElem hj')
      rw [ey0] at dy
      rw [edy] at m1
      obtain ⟨put1, T1, bd⟩ := be y0 _ m1
      show g1 y (wipe σ2 vs1) H5 _
      refine T1.go (wipe σ2 vs1) F4 H5 y (fun i z => ?_) m3.ex dy _ fun σ3 l3 w3 cx3 => ?_
      · obtain ⟨p, hp, e⟩ := List.mem_map.mp (hv i z)
        rw [wipe_len, l2, ← e]
        exact hix p hp
      refine ⟨wipe_sub (fun _ h => h) w3, ?_⟩
      refine tyes_mk ?_
      intro sb Hb Cb clb fpb pinsb s'' Ib
      have sB2 : Sta (X.blk sb Hb scope (compEnvC scope clb Cb X.env) fpb) (put1 (wipeG (put (wipeG Γ (own.map (·.2)))) vs1)) Ω1 σ3 F4 H5 := ⟨by rw [l3, wipe_len]; exact l2, cx3 _ ((ctx_wipe vs1 ((c2.mono g3.fr).mono m3.fr))), m3.ex, m3.ow.2⟩
      refine bd sb Hb Cb clb fpb σ3 F4 H5 sB2 _ (fun r Ω2 v F5 H6 ⟨z, e1, nz, e2⟩ g5 n5 => ?_) (fun _ _ _ _ _ _ z => z.elim) pinsb s'' Ib
      subst e1
      rw [e2] at g5
      have f5 := Go.frame1 m3.ow g5
      have all := m3.trans f5
      obtain ⟨⟨_, _, ys3, y1, y2⟩, _⟩ := f5.ow
      have hjl : j < ys.length := hj
      refine ⟨ys3, y1, by rw [← y2.len, List.length_map, List.length_append, m2, sizeLine_eq]; omega, bs ++ [z], F5, ?_, by rw [List.length_append, m2]; rfl, ?_⟩
      · have e5 : (fun (rs : List β) (_ : Unit) => forW W1 Kf (xs.drop (i + 1)) (acc ++ bs ++ (z :: rs))) = fun rs _ => forW W1 Kf (xs.drop (i + 1)) (acc ++ (bs ++ [z]) ++ rs) := by
          funext rs u
          simp [List.append_assoc]
        rw [← e5]
        exact nz
      · have := all.trans (Go.put (k := 0) (d := .lst ((acc ++ bs).map f2 ++ [f2 z])) (o := .lst (ys3 ++ [v])) all.ex all.ow rfl ⟨_, upd_same, denL_snoc n5 y2⟩)
        have e6 : (acc ++ bs).map f2 ++ [f2 z] = (acc ++ (bs ++ [z])).map f2 := by simp [List.append_assoc]
        rw [e6] at this
        exact this
    · rintro H4 ⟨bs, F4, m1, m2, m3⟩
      rw [List.drop_length] at m1
      have m1' : forW W1 Kf (xs.drop (i + 1)) (acc ++ bs ++ []) := m1
      rw [List.append_nil] at m1'
      exact ⟨acc ++ bs, F4, m1', bas.trans m3⟩
  · rintro H' ⟨acc, F', q1, q2⟩
    have hn' : n = xs.length := by rw [← hn, List.length_map]
    rw [hn', List.drop_length] at q1
    exact t _ _ _ _ _ (ie acc q1 D0) (gg.trans q2) (den_v.mpr rfl)
end
end Sy

/-! and, or, if-expressions whose tests have premises. -/
namespace Sy
open PySem L2 Evl Trk
open PyProof.Rows (b2i)
section
variable {X : Cx} {Γ : Gm} {Ω Ω1 : Om} {Q : Qe} {R : Rx} {d d1 d2 : D} {ds : List D} {e a b c : Expr} {es : List Expr} {pos : Pos} {sts : List Stmt} {Φ : OS → Prop} {α S : Type} {f : α → D}
theorem wx_andK {Q : Bool → Om → Prop} {A : (Bool → Prop) → Prop} {K : Bool → Prop} (Ω1 : Om) (hW : joinW A K) (h : A K → TX X a Γ Ω (fun k Ω' => (k = true → WX X (.BoolOp .And (b :: es) pos) Γ Ω' (fun k2 Ω2 => Ω2 = Ω1 ∧ K k2) R) ∧ (k = false → Ω' = Ω1 ∧ K false)) R) (hk : ∀ k, K k → Q k Ω1) : WX X (.BoolOp .And (a :: b :: es) pos) Γ Ω Q R :=
  wx_and ((h hW).imp fun k Ω' ⟨z1, z2⟩ => ⟨fun e => by obtain ⟨e1, e2⟩ := z2 e; subst e1; exact hk _ e2, fun e => (z1 e).imp fun k2 Ω2 ⟨e1, e2⟩ => by subst e1; exact hk _ e2⟩)
theorem wx_orK {Q : Bool → Om → Prop} {A : (Bool → Prop) → Prop} {K : Bool → Prop} (Ω1 : Om) (hW : joinW A K) (h : A K → TX X a Γ Ω (fun k Ω' => (k = true → Ω' = Ω1 ∧ K true) ∧ (k = false → WX X (.BoolOp .Or (b :: es) pos) Γ Ω' (fun k2 Ω2 => Ω2 = Ω1 ∧ K k2) R)) R) (hk : ∀ k, K k → Q k Ω1) : WX X (.BoolOp .Or (a :: b :: es) pos) Γ Ω Q R :=
  wx_or ((h hW).imp fun k Ω' ⟨z1, z2⟩ => ⟨fun e => by obtain ⟨e1, e2⟩ := z1 e; subst e1; exact hk _ e2, fun e => (z2 e).imp fun k2 Ω2 ⟨e1, e2⟩ => by subst e1; exact hk _ e2⟩)
theorem ex_andK {A : (Bool → Prop) → Prop} {K : Bool → Prop} (Ω1 : Om) (hW : joinW A K) (h : A K → EX X a Γ Ω (Yes fun k Ω' => (k = true → EX X (.BoolOp .And (b :: es) pos) Γ Ω' (fun d Ω2 => ∃ k2, d = bD k2 ∧ Ω2 = Ω1 ∧ K k2) R) ∧ (k = false → Ω' = Ω1 ∧ K false)) R) (hk : ∀ k, K k → Q (bD k) Ω1) : EX X (.BoolOp .And (a :: b :: es) pos) Γ Ω Q R :=
  ex_and ((h hW).imp fun d Ω' ⟨k, e0, z1, z2⟩ => ⟨k, e0, fun e => by obtain ⟨e1, e2⟩ := z2 e; subst e1; exact hk _ e2, fun e => (z1 e).imp fun d2 Ω2 ⟨k2, e3, e1, e2⟩ => by subst e1; subst e3; exact hk _ e2⟩)
theorem ex_orK {A : (Bool → Prop) → Prop} {K : Bool → Prop} (Ω1 : Om) (hW : joinW A K) (h : A K → EX X a Γ Ω (Yes fun k Ω' => (k = true → Ω' = Ω1 ∧ K true) ∧ (k = false → EX X (.BoolOp .Or (b :: es) pos) Γ Ω' (fun d Ω2 => ∃ k2, d = bD k2 ∧ Ω2 = Ω1 ∧ K k2) R)) R) (hk : ∀ k, K k → Q (bD k) Ω1) : EX X (.BoolOp .Or (a :: b :: es) pos) Γ Ω Q R :=
  ex_or ((h hW).imp fun d Ω' ⟨k, e0, z1, z2⟩ => ⟨k, e0, fun e => by obtain ⟨e1, e2⟩ := z1 e; subst e1; exact hk _ e2, fun e => (z2 e).imp fun d2 Ω2 ⟨k2, e3, e1, e2⟩ => by subst e1; subst e3; exact hk _ e2⟩)
theorem ex_ifK {A : (α → Prop) → Prop} {K : α → Prop} (f : α → D) (Ω1 : Om) (hW : joinW A K) (h : A K → TX X c Γ Ω (fun k Ω' => (k = true → EX X a Γ Ω' (fun d Ω2 => ∃ y, d = f y ∧ Ω2 = Ω1 ∧ K y) R) ∧ (k = false → EX X b Γ Ω' (fun d Ω2 => ∃ y, d = f y ∧ Ω2 = Ω1 ∧ K y) R)) R) (hk : ∀ y, K y → Q (f y) Ω1) : EX X (.IfExp c a b pos) Γ Ω Q R :=
  ex_if ((h hW).imp fun k Ω' ⟨z1, z2⟩ => ⟨fun e => (z1 e).imp fun d Ω2 ⟨y, e1, e2, q⟩ => by subst e1; subst e2; exact hk _ q, fun e => (z2 e).imp fun d Ω2 ⟨y, e1, e2, q⟩ => by subst e1; subst e2; exact hk _ q⟩)
theorem passF : Passes (L2.CX X.prog X.w) X (fun _ _ _ => False) := fun _ _ _ _ _ _ _ z => by
  obtain ⟨_, _, _, _, _, _, _, _, _, _, _, _, z⟩ := z
  exact z.elim
theorem ox_own {W : Wx} {C : Addr} {fs gs : List (Str × D)} (h : W [.obj C fs, .obj C gs] [] (fun d Ω' => Q d (Ω' ++ Ω)) (fun _ _ _ => False)) : OpX X.K (rOwn C (spS X.K 2 W) (fun _ _ _ => False)) Ω (.obj C fs) (.obj C gs) Q :=
  ox_sp (X := X) (fun F H x y q e o n1 n2 s => by
    simp only [Den] at n1 n2
    obtain ⟨a, dx, fs', rfl, h1, _⟩ := n1
    obtain ⟨b, dy, gs', rfl, h2, _⟩ := n2
    exact ⟨a, b, dx, dy, _, _, rfl, rfl, e _ _ h1, e _ _ h2, s⟩) h
theorem ox_ownI {W : Wx} {C : Addr} {fs : List (Str × D)} {n : Int} (h : W [.obj C fs, iD n] [] (fun d Ω' => Q d (Ω' ++ Ω)) (fun _ _ _ => False)) : OpX X.K (rOwnI C (spS X.K 2 W) (fun _ _ _ => False)) Ω (.obj C fs) (iD n) Q :=
  ox_sp (X := X) (fun F H x y q e o n1 n2 s => by
    have e2 := den_v.mp n2
    subst e2
    simp only [Den] at n1
    obtain ⟨a, dx, fs', rfl, h1, _⟩ := n1
    exact ⟨a, dx, _, n, rfl, rfl, e _ _ h1, s⟩) h
theorem ox_iown {W : Wx} {C : Addr} {fs : List (Str × D)} {n : Int} (h : W [.obj C fs, iD n] [] (fun d Ω' => Q d (Ω' ++ Ω)) (fun _ _ _ => False)) : OpX X.K (rIOwn C (spS X.K 2 W) (fun _ _ _ => False)) Ω (iD n) (.obj C fs) Q := fun F H x y e o n1 n2 q t => by
  have e2 := den_v.mp n1
  subst e2
  have n2' := n2
  simp only [Den] at n2
  obtain ⟨a, dx, fs', rfl, h1, _⟩ := n2
  refine ⟨a, dx, _, n, rfl, rfl, e _ _ h1, F, [], [.obj C fs, iD n], _, _, e, True.intro, rfl, DenL.cons n2' (DenL.cons (den_v.mpr rfl) DenL.nil), h, fun d Ω' v F' H' z g nn => ?_, fun c fs Ω' dd F' H' z => z.elim⟩
  exact t _ _ _ _ _ z (Go.frame (Ωa := []) o g) nn
theorem op_ownI2 {k : Nat} {f g C : Addr} {fd : FuncData} {ps : List Str} {sp : Sp} {E : XK} {op : Operator} {CX : CXT} (S : IntOp X.K op) (M : NumOp X.K C op f g) (F : FnOk X.prog X.w X.K X.mg X.base CX k f fd ps sp) (hr : Room k X.A) (hb : Binds X.K fd ps []) (hx : Passes CX X E) : OpR X (binaryOp op) (rOwnI C sp E) := by
  obtain ⟨_, _, _, _, _, h1, h2, _⟩ := S.ex
  exact op_ownI M h1 h2 F hr hb hx
theorem op_iown2 {k : Nat} {f g C : Addr} {fd : FuncData} {ps : List Str} {sp : Sp} {E : XK} {op : Operator} {CX : CXT} (S : IntOp X.K op) (M : NumOp X.K C op f g) (F : FnOk X.prog X.w X.K X.mg X.base CX k g fd ps sp) (hr : Room k X.A) (hb : Binds X.K fd ps []) (hx : Passes CX X E) : OpR X (binaryOp op) (rIOwn C sp E) := by
  obtain ⟨_, _, _, _, sl, h1, h2, hl⟩ := S.ex
  exact op_iown sl M h1 h2 hl F hr hb hx
/-- one of two rules -/
def rAlt (r1 r2 : R2) : R2 := fun x y H Q => r1 x y H Q ∨ r2 x y H Q
theorem op_alt {f : Value → Value → Sem Value} {r1 r2 : R2} (h1 : OpR X f r1) (h2 : OpR X f r2) : OpR X f (rAlt r1 r2) := fun pins s σ H x y v u Q I rx ry h => by
  rcases h with h | h
  · exact h1 pins s σ H x y v u Q I rx ry h
  · exact h2 pins s σ H x y v u Q I rx ry h
theorem ox_altL {r1 r2 : R2} (h : OpX X.K r1 Ω d1 d2 Q) : OpX X.K (rAlt r1 r2) Ω d1 d2 Q := fun F H x y e o n1 n2 q t => .inl (h F H x y e o n1 n2 q t)
theorem ox_altR {r1 r2 : R2} (h : OpX X.K r2 Ω d1 d2 Q) : OpX X.K (rAlt r1 r2) Ω d1 d2 Q := fun F H x y e o n1 n2 q t => .inr (h F H x y e o n1 n2 q t)
theorem ox_join {r : R2} {A : (α → Prop) → Prop} {K : α → Prop} (f : α → D) (hW : joinW A K) (h : A K → OpX X.K r Ω d1 d2 (fun d Ω' => ∃ y, d = f y ∧ Ω' = Ω ∧ K y)) (hk : ∀ y, K y → Q (f y) Ω) : OpX X.K r Ω d1 d2 Q := fun F H x y e o n1 n2 q t =>
  h hW F H x y e o n1 n2 q fun d Ω' v F' H' ⟨z, e1, e2, k⟩ g n => t d Ω' v F' H' (by subst e1; subst e2; exact hk _ k) g n
/-- a number that is an int or a Fraction -/
theorem ox_numL {r : R2} {C : Addr} {x : Num} (h1 : ∀ n, x = .i n → OpX X.K r Ω (iD n) d2 Q) (h2 : ∀ q, x = .q q → OpX X.K r Ω (fr C q) d2 Q) : OpX X.K r Ω (eN C x) d2 Q := by
  cases x with
  | i n => exact h1 n rfl
  | q q => exact h2 q rfl
theorem ox_numR {r : R2} {C : Addr} {x : Num} (h1 : ∀ n, x = .i n → OpX X.K r Ω d1 (iD n) Q) (h2 : ∀ q, x = .q q → OpX X.K r Ω d1 (fr C q) Q) : OpX X.K r Ω d1 (eN C x) Q := by
  cases x with
  | i n => exact h1 n rfl
  | q q => exact h2 q rfl
/-- truth by one's own __bool__ -/
theorem tx_ownB {k : Nat} {f C : Addr} {fd : FuncData} {ps : List Str} {W : Wx} {Q : Bool → Om → Prop} (M : CmpM X.K C "__bool__" f) (Fn : FnOk X.prog X.w X.K X.mg X.base (L2.CX X.prog X.w) k f fd ps (spS X.K 1 W)) (hr : Room k X.A) (hb : Binds X.K fd ps [])
    (h : EX X a Γ Ω (fun d Ω' => ∃ fs, d = .obj C fs ∧ W [d] [] (fun d2 Ω2 => ∃ b, d2 = bD b ∧ Q b (Ω2 ++ Ω')) (fun _ _ _ => False)) R) (he : ∀ whole, isTrue a X.env whole = (do let v ← whole; standAt a.pos; holding [v] (truthy v)) := by intro _; rfl) : TX X a Γ Ω Q R := fun σ F H s q t x => by
  have tr : TruR X (fun x H Qb => ∃ a dx fs, x = .ref a ∧ H a = some (.ins C dx fs) ∧ spS X.K 1 W [x] H (fun v H' => ∃ b, v = .bl b ∧ Qb b H') (fun _ _ _ => False)) := by
    intro pins s σ H x v Q I rx h
    obtain ⟨a, dx, fs, rfl, ha, hsp⟩ := h
    obtain rfl : v = Value.ref a := rx
    obtain ⟨mA, J, _⟩ := ins_get I.hok ha
    obtain ⟨od, J, _⟩ := J.look
    obtain ⟨m, hF⟩ := I.fr
    refine PySem.W.truthy_K hF I.ok.mod.kin J M.find M.fn (thn (run_in Fn hr I.env0 hb passF I (vals_r a) hsp) fun z s' hz => ?_)
    obtain ⟨v, H', I', rv, b, ev, q⟩ := hz
    subst ev
    cases rv
    exact ⟨H', I', q⟩
  refine allT_of (pt_truthR pe_all tr he) (h σ F H s _ (fun d Ω' v F1 H1 ⟨fs, e, w⟩ g n => ?_) x)
  subst e
  have n' := n
  simp only [Den] at n
  obtain ⟨a, dx, gs, rfl, h1, _⟩ := n
  exact ⟨a, dx, gs, rfl, g.ex _ _ h1, F1, [], [.obj C fs], _, _, g.ex, True.intro, rfl, DenL.cons n' DenL.nil, w, fun d2 Ω2 v2 F2 H2 ⟨b, eb, z⟩ g2 n2 => ⟨b, by subst eb; exact den_v.mp n2, t b _ F2 H2 z (g.trans (Go.frame (Ωa := []) g.ow g2))⟩, fun _ _ _ _ _ _ z => z.elim⟩
theorem ex_popT {o : Expr} {p2 : Pos} (h : EX X o Γ Ω (fun d1 Ω1 => ∃ (f : α → D) (p : Addr) (k : Nat) (xs : List α) (v : α), d1 = .v (.ref p) ∧ Ω1[k]? = some (p, Cell.lst (xs.map f)) ∧ xs.getLast? = some v ∧ Q (f v) (Ω1.set k (p, .lst (xs.dropLast.map f)))) R)
    (hbase : attributeBase o "pop" X.env (eval o X.env) = eval o X.env := by rfl) (hline : (p2.endLine == pos.line) = true := by rfl) : EX X (.Call (.Attribute o "pop" p2) [] [] pos) Γ Ω Q R :=
  ex_pop (h.imp fun d1 Ω1 ⟨f, p, k, xs, v, e1, hk, hv, q⟩ => ⟨p, k, xs.map f, f v, e1, hk, by rw [List.getLast?_map, hv]; rfl, by rw [← List.map_dropLast]; exact q⟩) hbase hline
/-! ### loops that may be left -/
def loopW {S : Type} (A : (S → Prop) → Prop) (K : S → Prop) : Prop := A K
theorem ss_forB {g : TG} {tg : Expr} {body : List Stmt} (f : α → D) (hc : X.calm = true) (hpg : PG X tg g) (inv : S → Gm → Om → Prop)
    (h : IW X tg e Γ Ω f (fun xs St Ω1 => ∃ (bw : (S → Prop) → α → S → (S → Prop) → Prop) (Kf : S → Prop) (s0 : S), loopW (fun K => forW (bw K) K xs s0) Kf ∧ inv s0 Γ Ω1 ∧ (∀ s Γ' Ω', inv s Γ' Ω' → St Ω') ∧ (∀ s Γ' Ω', inv s Γ' Ω' → Kf s → SS X sts Γ' Ω' Φ) ∧
      ((∀ s Γ' Ω', inv s Γ' Ω' → Kf s → SS X sts Γ' Ω' Φ) → ∀ x s Γ' Ω' nx, inv s Γ' Ω' → bw Kf x s nx → ∃ is put, Tgt X.K g is (f x) put ∧ (∀ i ∈ is, i < X.N.length) ∧ SS X body (put Γ') Ω' (Lp X sts Φ fun Γ2 Ω2 => ∃ s', nx s' ∧ inv s' Γ2 Ω2))) (Out1 Φ Γ))
    (hp : PassesOwn (model X.prog X.w) X.A X.env X.xe := by first | exact PassesOwn.never | exact L2.passes_of rfl | assumption) (hfs : ∀ x, foldedSetIterable e X.env x = pure x := by intro _; rfl) : SS X (.For tg e body [] pos :: sts) Γ Ω Φ := by
  refine ss_forW f hc hpg inv ?_ hp hfs
  obtain ⟨wi, pi, hw⟩ := h
  exact ⟨wi, pi, fun σ F H s r t x => hw σ F H s r (fun items St Ω1 J n G Y F1 H1 ⟨xs, e1, bw, Kf, s0, z1, z2, z3, z4, z5⟩ g1 hn wk hG hY => t items St Ω1 J n G Y F1 H1 ⟨xs, e1, bw Kf, Kf, s0, z1, z2, z3, z5 z4, z4⟩ g1 hn wk hG hY) x⟩
theorem ss_whileB {body : List Stmt} (inv : S → Gm → Om → Prop) {tb : (S → Prop) → S → (S → Prop) → Prop} {Kf : S → Prop} {s0 : S} (hW : loopW (fun K => ∃ n, whileW (tb K) n s0) Kf) (i0 : inv s0 Γ Ω) (hk : ∀ s Γ' Ω', inv s Γ' Ω' → Kf s → SS X sts Γ' Ω' Φ)
    (h : (∀ s Γ' Ω', inv s Γ' Ω' → Kf s → SS X sts Γ' Ω' Φ) → ∀ s Γ' Ω' nx, inv s Γ' Ω' → tb Kf s nx → TX X c Γ' Ω' (fun k Ω1 => (k = true → SS X body Γ' Ω1 (Lp X sts Φ fun Γ2 Ω2 => ∃ s', nx s' ∧ inv s' Γ2 Ω2)) ∧ (k = false → ∃ s', inv s' Γ' Ω1 ∧ Kf s')) (Out1 Φ Γ'))
    (hp : PassesOwn (model X.prog X.w) X.A X.env X.xe := by first | exact PassesOwn.never | exact L2.passes_of rfl | assumption) : SS X (.While c body [] pos :: sts) Γ Ω Φ :=
  ss_whileW inv hW i0 (fun s Γ' Ω' nx i w => (h hk s Γ' Ω' nx i w).imp fun k Ω1 ⟨z1, z2⟩ => ⟨z1, fun e => by obtain ⟨s', i', k'⟩ := z2 e; exact hk s' _ _ i' k'⟩) hp
/-- a slot's own instance is frozen: it is the first of the own things -/
theorem ss_frzI (i : Nat) {p C : Addr} {fs : List (Str × D)} (hi : Γ[i]? = some (some (.v (.ref p)))) (h : SS X sts (Γ.set i (some (.obj C fs))) Ω Φ) : SS X sts Γ ((p, .ins C fs) :: Ω) Φ := fun σ F H s E t => by
  obtain ⟨⟨h1, _, dx, gs, h2, h3⟩, _⟩ := s.ow
  have g := Go.freeze s.ex s.ow h2
  refine h σ _ H ⟨s.len, ?_, g.ex, g.ow⟩ E (t.go g)
  obtain ⟨v, hv, dv⟩ := s.cx i _ hi
  rw [den_v.mp dv] at hv
  refine (s.cx.mono g.fr).put hv ?_
  simp only [Den]
  exact ⟨p, dx, gs, rfl, upd_same, h3.mono g.fr⟩
/-- -o by one's own __neg__ -/
theorem ex_negO {k : Nat} {f C : Addr} {fd : FuncData} {ps : List Str} {W : Wx} (M : CmpM X.K C "__neg__" f) (Fn : FnOk X.prog X.w X.K X.mg X.base (L2.CX X.prog X.w) k f fd ps (spS X.K 1 W)) (hr : Room k X.A) (hb : Binds X.K fd ps [])
    (h : EX X a Γ Ω (fun d Ω' => ∃ fs, d = .obj C fs ∧ W [d] [] (fun d2 Ω2 => Q d2 (Ω2 ++ Ω')) (fun _ _ _ => False)) R) : EX X (.UnaryOp .USub a pos) Γ Ω Q R := by
  refine ex_un (r := fun x H q => ∃ a dx fs, x = .ref a ∧ H a = some (.ins C dx fs) ∧ spS X.K 1 W [x] H q (fun _ _ _ => False)) ?_ (h.imp fun d Ω' ⟨fs, e, w⟩ => ?_)
  · intro pins s σ H x v Q I rx h
    obtain ⟨a, dx, fs, rfl, ha, hsp⟩ := h
    obtain rfl : v = Value.ref a := rx
    obtain ⟨mA, J, _⟩ := ins_get I.hok ha
    obtain ⟨od, J, _⟩ := J.look
    obtain ⟨m, hF⟩ := I.fr
    exact PySem.W.ksp_neg hF I.ok.mod.kin J M.find M.fn (run_in Fn hr I.env0 hb passF I (vals_r a) hsp)
  · intro F H x e' o n q t
    subst e
    have n' := n
    simp only [Den] at n
    obtain ⟨a, dx, gs, rfl, h1, _⟩ := n
    exact ⟨a, dx, gs, rfl, e' _ _ h1, F, [], [.obj C fs], _, _, e', True.intro, rfl, DenL.cons n' DenL.nil, w, fun d2 Ω2 v2 F2 H2 z g2 n2 => t _ _ _ _ _ z (Go.frame (Ωa := []) o g2) n2, fun _ _ _ _ _ _ z => z.elim⟩
/-! ### ints and bools -/
def rIB (g : Int → Int → Int) : R2 := fun x y H Q => ∃ i k, x = .int i ∧ y = .bl k ∧ Q (.int (g i (b2i k))) H
def rBI (g : Int → Int → Int) : R2 := fun x y H Q => ∃ k i, x = .bl k ∧ y = .int i ∧ Q (.int (g (b2i k) i)) H
theorem opIB {fo : Value → Value → Sem Value} {g : Int → Int → Int} (rule : ∀ (i : Int) (k : Bool) (t : Tok) (s : Shared) (Q : Value → Shared → Prop) (E : Value → Shared → Prop), Q (.int (g i (b2i k)) s.toks) { s with toks := s.toks + 1 } → wpAny (model X.prog X.w) X.A (fo (.int i t) (.bool k)) Q E s) : OpR X fo (rIB g) := by
  intro pins s σ H x y v u Q I rx ry h
  obtain ⟨i, k, rfl, rfl, q⟩ := h
  obtain ⟨t, rfl⟩ := rx
  cases ry
  exact rule i k t s _ _ ⟨.int (g i (b2i k)), H, I.tok _, ⟨_, rfl⟩, q⟩
theorem opBI {fo : Value → Value → Sem Value} {g : Int → Int → Int} (rule : ∀ (k : Bool) (i : Int) (t : Tok) (s : Shared) (Q : Value → Shared → Prop) (E : Value → Shared → Prop), Q (.int (g (b2i k) i) s.toks) { s with toks := s.toks + 1 } → wpAny (model X.prog X.w) X.A (fo (.bool k) (.int i t)) Q E s) : OpR X fo (rBI g) := by
  intro pins s σ H x y v u Q I rx ry h
  obtain ⟨k, i, rfl, rfl, q⟩ := h
  obtain ⟨t, rfl⟩ := ry
  cases rx
  exact rule k i t s _ _ ⟨.int (g (b2i k) i), H, I.tok _, ⟨_, rfl⟩, q⟩
theorem op_ibAdd : OpR X (binaryOp .Add) (rIB fun i j => i + j) := opIB fun i k t s Q E q => PySem.add_int_bool q
theorem op_ibSub : OpR X (binaryOp .Sub) (rIB fun i j => i - j) := opIB fun i k t s Q E q => PySem.IntBool.sub_int_bool q
theorem op_ibMult : OpR X (binaryOp .Mult) (rIB fun i j => i * j) := opIB fun i k t s Q E q => PySem.IntBool.mul_int_bool q
theorem op_biAdd : OpR X (binaryOp .Add) (rBI fun i j => i + j) := opBI fun k i t s Q E q => PySem.IntBool.add_bool_int q
theorem op_biSub : OpR X (binaryOp .Sub) (rBI fun i j => i - j) := opBI fun k i t s Q E q => PySem.IntBool.sub_bool_int q
theorem op_biMult : OpR X (binaryOp .Mult) (rBI fun i j => i * j) := opBI fun k i t s Q E q => PySem.IntBool.mul_bool_int q
theorem ox_IB {g : Int → Int → Int} {i : Int} {k : Bool} (h : Q (iD (g i (b2i k))) Ω) : OpX X.K (rIB g) Ω (iD i) (bD k) Q := fun F H x y e o h1 h2 q t => ⟨i, k, den_v.mp h1, den_v.mp h2, t _ _ _ _ _ h (Go.refl e o) (den_v.mpr rfl)⟩
theorem ox_BI {g : Int → Int → Int} {i : Int} {k : Bool} (h : Q (iD (g (b2i k) i)) Ω) : OpX X.K (rBI g) Ω (bD k) (iD i) Q := fun F H x y e o h1 h2 q t => ⟨k, i, den_v.mp h1, den_v.mp h2, t _ _ _ _ _ h (Go.refl e o) (den_v.mpr rfl)⟩
theorem cx_intB {k : Bool} (h : Q (iD (b2i k)) Ω) : ClX X.K (fun xs H Q => (∃ i, xs = [.int i] ∧ Q (.int i) H) ∨ ∃ k, xs = [.bl k] ∧ Q (.int (if k then 1 else 0)) H) Ω [bD k] Q := fun F H xs e o n q t => by
  obtain ⟨x, rfl, h1⟩ := denL_one n
  exact .inr ⟨k, by rw [den_v.mp h1], t _ _ _ _ _ h (Go.refl e o) (den_v.mpr rfl)⟩
theorem ox_neB {i j : Bool} (k : Q (bD (decide (i ≠ j))) Ω) : OpX X.K rNe Ω (bD i) (bD j) Q := ox_ne rfl (by
  have : (!decide ((V.bl i) = V.bl j)) = decide (i ≠ j) := by simp
  rw [this]; exact k)
theorem kit_II {K : PySem.W.Frag} : PySem.W.kitOne K (.type "int") (.type "int") = some true := kit_ty (by decide +kernel)
theorem kit_BI {K : PySem.W.Frag} : PySem.W.kitOne K (.type "bool") (.type "int") = some true := kit_ty (by decide +kernel)
theorem kit_BB {K : PySem.W.Frag} : PySem.W.kitOne K (.type "bool") (.type "bool") = some true := kit_ty (by decide +kernel)
theorem kit_IB {K : PySem.W.Frag} : PySem.W.kitOne K (.type "int") (.type "bool") = some false := kit_ty (by decide +kernel)
/-- an int or a bool -/
inductive IB where
  | i (n : Int)
  | b (k : Bool)
def IB.val : IB → Int
  | .i n => n
  | .b k => b2i k
abbrev eIB : IB → D
  | .i n => iD n
  | .b k => bD k
theorem ox_ibL {r1 : R2} {g : Int → Int → Int} {x : IB} {j : Int} (h1 : ∀ n, x = .i n → OpX X.K r1 Ω (iD n) (iD j) fun d Ω' => d = iD (g x.val j) ∧ Ω' = Ω) (k : Q (iD (g x.val j)) Ω) : OpX X.K (rAlt r1 (rBI g)) Ω (eIB x) (iD j) Q := by
  cases x with
  | i n =>
    intro F H x y e o n1 n2 q t
    refine .inl (h1 n rfl F H x y e o n1 n2 q fun d Ω' v F' H' ⟨e1, e2⟩ g n => t d Ω' v F' H' (by subst e1; subst e2; exact k) g n)
  | b b => exact ox_altR (ox_BI k)
theorem ox_ibR {r1 : R2} {g : Int → Int → Int} {x : IB} {j : Int} (h1 : ∀ n, x = .i n → OpX X.K r1 Ω (iD j) (iD n) fun d Ω' => d = iD (g j x.val) ∧ Ω' = Ω) (k : Q (iD (g j x.val)) Ω) : OpX X.K (rAlt r1 (rIB g)) Ω (iD j) (eIB x) Q := by
  cases x with
  | i n =>
    intro F H x y e o n1 n2 q t
    refine .inl (h1 n rfl F H x y e o n1 n2 q fun d Ω' v F' H' ⟨e1, e2⟩ g n => t d Ω' v F' H' (by subst e1; subst e2; exact k) g n)
  | b b => exact ox_altR (ox_IB k)
/-- entries told by another function -/
theorem LstAt.co {α β : Type} {f : α → D} {g : β → D} {c : α → β} {xs : List α} {d : D} (l : LstAt Ω d (xs.map f)) (h : ∀ a, g (c a) = f a) : LstAt Ω d ((xs.map c).map g) := by
  rw [List.map_map, show g ∘ c = f from funext h]
  exact l
end
end Sy
namespace Sy
open PySem L2 Evl Trk
section
variable {X : Cx} {Γ : Gm} {Ω : Om} {Q : Qe} {R : Rx} {a b : Expr} {pos : Pos}
/-- len(o), o[n] by one's own methods -/
theorem ex_lenO {k : Nat} {f C : Addr} {fd : FuncData} {ps : List Str} {W : Wx} {p : Pos} (M : CmpM X.K C "__len__" f) (Fn : FnOk X.prog X.w X.K X.mg X.base (L2.CX X.prog X.w) k f fd ps (spS X.K 1 W)) (hr : Room (k + 1) X.A) (hb : Binds X.K fd ps []) (hm : X.mg "len" = none)
    (h : EX X a Γ Ω (fun d Ω' => ∃ fs, d = .obj C fs ∧ W [d] [] (fun d2 Ω2 => ∃ n : Int, d2 = iD n ∧ (0 ≤ n ∧ n < 2 ^ 63) ∧ Q (iD n) (Ω2 ++ Ω')) (fun _ _ _ => False)) R)
    (hg : Gl X "len" := by rfl) (he : starEach (a :: []) X.env = (false, eval a X.env) :: starEach [] X.env := by rfl) (hpl : (backTo pos (starEach [] X.env)).any (·.1) = false := by rfl) : EX X (.Call (.Name "len" p) [a] [] pos) Γ Ω Q R := by
  have hcall : CallR X (.builtin "len") (fun xs H Q => ∃ a dx gs, xs = [.ref a] ∧ H a = some (.ins C dx gs) ∧ spS X.K 1 W xs H (fun v H' => ∃ n : Int, v = .int n ∧ (0 ≤ n ∧ n < 2 ^ 63) ∧ Q v H') (fun _ _ _ => False)) := by
    intro pins s σ H xs us Q I r h
    obtain ⟨a, dx, gs, rfl, ha, hsp⟩ := h
    obtain ⟨w1, rfl, rx⟩ := vals1 r
    cases rx
    obtain ⟨mA, J, _⟩ := ins_get I.hok ha
    obtain ⟨od, J, _⟩ := J.look
    obtain ⟨m, hF⟩ := I.fr
    refine PySem.W.len_K hF I.ok.mod.kin J M.find M.fn (thn (run_in Fn hr.in1 I.env0.in1 hb passF I (vals_r a) hsp) fun z s' hz => ?_)
    obtain ⟨v, H', I', rv, n, ev, b, q⟩ := hz
    subst ev
    obtain ⟨t, rfl⟩ := rv
    exact ⟨b, V.int n, H', I'.tok _, ⟨_, rfl⟩, q⟩
  refine ex_callB hcall hm PySem.boot_len (ax_cons (h.imp fun d Ω' ⟨fs, e, w⟩ => ax_nil ?_) he) hg (by decide) (by decide) he hpl
  subst e
  intro F H xs e o n q t
  have n' := n
  obtain ⟨x, rfl, h1⟩ := denL_one n
  simp only [Den] at h1
  obtain ⟨a, dx, gs, rfl, hh, _⟩ := h1
  exact ⟨a, dx, gs, rfl, e _ _ hh, F, [], [.obj C fs], _, _, e, True.intro, rfl, n', w, fun d2 Ω2 v2 F2 H2 ⟨m, em, bm, z⟩ g2 n2 => ⟨m, by subst em; exact den_v.mp n2, bm, t _ _ _ _ _ z (Go.frame (Ωa := []) o g2) (by subst em; exact n2)⟩, fun _ _ _ _ _ _ z => z.elim⟩
theorem ex_subO {k : Nat} {f C : Addr} {fd : FuncData} {ps : List Str} {W : Wx} (M : CmpM X.K C "__getitem__" f) (hfn : PySem.W.fnIn X.K f = true) (Fn : FnOk X.prog X.w X.K X.mg X.base (L2.CX X.prog X.w) k f fd ps (spS X.K 2 W)) (hr : Room (k + 1) X.A) (hb : Binds X.K fd ps [])
    (h : EX X a Γ Ω (fun d1 Ω1 => EX X b Γ Ω1 (fun d2 Ω2 => ∃ fs n, d1 = .obj C fs ∧ d2 = iD n ∧ W [d1, d2] [] (fun d3 Ω3 => Q d3 (Ω3 ++ Ω2)) (fun _ _ _ => False)) R) R)
    (hsl : ∀ x i, subscripted b true (.ref x) i = runValue (.builtin "lifetime.subscript" ⟨[.ref x, i], []⟩) := by intro _ _; with_unfolding_all rfl) (hs : PlainIx b := by exact fun _ _ => rfl) : EX X (.Subscript a b pos) Γ Ω Q R := fun σ F H s q t x => by
  have rule : PE X (.Subscript a b pos) (tOp (fun x y H2 Q => ∃ a dx gs n, x = .ref a ∧ y = .int n ∧ H2 a = some (.ins C dx gs) ∧ spS X.K 2 W [x, y] H2 Q (fun _ _ _ => False)) (allE X a) (allE X b)) := ⟨fun pins s σ H Q I h => by
    refine PyProof.Rows.Subscript_ (binT pe_all pe_all I h fun v u s2 x y H2 I2 rx ry g => ?_)
    obtain ⟨a, dx, gs, n, rfl, rfl, ha2, hsp⟩ := g
    obtain rfl : v = Value.ref a := rx
    obtain ⟨t, rfl⟩ := ry
    obtain ⟨mA, J, _⟩ := ins_get I2.hok ha2
    obtain ⟨od, J, _⟩ := J.look
    obtain ⟨m, hF⟩ := I2.fr
    exact PySem.W.sub_K hF I2.ok.mod.kin J M.find hfn M.fn (run_in Fn hr.in1 I2.env0.in1 hb passF I2 (vals_ri a n t) hsp) (hsl _ _)⟩
  refine allE_of rule (h σ F H s _ (fun d1 Ω1 v F1 H1 hB g1 n1 => hB σ F1 H1 (s.go g1) _ (fun d2 Ω2 u F2 H2 ⟨fs, n, e1, e2, w⟩ g2 n2 => ?_) (x.go g1)) x)
  subst e1; subst e2
  have g := g1.trans g2
  have n1' := n1.mono g2.fr
  have n1'' := n1'
  simp only [Den] at n1'
  obtain ⟨a, dx, gs, rfl, hh, _⟩ := n1'
  exact ⟨a, dx, gs, n, rfl, den_v.mp n2, g2.ex _ _ hh, F2, [], [.obj C fs, iD n], _, _, g2.ex, True.intro, rfl, DenL.cons n1'' (DenL.cons n2 DenL.nil), w, fun d3 Ω3 v3 F3 H3 z g3 n3 => t _ _ _ _ _ z (g.trans (Go.frame (Ωa := []) g2.ow g3)) n3, fun _ _ _ _ _ _ z => z.elim⟩
end
end Sy

set_option exponentiation.threshold 10000
/-! The combinators from the human's side. -/
namespace Sy
open PySem L2 Evl Trk
section
variable {α β S : Type}
theorem forW_of {body : α → S → (S → Prop) → Prop} {K : S → Prop} (I : Nat → S → Prop) : ∀ {xs : List α} {s : S}, I 0 s → (∀ i x s (nx : S → Prop), xs[i]? = some x → I i s → (∀ s', I (i + 1) s' → nx s') → body x s nx) → (∀ s, I xs.length s → K s) → forW body K xs s := by
  have aux : ∀ (xs : List α) (k : Nat) (s : S), I k s → (∀ i x s (nx : S → Prop), xs[i]? = some x → I (k + i) s → (∀ s', I (k + i + 1) s' → nx s') → body x s nx) → (∀ s, I (k + xs.length) s → K s) → forW body K xs s := by
    intro xs
    induction xs with
    | nil => intro k s h _ hk; exact hk s h
    | cons x xs ih =>
      intro k s h hs hk
      refine hs 0 x s _ rfl h fun s' h' => ih (k + 1) s' h' (fun i y s nx hy hi hn => ?_) fun s hI => hk s ?_
      · have e : k + 1 + i = k + (i + 1) := by omega
        rw [e] at hi hn
        exact hs (i + 1) y s nx (by simpa using hy) hi hn
      · have e : k + 1 + xs.length = k + (x :: xs).length := by simp; omega
        rw [e] at hI
        exact hI
  intro xs s h hs hk
  refine aux xs 0 s h (fun i x s nx hx hi hn => hs i x s nx hx (by simpa using hi) (by simpa using hn)) fun s hI => hk s (by simpa using hI)
theorem mapS_of {g : α → Unit → (β → Unit → Prop) → Prop} {K : List β → Unit → Prop} (f : α → β) : ∀ {xs : List α}, (∀ x ∈ xs, ∀ nx : β → Unit → Prop, nx (f x) () → g x () nx) → K (xs.map f) () → mapS g xs () K
  | [], _, hk => hk
  | x :: xs, hs, hk => hs x List.mem_cons_self _ (mapS_of f (fun y hy => hs y (List.mem_cons_of_mem _ hy)) hk)
theorem rngL_get {lo : Int} {n i : Nat} {x : Int} (h : (rngL lo n)[i]? = some x) : i < n ∧ x = lo + (i : Int) := by
  unfold rngL at h
  rw [List.getElem?_map] at h
  by_cases hi : i < n
  · rw [List.getElem?_range hi] at h
    exact ⟨hi, (Option.some.inj h).symm⟩
  · rw [List.getElem?_eq_none (by simpa using hi)] at h
    cases h
theorem rngL_len {lo : Int} {n : Nat} : (rngL lo n).length = n := by simp [rngL]
theorem atI_nat {xs : List α} {i : Nat} {x : α} (h : xs[i]? = some x) : atI xs (i : Int) = some x := by
  obtain ⟨hi, _⟩ := List.getElem?_eq_some_iff.mp h
  unfold atI ixN
  rw [if_pos (by omega), if_pos (by omega), Int.toNat_natCast]
  exact h
theorem ixN_nat {n i : Nat} (h : i < n) : ixN n (i : Int) = some i := by
  unfold ixN
  rw [if_pos (by omega), if_pos (by omega), Int.toNat_natCast]
theorem joinW_of {A : (S → Prop) → Prop} {K : S → Prop} (h : A K) : joinW A K := h
/-- wide conditions from bounds -/
theorem mulW_of {i j : Int} {a : Nat} (hi : i.natAbs < 2 ^ a) (hj : j.natAbs < 2 ^ a) (ha : 0 < a) (h : a ≤ 100000) : CMulW i j := wide_mul hi hj ha ha (by omega)
theorem mulS {i j : Int} (hi : i.natAbs < 2 ^ 64) (hj : j.natAbs < 2 ^ 64) : CMulW i j := mulW_of hi hj (by decide) (by decide)
theorem divS {i j : Int} (h0 : 0 < j) (hj : j.natAbs < 2 ^ 64) : CDivW i j := wide_div h0 hj (by decide) (by decide)
theorem cpow_of {i j : Int} (h : 0 ≤ j) (h1 : j ≤ 100) (h2 : i.natAbs < 2 ^ 1000) : CPowW i j := ⟨h, h1, h2⟩
end
end Sy
namespace Sy
theorem joinW_gen {S : Type} {A : (S → Prop) → Prop} {K : S → Prop} (P : S → Prop) (h1 : ∀ K : S → Prop, (∀ s, P s → K s) → A K) (h2 : ∀ s, P s → K s) : joinW A K := h1 K h2
end Sy

/-! SyG: a for within the body of a generator def. -/
namespace SyG
open PySem PySem.Spec GenW L2
open PyProof.Rows hiding St

section
variable {X : Cx} {target iter : Expr} {body : List Stmt} {pos : Pos} {wi : TI} {ga : TG} {tb : TGn}
/-- W: what stands ahead of each turn, by the turn, a measure and what has been handed out -/
def tGFor (wi : TI) (ga : TG) (tb : TGn) : TGn := fun D ys σ H => wi σ H fun J H1 =>
  ∃ W : Nat → Nat → List V → St → Hp → Prop, (∃ m, W 0 m ys σ H1) ∧ ∀ i m ys σ H, W i m ys σ H →
    (J.stop i H ∧ D.nx ys σ H) ∨
    (J.go i H ∧ ∃ N : List V → St → Hp → Prop, (∀ ys' σ' H', N ys' σ' H' → ∃ m', m' < m ∧ W (i + 1) m' ys' σ' H') ∧
      ∀ x H', J.yld i H x H' → ga x σ H' fun σ2 H2 => tb { D with nx := N, ct := N, bk := D.nx } ys σ2 H2)

theorem gs_for (own : PassesOwn (model X.prog X.w) X.A X.env X.xe) (cm : X.calm = true) (it0 : PI X target iter wi) (as0 : PG X target ga)
    (bo : GSs X body tb) (fo : ∀ x, foldedSetIterable iter X.env x = pure x := by intro _; rfl) :
    GS X (.For target iter body [] pos) (tGFor wi ga tb) := by
  refine ⟨fun A S ip R n ys s₀ c fs K J gd lv s σ H D gc hn k hI ht => ?_⟩
  obtain ⟨acc, cc, rv, I⟩ := hI
  rw [exec_For]
  refine seg_bind_wrap (wpAny_standAt ?_)
  refine seg_bind_wrap ?_
  rw [gc.over]
  refine wpAny_mono (it0.run _ s σ H _ I ht) (fun v s1 h1 => ?_) fun x s' hx => k.exc n s₀ x s' hx
  refine seg_bind_wrap (wpAny_of_eq (fo v) ?_)
  refine seg_bind_wrap (wpAny_standAt ?_)
  refine seg_bind_wrap (wpAny_holding ?_)
  rw [gc.over]
  refine wpAny_mono h1 (fun itv s2 h2 => ?_) fun x s' hx => k.exc n s₀ x s' hx
  obtain ⟨it, fp, tn, J', H2, e, I2, T, st2, f2, W, ⟨m0, w0⟩, turn⟩ := h2
  subst e
  have fpS : ∀ b ∈ fp, b ≠ S := fun b hb z => (f2 b hb).2.2.2.2.2 (S, lstObj acc cc) (List.mem_append_right _ List.mem_cons_self) z.symm
  have stat : ∀ {H' : Hp} {ac : Array Value} {ca : Nat}, (∀ b ∈ fp, H' b = none) → ∀ b ∈ fp, FpOk X ((S, lstObj ac ca) :: ip) H' b := fun {H' ac ca} hq b hb => by
    obtain ⟨_, q2, q3, q4, q5, q6⟩ := f2 b hb
    refine ⟨hq b hb, q2, q3, q4, q5, fun p hp => ?_⟩
    rcases List.mem_append.mp hp with z | z
    · exact q6 p (List.mem_append_left _ z)
    · rcases List.mem_cons.mp z with z | z
      · rw [z]; exact (fpS b hb).symm
      · exact q6 p (List.mem_append_right _ (List.mem_cons_of_mem _ z))
  have gl := fun (c' : Code) (h1 : c'.weight = 0) (h2 : c'.cUnits = 0) (kk : Result → Sem PySem.Fin) (p : Pos) => gc_loop (k := kk) (c' := c') (l := lv []) (kp := []) (p := p) gc h1 h2
  show Seg (model X.prog X.w) A R (GY X S) n s₀ c (((run (.forLoop target (.ref it) body [] X.env) none).onRaise (cameBack X.env)).wrap K J gd lv) fs s2
  refine seg_call fun p => ?_
  have loop : ∀ (m i n : Nat) (ys : List V) (s₀ s : Shared) (σ : St) (H : Hp), n + ys.length = sizeLine → W i m ys σ H → GI X S ip ys σ H s → tn i s.heap → (∀ b ∈ fp, H b = none) →
      Seg (model X.prog X.w) A R (GY X S) n s₀ (.forLoop target (.ref it) body [] X.env) ((model X.prog X.w).den (.forLoop target (.ref it) body [] X.env))
        (.ret (fun r => ((match r with | .ok f => (.pure f : Sem Flow) | .error e => .raise e).onRaise (cameBack X.env)).wrap K J gd lv) none (gd false) (lv []) c p [] :: fs) s := by
    intro m
    induction m using Nat.strongRecOn with
    | ind m ih =>
      intro i n ys s₀ s σ H hn w hI st fr
      have ee : ∀ (n : Nat) (s₀ : Shared) (x : Value) (s' : Shared), X.xe x s' → Seg (model X.prog X.w) A R (GY X S) n s₀ (.forLoop target (.ref it) body [] X.env)
          ((do noteFrame x X.env; theTreesLotGoes x : Sem Unit).wrap (fun _ => .raise x) .raise id id)
          (.ret (fun r => ((match r with | .ok f => (.pure f : Sem Flow) | .error e => .raise e).onRaise (cameBack X.env)).wrap K J gd lv) none (gd false) (lv []) c p [] :: fs) s' := fun n s₀ x s' hx => by
        refine seg_wrap ?_
        rw [(gl (.forLoop target (.ref it) body [] X.env) rfl rfl _ p).over]
        refine wpAny_bind (wpAny_mono (own x s' hx) (fun _ s'' hcb => wpAny_theTreesLotGoes ?_) fun y s'' hcb => ?_)
        · exact seg_leaf (.error x) (seg_cameBack gc k hcb)
        · exact seg_leaf (.error y) (seg_cameBack gc k hcb)
      have ee2 : ∀ (n : Nat) (s₀ : Shared) (x : Value) (s' : Shared), X.xe x s' → Seg (model X.prog X.w) A R (GY X S) n s₀ (.forLoop target (.ref it) body [] X.env)
          ((do noteFrame x X.env; theTreesLotGoes x : Sem Unit).bind (fun _ => .raise x))
          (.ret (fun r => ((match r with | .ok f => (.pure f : Sem Flow) | .error e => .raise e).onRaise (cameBack X.env)).wrap K J gd lv) none (gd false) (lv []) c p [] :: fs) s' := fun n s₀ x s' hx => by
        rw [Sem.bind_eq_wrap]; exact ee n s₀ x s' hx
      show Seg _ A R _ n s₀ _ ((forTurn target (.ref it) body [] X.env).onRaise (fun x => do noteFrame x X.env; theTreesLotGoes x)) _ s
      unfold forTurn
      rw [Sem.onRaise_eq_wrap]
      refine seg_bind_wrap (wpAny_standAt ?_)
      refine seg_bind_wrap (wpAny_onRaise ?_)
      rw [(gl (.forLoop target (.ref it) body [] X.env) rfl rfl _ p).over]
      obtain ⟨ac, ca, rv, I3⟩ := hI
      rcases turn i m ys σ H w with ⟨stop, qn⟩ | ⟨go, N, hN, step⟩
      · refine wpAny_mono (T.done X rfl rfl rfl cm i _ s σ H X.xe I3 (stat fr) st stop) (fun r s4 ⟨hr, I4⟩ => ?_) fun x s' hx => wpAny_standAt (ee2 n s₀ x s' hx)
        subst hr
        refine seg_again (c' := .block [] X.env) rfl ?_
        show Seg _ _ _ _ _ _ _ (((execs [] X.env).onRaise (fun x => do noteFrame x X.env; theTreesLotGoes x)) >>= fun f => (Pure.pure (.done f) : Sem PySem.Fin)) _ _
        exact seg_leaf (.ok .next) (k.ok n ys s₀ s4 .next hn ⟨σ, H, ⟨ac, ca, rv, I4⟩, qn⟩)
      · refine wpAny_mono (T.item X rfl rfl rfl cm i _ s σ H X.xe I3 (stat fr) st go) (fun r s4 ⟨u, hr, h4⟩ => ?_) fun x s' hx => wpAny_standAt (ee2 n s₀ x s' hx)
        subst hr
        refine seg_bind_wrap ?_
        rw [(gl (.forLoop target (.ref it) body [] X.env) rfl rfl _ p).over]
        refine wpAny_mono h4 (fun _ s5 ⟨x, H5, I5, r5, y5, st5, fr5⟩ => ?_) fun x s' hx => ee2 n s₀ x s' hx
        have I5' := I5.pinned (stat fr5) (T.obj _ _ st5)
        refine seg_bind_wrap ?_
        rw [(gl (.forLoop target (.ref it) body [] X.env) rfl rfl _ p).over]
        refine wpAny_mono (as0.run _ s5 σ H5 x u _ I5' r5 (step x H5 y5)) (fun _ s6 ⟨σ6, H6, I6, q6⟩ => ?_) fun x s' hx => ee2 n s₀ x s' hx
        rw [Sem.bind_eq_wrap', Sem.wrap_wrap]
        have gb : GC X S (ip ++ pinsAt fp s5.heap) A (.forLoop target (.ref it) body [] X.env) (.ret (fun r => ((match r with | .ok f => (.pure f : Sem Flow) | .error e => .raise e).onRaise (cameBack X.env)).wrap K J gd lv) none (gd false) (lv []) c p [] :: fs) id :=
          { gl (.forLoop target (.ref it) body [] X.env) rfl rfl _ p with
            ip := fun q hq => by
              rcases List.mem_append.mp hq with z | z
              · exact gc.ip q z
              · exact fpS q.1 (of_pinsAt z).1 }
        have dn : ∀ {σ7 : St} {H7 : Hp} {ys' : List V} {s7 : Shared}, GI X S (ip ++ pinsAt fp s5.heap) ys' σ7 H7 s7 → GI X S ip ys' σ7 H7 s7 ∧ tn (i + 1) s7.heap ∧ ∀ b ∈ fp, H7 b = none := fun {σ7 H7 ys' s7} hG => by
          obtain ⟨a7, c7, r7, I7⟩ := hG
          refine ⟨⟨a7, c7, r7, I7.pins_of fun q hq => I7.pin q ?_⟩, T.keep _ _ _ st5 fun b hb o e => (I7.pin (b, o) (List.mem_append_right _ (List.mem_cons_of_mem _ (List.mem_append_right _ (mem_pinsAt hb e))))).1, fun b hb => ?_⟩
          · rcases List.mem_cons.mp hq with z | z
            · rw [z]; exact List.mem_append_right _ List.mem_cons_self
            · exact List.mem_append_right _ (List.mem_cons_of_mem _ (List.mem_append_left _ z))
          · obtain ⟨o, e, d⟩ := T.obj _ _ st5 b hb
            exact (I7.pin (b, o) (List.mem_append_right _ (List.mem_cons_of_mem _ (List.mem_append_right _ (mem_pinsAt hb e))))).2.1
        refine bo.run A S (ip ++ pinsAt fp s5.heap) R n ys s₀ _ _ _ _ id id s6 σ6 H6 { D with nx := N, ct := N, bk := D.nx } gb hn ⟨fun n' ys' s₀' s3 f hn' hs => ?_, fun n' s₀' x s3 hx => ee2 n' s₀' x s3 hx⟩ ⟨ac, ca, rv, I6⟩ q6
        cases f with
        | next =>
          obtain ⟨σ3, H3, I3, n3⟩ := hs
          obtain ⟨m', hm, w3⟩ := hN ys' σ3 H3 n3
          obtain ⟨G3, t3, z3⟩ := dn I3
          exact seg_again rfl (ih m' hm (i + 1) n' ys' s₀' s3 σ3 H3 hn' w3 G3 t3 z3)
        | cont =>
          obtain ⟨σ3, H3, I3, n3⟩ := hs
          obtain ⟨m', hm, w3⟩ := hN ys' σ3 H3 n3
          obtain ⟨G3, t3, z3⟩ := dn I3
          exact seg_again rfl (ih m' hm (i + 1) n' ys' s₀' s3 σ3 H3 hn' w3 G3 t3 z3)
        | brk =>
          obtain ⟨σ3, H3, I3, n3⟩ := hs
          exact seg_leaf (.ok .next) (k.ok n' ys' s₀' s3 .next hn' ⟨σ3, H3, (dn I3).1, n3⟩)
        | ret v =>
          obtain ⟨v3, σ3, H3, I3, r3, n3⟩ := hs
          exact seg_leaf (.ok (.ret v)) (k.ok n' ys' s₀' s3 (.ret v) hn' ⟨v3, σ3, H3, (dn I3).1, r3, n3⟩)
  exact loop m0 0 n ys s₀ s2 σ H2 hn w0 ⟨acc, cc, rv, I2⟩ st2 fun b hb => (f2 b hb).1
end
end SyG

namespace Sy
open PySem Evl Trk GenW SyG
open L2 hiding Fun
open L2 (GSs GS GC GK GI GY GSP TGn GEnds gcxOf GScope GFn SpG gfn_of gss_cons gss_nil gs_yield pgen_meth pe_listG tListG)
section
variable {X : Cx} {Γ : Gm} {Ω : Om} {Q : Qe} {R : Rx} {e tg : Expr} {es : List Expr} {pos : Pos} {st : Stmt} {sts body : List Stmt}
/-- the largest promise of a generator's suite -/
def allG (X : Cx) (sts : List Stmt) : TGn := fun D ys σ H => ∀ (A : Around) (S : Addr) (ip : List (Addr × Obj)) (Re : PySem.GenEnd) (n : Nat) (s₀ : Shared) (c : Code) (fs : List Frame) (K : Flow → Sem PySem.Fin) (J : Value → Sem PySem.Fin)
    (gd : Bool → Bool) (lv : List Value → List Value) (s : Shared), GC X S ip A c fs gd → n + ys.length = sizeLine → GK X S ip A Re c fs K J D → GI X S ip ys σ H s →
    Seg (model X.prog X.w) A Re (GY X S) n s₀ c ((execs sts X.env).wrap K J gd lv) fs s
theorem gss_all : GSs X sts (allG X sts) := ⟨fun A S ip Re n ys s₀ c fs K J gd lv s σ H D g hn k hI ht => ht A S ip Re n s₀ c fs K J gd lv s g hn k hI⟩
theorem allG_of {t : TGn} {D : GEnds} {ys : List V} {σ : L2.St} {H : Hp} (h : GSs X sts t) (ht : t D ys σ H) : allG X sts D ys σ H := fun A S ip Re n s₀ c fs K J gd lv s g hn k hI => h.run A S ip Re n ys s₀ c fs K J gd lv s σ H D g hn k hI ht
theorem allG_cons {t : TGn} {D : GEnds} {ys : List V} {σ : L2.St} {H : Hp} (h : GS X st t) (ht : t { D with nx := fun ys' σ' H' => allG X sts D ys' σ' H' } ys σ H) : allG X (st :: sts) D ys σ H := allG_of (gss_cons h gss_all) ht
/-- how a generator's suite ends; acc: what has been handed out -/
inductive GO where
  | nx (acc : List D) (Γ : Gm) (Ω : Om)
  | rt (acc : List D) (d : D) (Ω : Om)
  | bk (acc : List D) (Γ : Gm) (Ω : Om)
  | ct (acc : List D) (Γ : Gm) (Ω : Om)
  | ex (cls : Value) (fs : List (Str × D)) (Γ : Gm) (Ω : Om)
structure TkG (X : Cx) (F H : Hp) (Ω : Om) (Φ : GO → Prop) (E : GEnds) : Prop where
  nx : ∀ acc Γ Ω' σ F' H' ys, Φ (.nx acc Γ Ω') → Go X.K F H Ω F' H' Ω' → DenL X.K F' acc ys → σ.length = X.N.length → Ctx X.K F' Γ σ → E.nx ys σ H'
  rt : ∀ acc d Ω' v F' H' ys, Φ (.rt acc d Ω') → Go X.K F H Ω F' H' Ω' → DenL X.K F' acc ys → Den X.K F' d v → E.rt ys v H'
  bk : ∀ acc Γ Ω' σ F' H' ys, Φ (.bk acc Γ Ω') → Go X.K F H Ω F' H' Ω' → DenL X.K F' acc ys → σ.length = X.N.length → Ctx X.K F' Γ σ → E.bk ys σ H'
  ct : ∀ acc Γ Ω' σ F' H' ys, Φ (.ct acc Γ Ω') → Go X.K F H Ω F' H' Ω' → DenL X.K F' acc ys → σ.length = X.N.length → Ctx X.K F' Γ σ → E.ct ys σ H'
  ex : ∀ cls fs Γ Ω' dd σ F' H', Φ (.ex cls fs Γ Ω') → Go X.K F H Ω F' H' Ω' → σ.length = X.N.length → Ctx X.K F' Γ σ → DenX X.K F' dd fs → W0 X cls dd σ H'
def GX (X : Cx) (sts : List Stmt) (acc : List D) (Γ : Gm) (Ω : Om) (Φ : GO → Prop) : Prop := ∀ σ F H ys, Sta X Γ Ω σ F H → DenL X.K F acc ys → ∀ E : GEnds, TkG X F H Ω Φ E → allG X sts E ys σ H
variable {Φ : GO → Prop} {acc : List D} {F H F' H' : Hp} {Ω' : Om} {σ : L2.St} {E : GEnds}
theorem TkG.go (t : TkG X F H Ω Φ E) (g : Go X.K F H Ω F' H' Ω') : TkG X F' H' Ω' Φ E :=
  ⟨fun a Γ Ω2 σ F2 H2 ys h g2 => t.nx a Γ Ω2 σ F2 H2 ys h (g.trans g2), fun a d Ω2 v F2 H2 ys h g2 => t.rt a d Ω2 v F2 H2 ys h (g.trans g2), fun a Γ Ω2 σ F2 H2 ys h g2 => t.bk a Γ Ω2 σ F2 H2 ys h (g.trans g2),
   fun a Γ Ω2 σ F2 H2 ys h g2 => t.ct a Γ Ω2 σ F2 H2 ys h (g.trans g2), fun c fs Γ Ω2 dd σ F2 H2 h g2 => t.ex c fs Γ Ω2 dd σ F2 H2 h (g.trans g2)⟩
theorem TkG.tkx (t : TkG X F H Ω Φ E) (s : Sta X Γ Ω σ F H) : TkX X σ F H Ω (fun c fs Ω' => Φ (.ex c fs Γ Ω')) := fun c fs Ω2 dd F2 H2 h g d => t.ex c fs Γ Ω2 dd σ F2 H2 h g s.len (s.cx.mono g.fr) d
theorem gx_nil (h : Φ (.nx acc Γ Ω)) : GX X [] acc Γ Ω Φ := fun σ F H ys s n E t => allG_of gss_nil (t.nx acc Γ Ω σ F H ys h s.go0 n s.len s.cx)
theorem GX.imp {Ψ : GO → Prop} (h : GX X sts acc Γ Ω Ψ) (i : ∀ o, Ψ o → Φ o) : GX X sts acc Γ Ω Φ := fun σ F H ys s n E t => h σ F H ys s n E
  ⟨fun a Γ Ω2 σ F2 H2 ys z => t.nx a Γ Ω2 σ F2 H2 ys (i _ z), fun a d Ω2 v F2 H2 ys z => t.rt a d Ω2 v F2 H2 ys (i _ z), fun a Γ Ω2 σ F2 H2 ys z => t.bk a Γ Ω2 σ F2 H2 ys (i _ z), fun a Γ Ω2 σ F2 H2 ys z => t.ct a Γ Ω2 σ F2 H2 ys (i _ z), fun c fs Γ Ω2 dd σ F2 H2 z => t.ex c fs Γ Ω2 dd σ F2 H2 (i _ z)⟩
/-- behind a statement that hands nothing out -/
def GPh (X : Cx) (sts : List Stmt) (acc : List D) (Φ : GO → Prop) : OS → Prop
  | .nx Γ Ω => GX X sts acc Γ Ω Φ
  | .rt d Ω => Φ (.rt acc d Ω)
  | .bk Γ Ω => Φ (.bk acc Γ Ω)
  | .ct Γ Ω => Φ (.ct acc Γ Ω)
  | .ex c fs Γ Ω => Φ (.ex c fs Γ Ω)
theorem gx_st (h : SS X [st] Γ Ω (GPh X sts acc Φ)) : GX X (st :: sts) acc Γ Ω Φ := fun σ F H ys s n E t => by
  intro A S ip Re m s₀ c fs K J gd lv s1 gc hn k hI
  refine seg_execs_cons ?_
  have same : ∀ G : Flow → Sem PySem.Fin, (exec st X.env).wrap G J gd lv = (execs [st] X.env).wrap G J gd lv := fun G => by
    rw [execs_cons_wrap]
    exact Sem.wrap_congr _ _ _ (fun f => by cases f <;> rfl) (fun _ => rfl)
  rw [same]
  refine seg_wrap ?_
  rw [gc.over]
  obtain ⟨ac, cc, rv, I⟩ := hI
  have run := h σ F H s { nx := fun σ' H' => allG X sts E ys σ' H', rt := E.rt ys, bk := E.bk ys, ct := E.ct ys }
    ⟨fun Γ' Ω' σ' F' H' z g l cx => z σ' F' H' ys ⟨l, cx, g.ex, g.ow⟩ (n.mono g.fr) E (t.go g), fun d Ω' v F' H' z g nv => t.rt acc d Ω' v F' H' ys z g (n.mono g.fr) nv, fun Γ' Ω' σ' F' H' z g l cx => t.bk acc Γ' Ω' σ' F' H' ys z g (n.mono g.fr) l cx,
     fun Γ' Ω' σ' F' H' z g l cx => t.ct acc Γ' Ω' σ' F' H' ys z g (n.mono g.fr) l cx, fun c fs Γ' Ω' dd σ' F' H' z g l cx dx => t.ex c fs Γ' Ω' dd σ' F' H' z g l cx dx⟩ _ s1 I
  refine wpAny_mono run (fun f s2 hs => ?_) fun x s2 hx => k.exc m s₀ x s2 hx
  cases f with
  | next =>
    obtain ⟨σ2, H2, I2, q⟩ := hs
    exact q A S ip Re m s₀ c fs K J gd lv s2 gc hn k ⟨ac, cc, rv, I2⟩
  | brk => obtain ⟨σ2, H2, I2, q⟩ := hs; exact k.ok m ys s₀ s2 .brk hn ⟨σ2, H2, ⟨ac, cc, rv, I2⟩, q⟩
  | cont => obtain ⟨σ2, H2, I2, q⟩ := hs; exact k.ok m ys s₀ s2 .cont hn ⟨σ2, H2, ⟨ac, cc, rv, I2⟩, q⟩
  | ret u => obtain ⟨v, σ2, H2, I2, r2, q⟩ := hs; exact k.ok m ys s₀ s2 (.ret u) hn ⟨v, σ2, H2, ⟨ac, cc, rv, I2⟩, r2, q⟩
/-- yield e -/
theorem gx_yield {α : Type} {yp : Pos} (f : α → D) (xs : List α) (hl : xs.length < 999999) (h : EX X e Γ Ω (fun d Ω1 => ∃ x : α, d = f x ∧ GX X sts ((xs ++ [x]).map f) Γ Ω1 Φ) (fun c fs Ω' => Φ (.ex c fs Γ Ω')))
    (hco : X.env.scope.isCoroutine = false := by rfl) (hi : interactive X.env = false := by rfl) : GX X (.Expr (.Yield (some e) yp) pos :: sts) (xs.map f) Γ Ω Φ := fun σ F H ys s n E t => by
  refine allG_cons (gs_yield pe_all hco hi) ⟨?_, h σ F H s _ (fun d Ω1 v F1 H1 ⟨x, e2, z⟩ g nv => ?_) (t.tkx s)⟩
  · rw [← n.len, List.length_map, sizeLine_eq]; omega
  · subst e2
    refine z σ F1 H1 (ys ++ [v]) (s.go g) ?_ E (t.go g)
    rw [List.map_append]
    exact denL_snoc nv (n.mono g.fr)
/-- the ends of a turn of a loop -/
def GLp (X : Cx) (sts : List Stmt) (Φ : GO → Prop) (J : List D → Gm → Om → Prop) : GO → Prop
  | .nx acc Γ Ω => J acc Γ Ω
  | .ct acc Γ Ω => J acc Γ Ω
  | .bk acc Γ Ω => GX X sts acc Γ Ω Φ
  | .rt acc d Ω => Φ (.rt acc d Ω)
  | .ex c fs Γ Ω => Φ (.ex c fs Γ Ω)
theorem gx_for {g : TG} (hc : X.calm = true) (hpg : PG X tg g) (h : IX X tg e Γ Ω (fun items S Ω1 => ∃ J : Nat → List D → Gm → Om → Prop, J 0 acc Γ Ω1 ∧ (∀ j a Γ' Ω', j ≤ items.length → J j a Γ' Ω' → S Ω') ∧
      (∀ j d a Γ' Ω', items[j]? = some d → J j a Γ' Ω' → ∃ is put, Tgt X.K g is d put ∧ (∀ i ∈ is, i < X.N.length) ∧ GX X body a (put Γ') Ω' (GLp X sts Φ (J (j + 1)))) ∧ ∀ a Γ' Ω', J items.length a Γ' Ω' → GX X sts a Γ' Ω' Φ) (fun c fs Ω' => Φ (.ex c fs Γ Ω')))
    (hp : PassesOwn (model X.prog X.w) X.A X.env X.xe := by first | exact PassesOwn.never | exact L2.owns_gcx | assumption) (hfs : ∀ x, foldedSetIterable e X.env x = pure x := by intro _; rfl) : GX X (.For tg e body [] pos :: sts) acc Γ Ω Φ := fun σ F H ys s n E t => by
  obtain ⟨wi, pi, hw⟩ := h
  refine allG_cons (gs_for hp hc pi hpg gss_all hfs) (hw σ F H s _ (fun items S Ω1 J m G Y F1 H1 ⟨Jv, z0, zS, zb, ze⟩ g1 hn wk hG hY => ?_) (t.tkx s))
  subst hn
  refine ⟨fun j m ys' σ' H' => m = items.length - j ∧ j ≤ items.length ∧ ∃ a Γ' Ω' F', Jv j a Γ' Ω' ∧ Go X.K F1 H1 Ω1 F' H' Ω' ∧ DenL X.K F' a ys' ∧ σ'.length = X.N.length ∧ Ctx X.K F' Γ' σ',
    ⟨items.length, rfl, Nat.zero_le _, acc, Γ, Ω1, F1, z0, Go.refl g1.ex g1.ow, n.mono g1.fr, s.len, s.cx.mono g1.fr⟩, ?_⟩
  rintro j m ys' σ' H' ⟨rfl, hj, a, Γ', Ω', F', q1, q2, q3, q4, q5⟩
  have t' := t.go (g1.trans q2)
  have hS := hG F' H' Ω' q2 (zS j a Γ' Ω' hj q1)
  by_cases hlt : j < items.length
  · refine .inr ⟨wk.goes j H' hlt hS, fun ys3 σ3 H3 => ∃ a3 Γ3 Ω3 F3, Jv (j + 1) a3 Γ3 Ω3 ∧ Go X.K F1 H1 Ω1 F3 H3 Ω3 ∧ DenL X.K F3 a3 ys3 ∧ σ3.length = X.N.length ∧ Ctx X.K F3 Γ3 σ3,
      fun ys3 σ3 H3 ⟨a3, Γ3, Ω3, F3, p1, p2, p3, p4, p5⟩ => ⟨items.length - (j + 1), by omega, rfl, hlt, a3, Γ3, Ω3, F3, p1, p2, p3, p4, p5⟩, fun x H3 hy => ?_⟩
    obtain ⟨F3, g3, dx⟩ := hY j F' H' Ω' x H3 items[j] q2 (zS j a Γ' Ω' hj q1) (wk.yields j H' x H3 hlt hS hy) (List.getElem?_eq_getElem hlt)
    obtain ⟨is, put, T, hi, bd⟩ := zb j items[j] a Γ' Ω' (List.getElem?_eq_getElem hlt) q1
    have gg := q2.trans g3
    refine T.go σ' F3 H3 x (fun i z => by rw [q4]; exact hi i z) g3.ex dx _ fun σ4 l4 w4 c4 => ?_
    have t3 := t'.go g3
    exact bd σ4 F3 H3 ys' ⟨l4.trans q4, c4 _ (q5.mono g3.fr), g3.ex, g3.ow⟩ (q3.mono g3.fr) _
      ⟨fun a4 Γ4 Ω4 σ5 F4 H4 ys4 z g4 n4 l5 c5 => ⟨a4, Γ4, Ω4, F4, z, gg.trans g4, n4, l5, c5⟩, fun a4 d Ω4 v F4 H4 ys4 z g4 n4 nv => t3.rt a4 d Ω4 v F4 H4 ys4 z g4 n4 nv,
       fun a4 Γ4 Ω4 σ5 F4 H4 ys4 z g4 n4 l5 c5 => z σ5 F4 H4 ys4 ⟨l5, c5, g4.ex, g4.ow⟩ n4 E (t3.go g4), fun a4 Γ4 Ω4 σ5 F4 H4 ys4 z g4 n4 l5 c5 => ⟨a4, Γ4, Ω4, F4, z, gg.trans g4, n4, l5, c5⟩,
       fun c fs Γ4 Ω4 dd σ5 F4 H4 z g4 l5 c5 x5 => t3.ex c fs Γ4 Ω4 dd σ5 F4 H4 z g4 l5 c5 x5⟩
  · have e1 : j = items.length := by omega
    subst e1
    exact .inl ⟨wk.stops H' hS, ze a Γ' Ω' q1 σ' F' H' ys' ⟨q4, q5, q2.ex, q2.ow⟩ q3 E t'⟩
theorem gx_forW {α S : Type} {g : TG} (f : α → D) (hc : X.calm = true) (hpg : PG X tg g) (inv : S → List D → Gm → Om → Prop)
    (h : IW X tg e Γ Ω f (fun xs St Ω1 => ∃ (bw : α → S → (S → Prop) → Prop) (Kf : S → Prop) (s0 : S), forW bw Kf xs s0 ∧ inv s0 acc Γ Ω1 ∧ (∀ s a Γ' Ω', inv s a Γ' Ω' → St Ω') ∧
      (∀ x s a Γ' Ω' nx, inv s a Γ' Ω' → bw x s nx → ∃ is put, Tgt X.K g is (f x) put ∧ (∀ i ∈ is, i < X.N.length) ∧ GX X body a (put Γ') Ω' (GLp X sts Φ fun a2 Γ2 Ω2 => ∃ s', nx s' ∧ inv s' a2 Γ2 Ω2)) ∧ ∀ s a Γ' Ω', inv s a Γ' Ω' → Kf s → GX X sts a Γ' Ω' Φ) (fun c fs Ω' => Φ (.ex c fs Γ Ω')))
    (hp : PassesOwn (model X.prog X.w) X.A X.env X.xe := by first | exact PassesOwn.never | exact L2.owns_gcx | assumption) (hfs : ∀ x, foldedSetIterable e X.env x = pure x := by intro _; rfl) : GX X (.For tg e body [] pos :: sts) acc Γ Ω Φ := by
  obtain ⟨wi, pi, hw⟩ := h
  refine gx_for hc hpg ⟨wi, pi, fun σ F H s r t x => hw σ F H s r (fun items St Ω1 J n G Y F1 H1 ⟨xs, e1, bw, Kf, s0, hW, i0, iS, ib, ie⟩ g1 hn wk hG hY => t items St Ω1 J n G Y F1 H1 ?_ g1 hn wk hG hY) x⟩ hp hfs
  subst e1
  refine ⟨fun j a Γ' Ω' => ∃ s, inv s a Γ' Ω' ∧ forW bw Kf (xs.drop j) s, ⟨s0, i0, hW⟩, fun j a Γ' Ω' _ ⟨s, i1, _⟩ => iS s a Γ' Ω' i1, fun j d a Γ' Ω' hd ⟨s, i1, w⟩ => ?_, fun a Γ' Ω' ⟨s, i1, w⟩ => ?_⟩
  · obtain ⟨x, rfl, e2⟩ := drop_get hd
    rw [e2] at w
    obtain ⟨is, put, T, hi, bd⟩ := ib x s a Γ' Ω' _ i1 w
    refine ⟨is, put, T, hi, bd.imp fun o ho => ?_⟩
    cases o with
    | nx a2 Γ2 Ω2 => obtain ⟨s', w', i'⟩ := ho; exact ⟨s', i', w'⟩
    | ct a2 Γ2 Ω2 => obtain ⟨s', w', i'⟩ := ho; exact ⟨s', i', w'⟩
    | bk a2 Γ2 Ω2 => exact ho
    | rt a2 d Ω2 => exact ho
    | ex c fs Γ2 Ω2 => exact ho
  · rw [List.length_map, List.drop_length] at w
    exact ie s a Γ' Ω' i1 w
end
/-! ### a generator def, and list(o.m(..)) of one -/
abbrev Wg := List D → Om → (List D → Om → Prop) → Rx → Prop
def spG (K : PySem.W.Frag) (n : Nat) (W : Wg) : SpG := fun vs H Q E => ∃ F Ω ds Qd Rd, Ex F H ∧ Own K F H Ω ∧ ds.length = n ∧ DenL K F ds vs ∧ W ds Ω Qd Rd ∧
  (∀ acc Ω' ys F' H', Qd acc Ω' → Go K F H Ω F' H' Ω' → DenL K F' acc ys → Q ys H') ∧ ∀ cls fs Ω' dd F' H', Rd cls fs Ω' → Go K F H Ω F' H' Ω' → DenX K F' dd fs → E cls dd H'
theorem spG_len {K : PySem.W.Frag} {n : Nat} {W : Wg} {vs : List V} {H : Hp} {Q : List V → Hp → Prop} {E : XK} (h : spG K n W vs H Q E) : vs.length = n := by
  obtain ⟨F, Ω, ds, Qd, Rd, _, _, h1, h2, _⟩ := h
  rw [← h2.len, h1]
def PhiG (Qd : List D → Om → Prop) (Rd : Rx) : GO → Prop
  | .nx acc _ Ω => ∃ Ωa Ωr, Pick Ω Ωa Ωr ∧ Qd acc (Ωa ++ Ωr)
  | .rt acc d Ω => d = .v .non ∧ ∃ Ωa Ωr, Pick Ω Ωa Ωr ∧ Qd acc (Ωa ++ Ωr)
  | .ex c fs _ Ω => ∃ Ωa Ωr, Pick Ω Ωa Ωr ∧ Rd c fs (Ωa ++ Ωr)
  | _ => False
theorem pg_nx {Qd : List D → Om → Prop} {Rd : Rx} {acc : List D} {Γ : Gm} {Ω : Om} (Ωa Ωr : Om) (p : Pick Ω Ωa Ωr) (h : Qd acc (Ωa ++ Ωr)) : PhiG Qd Rd (.nx acc Γ Ω) := ⟨Ωa, Ωr, p, h⟩
section
variable {P : Program} {w : World} {K : PySem.W.Frag} {mg : Str → Option Value} {base : Heap} {x qual : Str} {f : Addr} {fd : FuncData} {N ps : List Str} {k : Nat} {W : Wg}
theorem fn_G {st : Stmt} (F : L2.Fun K x qual st f fd) (S : GScope N ps (defScope st)) (hN : ps.length ≤ N.length)
    (h : ∀ (cdv : Value) (A : Around) (outer : List Env) (s : Shared) (H : Hp) (E : XK) (pn : List (Addr × Obj)) (ds : List D) (Ω : Om) (Qd : List D → Om → Prop) (Rd : Rx), Room k (A.deeper (PyProof.Rows.envOfC qual (defScope st) s.heap.objs.size f cdv)) → W ds Ω Qd Rd →
      GX (gcxOf P w K mg base N qual (defScope st) f cdv A outer s H E pn) (defBody st) [] (ds.map some ++ List.replicate (N.length - ds.length) none) Ω (PhiG Qd Rd)) :
    GFn P w K mg base (k + 1) f fd ps (spG K ps.length W) := by
  obtain ⟨oc, od, kV, doc, pm, an, cdv, ct, osl, e, lk, hcd⟩ := F.ex
  subst e
  refine gfn_of lk hcd S (fun vs H Q E h => spG_len h) fun A outer s H vs Q E pn hr hsp => ?_
  obtain ⟨F0, Ω, ds, Qd, Rd, ex, ow, hl, dn, hW, hq, hx⟩ := hsp
  have hv : vs.length = ps.length := by rw [← dn.len, hl]
  refine ⟨_, gss_all, h cdv A outer s H E pn ds Ω Qd Rd hr hW (L2.start N vs) F0 H [] ⟨start_len hv hN, start_ctx dn, ex, ow⟩ DenL.nil _ ⟨fun acc Γ Ω' σ F' H' ys ⟨_, _, p, z⟩ g n _ _ => hq _ _ _ _ _ z (g.trans (Go.pick p g.ex g.ow)) n,
    fun acc d Ω' v F' H' ys ⟨e1, _, _, p, z⟩ g n nv => ?_, fun _ _ _ _ _ _ _ z => z.elim, fun _ _ _ _ _ _ _ z => z.elim, fun c fs Γ Ω' dd σ F' H' ⟨_, _, p, z⟩ g _ _ n => ?_⟩⟩
  · subst e1
    exact ⟨den_v.mp nv, hq _ _ _ _ _ z (g.trans (Go.pick p g.ex g.ow)) n⟩
  · exact w0_of (W := fun cls d _ H => E cls d H) L2.takes_gcx (hx c fs _ dd F' H' z (g.trans (Go.pick p g.ex g.ow)) n)
end
section
variable {X : Cx} {Γ : Gm} {Ω : Om} {Q : Qe} {R : Rx} {e : Expr} {es : List Expr} {pos : Pos} {k m : Nat} {f C : Addr} {fd : FuncData} {ps : List Str} {W : Wg}
/-- list(o.m(..)), m a generator method that raises nothing here -/
theorem ex_listGM {o : Expr} {mn : Str} {apos p pos' : Pos} {pl : Sem Bool} (c : Cls X.K C) (hm : Meth X.K C mn f) (Fn : GFn X.prog X.w X.K X.mg X.base k f fd ps (spG X.K m W)) (hr : Room (k + 3) X.A) (hb : Binds X.K fd ps []) (hmg : X.mg "list" = none)
    (h : EX X o Γ Ω (fun d1 Ω0 => ∃ fs, ObjAt Ω0 d1 C fs ∧ fs.lookup mn = none ∧ AX X (e :: es) Γ Ω0 (fun ds Ω1 => ∃ Ωa Ωr, Ω1 = Ωa ++ Ωr ∧ (d1 :: ds).length = m ∧ W (d1 :: ds) Ωa (fun acc Ω' => ∀ a : Addr, Q (.v (.ref a)) ((a, .lst acc) :: (Ω' ++ Ωr))) (fun _ _ _ => False)) R) R)
    (hg : Gl X "list" := by rfl) (hst : starEach (e :: es) X.env = (false, eval e X.env) :: starEach es X.env := by rfl) (hpl : (backTo pos' (starEach es X.env)).any (·.1) = false := by rfl)
    (ht : eval (.Call (.Attribute o mn apos) (e :: es) [] pos') X.env = (do
      let ov ← eval o X.env
      standAt apos.atName
      let (f, first) ← holding [ov] (getMethod ov mn pl)
      callWith pos' f first (backTo pos' (starEach (e :: es) X.env)) (backToKw pos' (keywordEach [] X.env))) := by rfl)
    (he : starEach [.Call (.Attribute o mn apos) (e :: es) [] pos'] X.env = (false, eval (.Call (.Attribute o mn apos) (e :: es) [] pos') X.env) :: starEach [] X.env := by rfl) :
    EX X (.Call (.Name "list" p) [.Call (.Attribute o mn apos) (e :: es) [] pos'] [] pos) Γ Ω Q R := fun σ F H s q t x => by
  refine allE_of (pe_listG (pgen_meth (E := fun _ _ _ => False) (dvs := []) (ds := []) pe_all c hm Fn (hr.mono (by omega)) hb .nil pa_all hst hpl ht) passF (fun _ _ _ z => z.elim) hr hg hmg (by decide +kernel) (by decide) (by decide) he) ?_
  refine h σ F H s _ (fun d1 Ω0 v F1 H1 ⟨fs, o1, o2, ha⟩ g n => ?_) x
  obtain ⟨ad, dx, gs, rfl, hA, hF⟩ := o1.get g.ex g.ow n
  refine ⟨ad, dx, gs, rfl, hA, denF_none hF o2, ha σ F1 H1 (s.go g) _ (fun ds Ω1 vs F2 H2 ⟨Ωa, Ωr, e1, hl, w⟩ g2 n2 => ?_) (x.go g)⟩
  subst e1
  refine ⟨F2, Ωa, d1 :: ds, _, _, g2.ex, g2.ow.drop.1, hl, DenL.cons (n.mono g2.fr) (by rw [List.append_nil]; exact n2), w, fun acc Ω' ys F' H' z g3 n3 a ha => ?_, fun _ _ _ _ _ _ z => z.elim⟩
  have g4 := (g.trans g2).trans (Go.frame g2.ow g3)
  exact t _ _ _ _ _ (z a) (g4.trans (Go.alloc (c := .lst acc) (o := .lst ys) g4.ex g4.ow ha ⟨ys, upd_same, n3⟩)) (den_v.mpr rfl)
end
theorem kit_LL {K : PySem.W.Frag} : PySem.W.kitOne K (.type "list") (.type "list") = some true := kit_ty (by decide +kernel)
theorem kit_LT {K : PySem.W.Frag} : PySem.W.kitOne K (.type "list") (.type "tuple") = some false := kit_ty (by decide +kernel)
theorem kit_TL {K : PySem.W.Frag} : PySem.W.kitOne K (.type "tuple") (.type "list") = some false := kit_ty (by decide +kernel)
theorem kit_TT {K : PySem.W.Frag} : PySem.W.kitOne K (.type "tuple") (.type "tuple") = some true := kit_ty (by decide +kernel)
theorem tyx_L {K : PySem.W.Frag} {Ω : Om} {d : D} {ds : List D} (e : d = .lst ds) (F H : Hp) (v : V) (ex : Ex F H) (_ : Own K F H Ω) (n : Den K F d v) : TyX K H v (.type "list") := by
  subst e
  exact ty_lst H v (n.mono ex)
theorem tyx_T {K : PySem.W.Frag} {Ω : Om} {d : D} {ds : List D} (e : d = .tup ds) (F H : Hp) (v : V) (ex : Ex F H) (_ : Own K F H Ω) (n : Den K F d v) : TyX K H v (.type "tuple") := by
  subst e
  exact ty_tup H v (n.mono ex)
theorem tyx_O {K : PySem.W.Frag} {p : Addr} {ds : List D} {k : Nat} {Ω : Om} (hk : Ω[k]? = some (p, Cell.lst ds)) (F H : Hp) (v : V) (ex : Ex F H) (ow : Own K F H Ω) (n : Den K F (.v (.ref p)) v) : TyX K H v (.type "list") := by
  obtain ⟨h1, ys, h2, h3⟩ := ow.get hk
  obtain rfl : v = .ref p := den_v.mp n
  exact .base (.lst h2)
end Sy

/-! try: .. except X as n: .. -/
namespace Sy
open PySem L2 Evl Trk
section
variable {X : Cx} {Γ : Gm} {Ω : Om} {sts body : List Stmt} {Φ Ψ : OS → Prop} {pos : Pos}
def GoneS (i : Nat) (Φ : OS → Prop) : OS → Prop
  | .nx Γ Ω => Φ (.nx (Γ.set i none) Ω)
  | .bk Γ Ω => Φ (.bk (Γ.set i none) Ω)
  | .ct Γ Ω => Φ (.ct (Γ.set i none) Ω)
  | .rt d Ω => Φ (.rt d Ω)
  | .ex _ _ _ _ => False
theorem ss_tryAs (i : Nat) {x n : Str} {C : Addr} {b₀ : Stmt} {suite : List Stmt} {np pos' : Pos} (hs : X.stack = X.env :: X.outer) (hf : X.env.frame = some X.env.locals) (hd : X.N.Nodup) (hc : Names X x (.ref C))
    (hb : ∀ pn xe, PassesOwn (model X.prog X.w) X.A X.env xe → SS (X.tr pn xe) body Γ Ω Ψ)
    (ho : ∀ o, (∀ c fs Γ' Ω', o ≠ .ex c fs Γ' Ω') → Ψ o → Seq X sts Φ o)
    (hx : ∀ c fs Γ' Ω', Ψ (.ex c fs Γ' Ω') → ∃ k, PySem.W.exmOne X.K c (.ref C) = some k ∧ (k = true → ∀ a oe d pn, Zc c d oe → (∃ vs, oe.data = .fields vs) → SS (X.suite a ((a, oe) :: pn)) (b₀ :: suite) (Γ'.set i (some (.ced a d fs))) Ω' (GoneS i (Seq X sts Φ))) ∧ (k = false → Seq X sts Φ (.ex c fs Γ' Ω')))
    (hN : X.N[i]? = some n := by rfl) (hln : X.env.kindOf n = some .local := by rfl) :
    SS X (.Try body [.ExceptHandler (some (.Name x np)) (some n) (b₀ :: suite) pos'] [] [] pos :: sts) Γ Ω Φ := fun σ F H s E0 t0 => by
  refine all_cons (ps_try_as (i := i) hs hf hd hN hln hc (tk0 (X := X)) (tb := bodyT X body) (ts := suiteT X (b₀ :: suite)) (fun W pn xe tk hp => ⟨fun pins s σ H E I h => h pn xe tk hp pins s I⟩)
    (fun a oe cls d pn hz hfl => ⟨fun pins s σ H E I h => h oe pn hz hfl pins s I⟩)) ?_
  have T := t0.seq (sts := sts)
  intro pn xe tk hp
  refine hb pn xe hp σ F H ⟨s.len, s.cx, s.ex, s.ow⟩ _ ?_
  refine ⟨fun Γ' Ω' σ' F' H' z g l1 c1 => T.nx Γ' Ω' σ' F' H' (ho _ (fun _ _ _ _ w => by cases w) z) g l1 c1, fun d Ω' v F' H' z g hv => T.rt d Ω' v F' H' (ho _ (fun _ _ _ _ w => by cases w) z) g hv,
    fun Γ' Ω' σ' F' H' z g l1 c1 => T.bk Γ' Ω' σ' F' H' (ho _ (fun _ _ _ _ w => by cases w) z) g l1 c1, fun Γ' Ω' σ' F' H' z g l1 c1 => T.ct Γ' Ω' σ' F' H' (ho _ (fun _ _ _ _ w => by cases w) z) g l1 c1, fun c fs Γ' Ω' d σ' F' H' z g l1 c1 x1 => ?_⟩
  refine w0_of tk ?_
  obtain ⟨k, h1, h2, h3⟩ := hx c fs Γ' Ω' z
  refine ⟨k, h1, fun hk a na => ?_, fun hk => T.ex c fs Γ' Ω' d σ' F' H' (h3 hk) g l1 c1 x1⟩
  intro oe pn2 hz hfl
  have hi : i < σ'.length := by
    rw [l1]
    exact (List.getElem?_eq_some_iff.mp hN).1
  refine h2 hk a oe d pn2 hz hfl (σ'.set i (some (.ref a))) F' H' ⟨by rw [List.length_set]; exact l1, c1.set hi (by
    simp only [Den]
    exact ⟨True.intro, x1⟩), g.ex, g.ow⟩ _ ?_
  have T' := T.go g
  exact ⟨fun Γ2 Ω2 σ2 F2 H2 z2 g2 l2 c2 => T'.nx _ _ _ F2 H2 z2 g2 (by rw [List.length_set]; exact l2) c2.unset, fun d2 Ω2 v F2 H2 z2 => T'.rt d2 Ω2 v F2 H2 z2, fun Γ2 Ω2 σ2 F2 H2 z2 g2 l2 c2 => T'.bk _ _ _ F2 H2 z2 g2 (by rw [List.length_set]; exact l2) c2.unset,
    fun Γ2 Ω2 σ2 F2 H2 z2 g2 l2 c2 => T'.ct _ _ _ F2 H2 z2 g2 (by rw [List.length_set]; exact l2) c2.unset, fun c2 fs2 Γ2 Ω2 d2 σ2 F2 H2 z2 => z2.elim⟩
end
end Sy

/-! SyH: enumerate(xs, start=k). -/
namespace SyG
open PySem PySem.Spec L2
open PyProof.Rows hiding St
/-- the list at a, each item in a new pair with its number from k0 on -/
def ItS (K : PySem.W.Frag) (k0 : Int) (a : Addr) : It where
  go := fun i H => ∃ (xs : List V) (x : V), SqL K H a xs ∧ xs[i]? = some x
  yld := fun i H v H' => ∃ T x, v = .ref T ∧ H T = none ∧ H' = upd H T (.tup [.int (k0 + ((i : Nat) : Int)), x]) ∧ ∀ xs, SqL K H a xs → xs[i]? = some x
  stop := fun i H => ∃ xs : List V, SqL K H a xs ∧ xs.length = i
theorem turn_enS {P : Program} {w : World} {K : PySem.W.Frag} {elts : List Expr} {kk : Nat} {tpos : Pos} (k0 : Int) (a e it : Addr) :
    Turn P w K (.Tuple elts kk tpos) (ItS K k0 a) [e, it] e (fun i h => (∃ old, IsEnum h e it (k0 + ((i : Nat) : Int)) old) ∧ h.IsListIter it a i ∧ e ≠ it) where
  mem := by simp
  obj := fun i h ⟨⟨old, he⟩, ⟨o, ho, hc, hd⟩, _⟩ b hb => by
    rcases (show b = e ∨ b = it by simpa using hb) with z | z
    · rw [z]; exact ⟨_, he, fun v q => nomatch q⟩
    · rw [z]; exact ⟨o, ho, fun v q => by rw [hd] at q; cases q⟩
  keep := fun i h h' ⟨⟨old, he⟩, hi, hne⟩ k => ⟨⟨old, k e (by simp) _ he⟩, hi.at fun o q => k it (by simp) o q, hne⟩
  item := by
    intro X hP hw hK hc i pins s σ H Ex I hf st hg
    subst hP hw hK
    obtain ⟨⟨old, he⟩, hit, hne⟩ := st
    obtain ⟨xs, x, hq, hx⟩ := hg
    obtain ⟨its, rv, p, hz⟩ := I.list hq
    obtain ⟨u, hu, ru⟩ := rv.get hx
    have hel : e < s.heap.objs.size := Heap.lt_size he
    have hil : it < s.heap.objs.size := by obtain ⟨_, q, _⟩ := hit; exact Heap.lt_size q
    obtain ⟨obj, ea, _⟩ := p.isList
    have nea : e ≠ a := fun z => by
      have e1 : s.heap.get? e = _ := he
      rw [z, ea] at e1
      cases e1
      obtain ⟨q, q1, q2, q3⟩ := p.isList
      rw [ea] at q1
      cases q1
      exact absurd (Value.type.inj q2) (by decide)
    have nia : a ≠ it := fun z => by
      obtain ⟨o, ho, hc1, _⟩ := hit
      rw [← z] at ho
      obtain ⟨q, q1, q2, q3⟩ := p.isList
      rw [ho] at q1
      cases q1
      rw [hc1] at q2
      exact absurd (Value.type.inj q2) (by decide)
    refine wpAny_pyNext_enum_itemC (c := k0 + (i : Int)) (i := i) (Draws.list (A := X.A.in1) (I.ok.hd hc) it a nia its.toArray) he ⟨hit, p.isList⟩ (by
      have := (List.getElem?_eq_some_iff.mp hu).1
      simpa using this) hne (by simp [nea, hne]) fun y h' tk hy ho st' hT hsz hk => ?_
    have ey : y = u := by
      have : its[i]? = some y := by simpa using hy
      rw [hu] at this
      exact (Option.some.inj this).symm
    subst ey
    refine ⟨_, rfl, wpAny_letOwnedTupleGo_enum (s := { s with heap := h', toks := tk + 1 }) ho fun h'' he' sb => ?_⟩
    have hT2 : h''.get? s.heap.objs.size = some { cls := .type "tuple", data := .seq #[.int (k0 + (i : Int)) tk, y] } := (sb.2 _ (Nat.ne_of_gt hel)).trans hT
    have newT : ObjOk X.prog X.w (upd H s.heap.objs.size (.tup [.int (k0 + ((i : Nat) : Int)), x])) h'' s.heap.objs.size (.tup [.int (k0 + ((i : Nat) : Int)), x]) :=
      ⟨by show 2 ≤ sizeLine; decide, [.int (k0 + (i : Int)) tk, y], .cons ⟨_, rfl⟩ (.cons ru .nil), ⟨_, hT2, rfl, _, rfl⟩⟩
    have I1 := I.turnedNew (t' := tk + 1) (ch := [e, it]) (h' := h'') (fun b ob hb q => (sb.2 b (fun z => hb (by simp [z]))).trans (hk b ob (fun z => hb (by simp [z])) (fun z => hb (by simp [z])) q)) hf (Nat.le_refl _) newT
    refine ⟨.ref s.heap.objs.size, _, I1, rfl, ⟨_, x, rfl, I.hok.fresh (Nat.le_refl _), rfl, fun ys hy => by rw [I.list_inj hy hq]; exact hx⟩, ⟨⟨y, ?_⟩, st'.1.at fun o q => (sb.2 it (Ne.symm hne)).trans q, hne⟩, fun b hb => ?_⟩
    · rw [show (k0 + ((i + 1 : Nat) : Int)) = k0 + (i : Int) + 1 by omega]
      exact he'
    · have hb' : b < s.heap.objs.size := by
        rcases (show b = e ∨ b = it by simpa using hb) with z | z
        · rw [z]; exact hel
        · rw [z]; exact hil
      rw [upd_ne (Nat.ne_of_lt hb')]
      exact (hf b hb).1
  done := by
    intro X hP hw hK hc i pins s σ H Ex I hf st hg
    subst hP hw hK
    obtain ⟨⟨old, he⟩, hit, hne⟩ := st
    obtain ⟨xs, hq, hx⟩ := hg
    obtain ⟨its, rv, p, hz⟩ := I.list hq
    obtain ⟨f0, f1, f2, f3, f4, f5⟩ := hf it (by simp)
    have hl := rv.length
    have nia : a ≠ it := fun z => by
      obtain ⟨o, ho, hc1, _⟩ := hit
      rw [← z] at ho
      obtain ⟨q, q1, q2, q3⟩ := p.isList
      rw [ho] at q1
      cases q1
      rw [hc1] at q2
      exact absurd (Value.type.inj q2) (by decide)
    have ei : i = its.toArray.size := by simp; omega
    subst ei
    exact wpAny_pyNext_enum_endD (Draws.list (A := X.A.in1) (I.ok.hd hc) it a nia its.toArray) he ⟨hit, p.isList⟩ fun h' eb => ⟨rfl, I.turned (t' := s.toks) (fun b o hb q => eb b o hb q) f0 f1 f3 f4 f5⟩
  self := fun A i s Q Ex ⟨⟨_, he⟩, _⟩ h => wpAny_pyIter_enum he h
def iEnS (K : PySem.W.Frag) (k0 : Int) (ta : TA) : TI := fun σ H R => ta σ H fun vs H1 => ∃ a xs, vs = [.ref a] ∧ SqL K H1 a xs ∧ R (ItS K k0 a) H1
theorem pi_enS {X : Cx} {e : Expr} {ta : TA} {p pos tpos cp kp : Pos} {elts : List Expr} {kk j : Nat} {k0 : Int} (hb : -(2 ^ 63) ≤ k0 ∧ k0 < 2 ^ 63) (hg : Gl X "enumerate") (hm : X.mg "enumerate" = none) (ha : PA X [e] ta)
    (hall : (backToKw pos (keywordEach [⟨some "start", .Constant (.int k0) j cp, kp⟩] X.env)).all (·.1.isSome) = true := by rfl) (hks : (backToKw pos (keywordEach [⟨some "start", .Constant (.int k0) j cp, kp⟩] X.env)).filterMap (·.1) = [("start" : Str)] := by rfl)
    (he : starEach [e] X.env = (false, eval e X.env) :: starEach [] X.env := by rfl) (hpl : ((backTo pos (starEach [e] X.env)).any (·.1) || (backToKw pos (keywordEach [⟨some "start", .Constant (.int k0) j cp, kp⟩] X.env)).any (·.1.isNone)) = false := by rfl) :
    PI X (.Tuple elts kk tpos) (.Call (.Name "enumerate" p) [e] [⟨some "start", .Constant (.int k0) j cp, kp⟩] pos) (iEnS X.K k0 ta) := by
  refine ⟨fun pins s σ H R I h => ?_⟩
  have kx : PK X [⟨some "start", .Constant (.int k0) j cp, kp⟩] _ := pk_cons pe_int pk_nil
  refine wpAny_Call_Name_kw (ld_blt I hg hm boot_enumerate ?_ (by decide) (by decide))
  refine PySem.W.callWith_of (P := fun _ => True) hpl (fun h _ => ⟨.machine, .inr (.inl rfl), .now⟩) (PyProof.Rows.evalArgs_kw2 hall (thn (ha.run pos pins s σ H _ I h) fun us s1 ⟨vs, H1, I1, r1, a, xs, ev, hq, q⟩ => ?_) he)
  refine thn (kx.run pos pins s1 σ H1 (fun ws H' => ws = [.int k0] ∧ H' = H1) I1 ⟨rfl, rfl⟩) fun us2 s2 ⟨ws, H2, I2, r2, ew, eH⟩ => ⟨True.intro, ?_⟩
  subst ev ew eH
  rw [hks]
  cases r1 with
  | cons r rr =>
    cases rr
    cases r
    cases r2 with
    | cons r' rr' =>
      cases rr'
      obtain ⟨tk, rfl⟩ := r'
      obtain ⟨its, rv, p', hz⟩ := I2.list hq
      show wpAny _ _ (call (.type "enumerate") [.ref a] [("start", .int k0 tk)]) _ _ _
      refine enum_begins_start (begins_list a its.toArray) p'.isList hb.1 hb.2 fun h' hE hit hsz hk => wpAny_pyIter_enum hE ?_
      have I3 : Inv X pins σ H2 { s2 with heap := h' } := I2.kept (t' := s2.toks) hk
      refine ⟨s2.heap.objs.size + 1, [s2.heap.objs.size + 1, s2.heap.objs.size], _, _, H2, rfl, I3, turn_enS k0 a (s2.heap.objs.size + 1) s2.heap.objs.size, ⟨⟨.none, by simpa using hE⟩, ⟨_, hit, rfl, rfl⟩, Nat.succ_ne_self _⟩, fun b hb => ?_, q⟩
      have hle : s2.heap.objs.size ≤ b := by
        rcases (show b = s2.heap.objs.size + 1 ∨ b = s2.heap.objs.size by simpa using hb) with z | z
        · rw [z]; exact Nat.le_add_right _ _
        · rw [z]; exact Nat.le_refl _
      exact I2.fpOk hle (I2.hok.fresh hle)
end SyG
namespace Sy
open PySem L2 Evl Trk SyG
theorem walk_ofES {K : PySem.W.Frag} {a : Addr} {n : Nat} {k0 : Int} : Walk (ItS K k0 a) n (fun H => ∃ ys, SqL K H a ys ∧ ys.length = n) (fun i H v H' => ∃ T x, v = .ref T ∧ H T = none ∧ H' = upd H T (.tup [.int (k0 + ((i : Nat) : Int)), x]) ∧ ∀ xs, SqL K H a xs → xs[i]? = some x) :=
  ⟨fun i H hi ⟨ys, h1, h2⟩ => ⟨ys, ys[i]'(by omega), h1, List.getElem?_eq_getElem (by omega)⟩, fun H ⟨ys, h1, h2⟩ => ⟨ys, h1, h2⟩, fun i H x H' hi g y => y⟩
section
variable {X : Cx} {Γ : Gm} {Ω : Om} {R : Rx} {e : Expr} {pos : Pos} {α : Type} {f : α → D}
theorem iw_enumS {p tpos cp kp : Pos} {elts : List Expr} {kk j : Nat} {k0 : Int} {Q : List (Int × α) → (Om → Prop) → Om → Prop} (hb : -(2 ^ 63) ≤ k0 ∧ k0 < 2 ^ 63) (hm : X.mg "enumerate" = none)
    (h : EX X e Γ Ω (fun d Ω1 => ∃ xs : List α, LstAt Ω1 d (xs.map f) ∧ Q (enuL k0 xs) (fun Ω' => LstAt Ω' d (xs.map f)) Ω1) R) (hg : Gl X "enumerate" := by rfl)
    (hall : (backToKw pos (keywordEach [⟨some "start", .Constant (.int k0) j cp, kp⟩] X.env)).all (·.1.isSome) = true := by rfl) (hks : (backToKw pos (keywordEach [⟨some "start", .Constant (.int k0) j cp, kp⟩] X.env)).filterMap (·.1) = [("start" : Str)] := by rfl)
    (he : starEach [e] X.env = (false, eval e X.env) :: starEach [] X.env := by rfl) (hpl : ((backTo pos (starEach [e] X.env)).any (·.1) || (backToKw pos (keywordEach [⟨some "start", .Constant (.int k0) j cp, kp⟩] X.env)).any (·.1.isNone)) = false := by rfl) :
    IW X (.Tuple elts kk tpos) (.Call (.Name "enumerate" p) [e] [⟨some "start", .Constant (.int k0) j cp, kp⟩] pos) Γ Ω (eT iD f) Q R :=
  ⟨_, pi_enS hb hg hm (pa_cons pe_all pa_nil he) hall hks he hpl, fun σ F H s r t x => h σ F H s _ (fun d Ω1 v F1 H1 ⟨xs, l, z⟩ g n => by
    obtain ⟨p, ys, rfl, h1, h2⟩ := l.get g.ex g.ow n
    refine ⟨p, ys, rfl, SqL.of h1, t _ _ Ω1 _ xs.length _ _ F1 H1 ⟨enuL k0 xs, rfl, z⟩ g (by rw [List.length_map, enuL_len]) walk_ofES (fun F2 H2 Ω2 g2 l2 => ?_) fun i F2 H2 Ω2 y H3 di g2 l2 hy hd => ?_⟩
    · obtain ⟨p', ys', ep, h3, h4⟩ := l2.get g2.ex g2.ow (n.mono g2.fr)
      cases ep
      exact ⟨ys', SqL.of h3, by rw [← h4.len, List.length_map]⟩
    · obtain ⟨p', ys', ep, h3, h4⟩ := l2.get g2.ex g2.ow (n.mono g2.fr)
      cases ep
      obtain ⟨T, y', rfl, hT, rfl, e2⟩ := hy
      rw [List.getElem?_map, enuL_get] at hd
      cases q : xs[i]? with
      | none => rw [q] at hd; cases hd
      | some w =>
        rw [q] at hd
        have ed : di = .tup [iD (k0 + (i : Int)), f w] := (Option.some.inj hd).symm
        subst ed
        obtain ⟨y2, hy2, dy⟩ := h4.get (show (xs.map f)[i]? = some (f w) by rw [List.getElem?_map, q]; rfl)
        rw [e2 ys' (SqL.of h3)] at hy2
        cases hy2
        have gg := Go.lay (o := .tup [.int (k0 + ((i : Nat) : Int)), y']) g2.ex g2.ow hT
        exact ⟨_, gg, den_pair upd_same (den_v.mpr rfl) (dy.mono gg.fr)⟩) x⟩
end
end Sy

/-! SyT: try with what may be raised told by a type of one's own; isinstance and fields of a caught error. -/
namespace Sy
open PySem L2 Evl Trk
def tryW {Ex : Type} (A : (Ex → Prop) → Prop) (H : Ex → Prop) : Prop := A H
/-- within a try: what is raised is one of Ex, the slots and own things then stand as inv says -/
def TryP {Ex : Type} (eC : Ex → Value) (eF : Ex → List (Str × D)) (inv : Gm → Om → Prop) (H : Ex → Prop) (N : OS → Prop) : OS → Prop
  | .ex c fs Γ Ω => ∃ e, c = eC e ∧ fs = eF e ∧ inv Γ Ω ∧ H e
  | o => N o
section
variable {X : Cx} {Γ : Gm} {Ω : Om} {sts body : List Stmt} {Φ Ψ : OS → Prop} {pos : Pos} {Ex : Type} {eC : Ex → Value} {eF : Ex → List (Str × D)} {inv : Gm → Om → Prop} {H : Ex → Prop}
theorem try_nx {N : OS → Prop} (h : N (.nx Γ Ω)) : TryP eC eF inv H N (.nx Γ Ω) := h
theorem ss_tryAsW (i : Nat) (eC : Ex → Value) (eF : Ex → List (Str × D)) (inv : Gm → Om → Prop) {A : (Ex → Prop) → Prop} {H : Ex → Prop} {x n : Str} {C : Addr} {b₀ : Stmt} {suite : List Stmt} {np pos' : Pos}
    (hs : X.stack = X.env :: X.outer) (hf : X.env.frame = some X.env.locals) (hd : X.N.Nodup) (hc : Names X x (.ref C)) (hW : tryW A H)
    (hb : A H → ∀ pn xe, PassesOwn (model X.prog X.w) X.A X.env xe → SS (X.tr pn xe) body Γ Ω (TryP eC eF inv H (Seq X sts Φ)))
    (hx : ∀ e Γ' Ω', inv Γ' Ω' → H e → ∃ k, PySem.W.exmOne X.K (eC e) (.ref C) = some k ∧ (k = true → ∀ a oe d pn, Zc (eC e) d oe → (∃ vs, oe.data = .fields vs) → SS (X.suite a ((a, oe) :: pn)) (b₀ :: suite) (Γ'.set i (some (.ced a d (eF e)))) Ω' (GoneS i (Seq X sts Φ))) ∧ (k = false → Seq X sts Φ (.ex (eC e) (eF e) Γ' Ω')))
    (hN : X.N[i]? = some n := by rfl) (hln : X.env.kindOf n = some .local := by rfl) :
    SS X (.Try body [.ExceptHandler (some (.Name x np)) (some n) (b₀ :: suite) pos'] [] [] pos :: sts) Γ Ω Φ := by
  refine ss_tryAs i hs hf hd hc (hb hW) (fun o no z => ?_) (fun c fs Γ' Ω' ⟨e, e1, e2, i1, h1⟩ => ?_) hN hln
  · cases o with
    | ex c fs Γ' Ω' => exact absurd rfl (no c fs Γ' Ω')
    | nx Γ' Ω' => exact z
    | bk Γ' Ω' => exact z
    | ct Γ' Ω' => exact z
    | rt d Ω' => exact z
  · subst e1; subst e2
    exact hx e Γ' Ω' i1 h1
end
/-! ### a caught error -/
section
variable {X : Cx} {Γ : Gm} {Ω : Om} {Q : Qe} {R : Rx} {d d1 : D} {a c : Expr} {pos : Pos} {C : Addr} {fs : List (Str × D)}
/-- what isinstance and a dot need of an error's class -/
structure XcT (K : PySem.W.Frag) (C : Addr) : Prop where
  ga : PySem.W.findIn K (.ref C) "__getattribute__" = some (some (.builtin "BaseException.__getattribute__"))
  gg : PySem.W.findIn K (.ref C) "__getattr__" = some none
  be : PySem.W.subIn K (.ref C) (.type "BaseException") = some true
  ca : PySem.W.findIn K (.ref C) "__class__" = some (some (.builtin "object.__class__"))
  cn : PySem.W.specialIn K (.builtin "object.__class__") "__get__" = some (some (.builtin "getset_descriptor.__get__"))
  ct : PySem.W.takesIn K (.builtin "object.__class__") = some true
  ob : PySem.W.mroIn K C (.type "object") = some true
  hd : PySem.W.hasDictIn K C = true
  ic : (PySem.W.clsIn K C).isSome = true
theorem EcT.xc {K : PySem.W.Frag} {mg : Str → Option Value} {x : Str} {C BE : Addr} (T : EcT K mg x C BE) : XcT K C := ⟨T.ga, T.gg, T.be, T.ca, T.cn, T.ct, T.ob, ec_hd T.ec, T.isC⟩
def rIsX (K : PySem.W.Frag) (d1 : D) (cv : V) (k : Bool) : List V → Hp → VK → Prop := fun xs H Q => ∃ z, xs = [z, cv] ∧ Den K H d1 z ∧ Q (.bl k) H
theorem cr_isX {k : Bool} {u : Value} {cv : V} (T : XcT X.K C) (hs : SeenX X C d1 fs) (hcv : ClsV cv u) (hk : PySem.W.kitOne X.K (.ref C) u = some k) : CallR X (.builtin "isinstance") (rIsX X.K d1 cv k) := by
  intro pins s σ H xs us Q I r h
  obtain ⟨z, rfl, hz, q⟩ := h
  obtain ⟨a, oe, od, rfl, J, _⟩ := seenX hs I hz
  cases r with
  | cons rx rr =>
    cases rr with
    | cons rt rr =>
      cases rr
      cases rx
      have ec := hcv.eq rt
      subst ec
      exact PySem.W.kia_one (PySem.W.kitx_exc T.ic T.ga T.gg T.be T.ca T.cn T.ct T.ob) I.kIn J hk (fun z => nomatch z) fun tk => ⟨.bl k, H, I.kept (t' := tk) fun _ _ z => z, rfl, q⟩
theorem cx_isX {k : Bool} {cv : V} (q : Q (bD k) Ω) : ClX X.K (rIsX X.K d1 cv k) Ω [d1, .v cv] Q := fun F H xs e o n qq t => by
  obtain ⟨z, y, rfl, h1, h2⟩ := denL_two n
  rw [den_v.mp h2]
  exact ⟨z, rfl, h1.mono e, t _ _ _ _ _ q (Go.refl e o) (den_v.mpr rfl)⟩
/-- isinstance(e, c), e a caught error -/
theorem ex_isX {k : Bool} {u : Value} {cv : V} {p : Pos} (T : XcT X.K C) (hm : X.mg "isinstance" = none) (hs : SeenX X C d1 fs) (hcv : ClsV cv u) (hk : PySem.W.kitOne X.K (.ref C) u = some k)
    (h : AX X [a, c] Γ Ω (fun ds Ω1 => ds = [d1, .v cv] ∧ Q (bD k) Ω1) R) (hg : Gl X "isinstance" := by rfl) (he : starEach (a :: [c]) X.env = (false, eval a X.env) :: starEach [c] X.env := by rfl)
    (hpl : (backTo pos (starEach [c] X.env)).any (·.1) = false := by rfl) : EX X (.Call (.Name "isinstance" p) [a, c] [] pos) Γ Ω Q R :=
  ex_callB (cr_isX T hs hcv hk) hm (by decide +kernel) (fun σ F H s q t x => h σ F H s q (fun ds Ω1 vs F1 H1 ⟨e1, z⟩ g n => t ds Ω1 vs F1 H1 (by subst e1; exact cx_isX z) g n) x) hg (he := he) (hpl := hpl)
/-- e.f, e a caught error -/
theorem ex_xf {f : Str} {p : Pos} (T : XcT X.K C) (hno : PySem.W.findIn X.K (.ref C) f = some none) (h : EX X a Γ Ω (fun d1 Ω1 => ∃ a0 oe dx vs fs d, d1 = .ced a0 dx fs ∧ (a0, oe) ∈ X.pn ∧ Zc (.ref C) dx oe ∧ oe.data = .fields vs ∧ fs.lookup f = some d ∧ Q d Ω1) R)
    (hb : attributeBase a f X.env (eval a X.env) = eval a X.env := by rfl) : EX X (.Attribute a f p) Γ Ω Q R := fun σ F H s q t x pins sh I => by
  refine attr_of hb (thn (h σ F H s (fun v H' => ∃ Ω1 F1 a0 oe dx vs fs d, (a0, oe) ∈ X.pn ∧ Zc (.ref C) dx oe ∧ oe.data = .fields vs ∧ fs.lookup f = some d ∧ Q d Ω1 ∧ Go X.K F H Ω F1 H' Ω1 ∧ Den X.K F1 (.ced a0 dx fs) v)
    (fun d1 Ω1 v F1 H1 ⟨a0, oe, dx, vs, fs, d, e1, h1, h2, h3, h4, h5⟩ g n => ⟨Ω1, F1, a0, oe, dx, vs, fs, d, h1, h2, h3, h4, h5, g, by subst e1; exact n⟩) x pins sh I) fun u s1 hh => ?_)
  obtain ⟨z, H1, I1, rz, Ω1, F1, a0, oe, dx, vs, fs, d, hp, hz, hv, l, k, g, n⟩ := hh
  simp only [Den] at n
  obtain ⟨rfl, hd⟩ := n
  obtain rfl : u = Value.ref a0 := rz
  obtain ⟨hget, _⟩ := I1.pin (a0, oe) (List.mem_append_left _ hp)
  rcases hd with ⟨rfl, _⟩ | ⟨dd, gs, hne, rfl, hdd, hF⟩
  · cases l
  · have hdH : H1 dd = some (.xd gs) := g.ex dd _ hdd
    obtain ⟨od, J, L⟩ := instX I1 hget hz hv (.inr ⟨dd, gs, rfl, .inr hdH⟩)
    obtain ⟨y, ly, dy⟩ := denF_lookup hF l
    obtain ⟨o2, w, eo, lw, ry⟩ := L dd gs rfl (.inr hdH) f y ly
    subst eo
    exact HandSPX.exc_get I1.kIn J T.ga T.gg T.be (PySem.W.findObj_own T.hd hno rfl lw) (handed_of ry) ⟨y, H1, I1.tok _, ry, t _ _ _ _ _ k g dy⟩
end
end Sy

/-! == and != of two lists of numbers that are equal. -/
namespace Sy
open PySem L2 Evl Trk
section
variable {X : Cx} {Ω : Om} {Q : Qe} {C f : Addr} {CX : CXT} {n : Nat} {fd : FuncData} {ps : List Str} {E : XK} {W : Wx} {d1 d2 : D}
/-- a Fraction is equal to itself -/
def SelfEq (W : Wx) (C : Addr) (q : Rat) : Prop := W [fr C q, fr C q] [] (fun d _ => d = bD true) (fun _ _ _ => False)
theorem eqb_frS (M : CmpM X.K C "__eq__" f) (F : FnOk X.prog X.w X.K X.mg X.base CX n f fd ps (spS X.K 2 W)) (hb : Binds X.K fd ps []) (hx : Passes CX X E) {A : Around} {pins : List (Addr × Obj)} {s : Shared} {σ : L2.St} {H : Hp} {x y : V} {u v : Value} {q : Rat}
    (sb : Sub X n A) (I : Inv X pins σ H s) (rx : RelV x u) (ry : RelV y v) (hp : Den X.K H (fr C q) x) (hq : Den X.K H (fr C q) y) (hw : SelfEq W C q) :
    wpAny (model X.prog X.w) A (eqBool u v) (fun r s' => r = true ∧ ∃ H', Inv X pins σ H' s' ∧ Ex H H') X.xe s := by
  have hp' := hp
  have hq' := hq
  obtain ⟨a, dx, rfl, ha⟩ := den_fr.mp hp
  obtain ⟨b, dy, rfl, hb'⟩ := den_fr.mp hq
  cases rx
  cases ry
  by_cases hab : a = b
  · subst hab
    exact SeqAt.EqAt.same (A := A) (s := s) (.ref a) X.prog X.w X.xe _ ⟨rfl, H, I, Ex.refl H⟩
  · refine GQ.eqBool_refG hab ?_
    obtain ⟨mA, J, _⟩ := ins_get I.hok ha
    obtain ⟨mB, J', _⟩ := ins_get I.hok hb'
    obtain ⟨od, J, _⟩ := J.look
    obtain ⟨od', J', _⟩ := J'.look
    obtain ⟨m, hF⟩ := I.fr
    refine PySem.W.cmp_K (op := .Eq) (tb := .ref C) sb.room.units0 hF I.ok.mod.kin J J'.type (by simp [PySem.W.notFirst]) M.find M.fn ?_
    have hsp : spS X.K 2 W [.ref a, .ref b] H (fun v H' => v = .bl true ∧ Ex H H') E :=
      ⟨H, [], [fr C q, fr C q], _, _, Ex.refl H, True.intro, rfl, .cons hp' (.cons hq' .nil), hw, fun d Ω' v F' H' z g n => ⟨by subst z; exact den_v.mp n, fun a o h => g.keep a o h (by simp [keys])⟩, fun _ _ _ _ _ _ z => z.elim⟩
    refine thn (run_sub F sb hb hx I (vals_rr a b) hsp) fun z s' hz => ?_
    obtain ⟨w, H', I', rw', ew, e⟩ := hz
    subst ew
    cases rw'
    exact ⟨_, rfl, rfl, H', I', e⟩
theorem eqb_numS (M : CmpM X.K C "__eq__" f) (F : FnOk X.prog X.w X.K X.mg X.base CX n f fd ps (spS X.K 2 W)) (hb : Binds X.K fd ps []) (hx : Passes CX X E) {A : Around} {pins : List (Addr × Obj)} {s : Shared} {σ : L2.St} {H : Hp} {x y : V} {u v : Value} {d : Num}
    (sb : Sub X n A) (I : Inv X pins σ H s) (rx : RelV x u) (ry : RelV y v) (hp : Den X.K H (eN C d) x) (hq : Den X.K H (eN C d) y) (hd : ∀ q, d = .q q → SelfEq W C q) :
    wpAny (model X.prog X.w) A (eqBool u v) (fun r s' => r = true ∧ ∃ H', Inv X pins σ H' s' ∧ Ex H H') X.xe s := by
  cases d with
  | i i =>
    rw [den_v.mp hp] at rx
    rw [den_v.mp hq] at ry
    obtain ⟨t1, rfl⟩ := rx
    obtain ⟨t2, rfl⟩ := ry
    have h := SeqAt.EqAt.int_int (A := A) (s := s) i t1 i t2
    rw [show (i == i) = true by simp] at h
    exact h X.prog X.w X.xe _ ⟨rfl, H, I, Ex.refl H⟩
  | q q => exact eqb_frS M F hb hx sb I rx ry hp hq (hd q rfl)
def rSame (C : Addr) (K : PySem.W.Frag) (W : Wx) (b : Bool) : R2 := fun x y H Q => ∃ ns : List Num, Den K H (.lst (ns.map (eN C))) x ∧ Den K H (.lst (ns.map (eN C))) y ∧ (∀ q, Num.q q ∈ ns → SelfEq W C q) ∧ ∀ H', Ex H H' → Q (.bl b) H'
theorem same_listB (M : CmpM X.K C "__eq__" f) (F : FnOk X.prog X.w X.K X.mg X.base CX n f fd ps (spS X.K 2 W)) (hb : Binds X.K fd ps []) (hx : Passes CX X E) (hr : Room (n + 1) X.A) {pins : List (Addr × Obj)} {s : Shared} {σ : L2.St} {H : Hp} {a b : Addr} {xs ys : List V} {ns : List Num}
    (ha : H a = some (.lst xs)) (hb' : H b = some (.lst ys)) (hL : DenL X.K H (ns.map (eN C)) xs) (hM : DenL X.K H (ns.map (eN C)) ys) (hn : ∀ q, Num.q q ∈ ns → SelfEq W C q) :
    ListB X.prog X.w X.A X.xe a b ns.length (fun _ => true) (fun s' => ∃ H', Inv X pins σ H' s' ∧ Ex H H') := by
  intro s' hI
  have lc : ns.length = xs.length := by have := hL.len; simpa using this
  have le : ns.length = ys.length := by have := hM.len; simpa using this
  obtain ⟨H1, I1, e1⟩ := hI
  obtain ⟨z, its, k, r, e⟩ := I1.hok a _ (e1 _ _ ha)
  obtain ⟨z2, its2, k2, r2, e2⟩ := I1.hok b _ (e1 _ _ hb')
  refine ⟨its.toArray, its2.toArray, k, k2, e, e2, by rw [List.size_toArray, ← r.length, lc], by rw [List.size_toArray, ← r2.length, le], fun i k1 k2 => ?_⟩
  have g1 : its[i]? = some its.toArray[i] := by
    have h1' : i < its.length := by simpa using k1
    rw [List.getElem?_eq_getElem h1'] <;> simp
  have g2 : its2[i]? = some its2.toArray[i] := by
    have h2' : i < its2.length := by simpa using k2
    rw [List.getElem?_eq_getElem h2'] <;> simp
  have j1 : i < ns.length := by rw [lc, r.length]; simpa using k1
  obtain ⟨x1, hx1, dx1⟩ := hL.get (i := i) (d := eN C ns[i]) (by rw [List.getElem?_map, List.getElem?_eq_getElem j1]; rfl)
  obtain ⟨y1, hy1, dy1⟩ := hM.get (i := i) (d := eN C ns[i]) (by rw [List.getElem?_map, List.getElem?_eq_getElem j1]; rfl)
  obtain ⟨u1, hu1, ru1⟩ := r.get hx1
  obtain ⟨v1, hv1, rv1⟩ := r2.get hy1
  rw [g1] at hu1
  rw [g2] at hv1
  rw [Option.some.inj hu1, Option.some.inj hv1]
  refine wpAny_mono (eqb_numS M F hb hx (A := X.A.in1) (Sub.in1 ⟨hr, rfl⟩) I1 ru1 rv1 (dx1.mono e1) (dy1.mono e1) (fun q hq => hn q (hq ▸ List.getElem_mem j1))) (fun r s2 hq => ?_) fun _ _ x => x
  obtain ⟨hr2, H2, I2, e3⟩ := hq
  exact ⟨hr2, H2, I2, e1.trans e3⟩
theorem op_eqN (M : CmpM X.K C "__eq__" f) (F : FnOk X.prog X.w X.K X.mg X.base CX n f fd ps (spS X.K 2 W)) (hr : Room (n + 1) X.A) (hb : Binds X.K fd ps []) (hx : Passes CX X E) : OpR X (compareOp .Eq) (rSame C X.K W true) := by
  intro pins s σ H x y v u Q I rx ry h
  obtain ⟨ns, h1, h2, hn, q⟩ := h
  simp only [Den] at h1 h2
  obtain ⟨a, xs, rfl, ha, hL⟩ := h1
  obtain ⟨b, ys, rfl, hb', hM⟩ := h2
  cases rx
  cases ry
  show wpAny (model X.prog X.w) X.A (richCompare .Eq (.ref a) (.ref b)) (EP X pins σ Q) X.xe s
  refine rc_listB (N := ns.length) (f := fun _ => true) hr.units0 (fun s' => ∃ H', Inv X pins σ H' s' ∧ Ex H H') (same_listB (s := s) M F hb hx hr ha hb' hL hM hn) (fun s' ⟨H', I', e⟩ => by
    rw [allF_true]
    exact ⟨.bl true, H', I', rfl, q H' e⟩) ⟨H, I, Ex.refl H⟩
theorem op_neN (M : CmpM X.K C "__eq__" f) (F : FnOk X.prog X.w X.K X.mg X.base CX n f fd ps (spS X.K 2 W)) (hr : Room (n + 1) X.A) (hb : Binds X.K fd ps []) (hx : Passes CX X E) : OpR X (compareOp .NotEq) (rSame C X.K W false) := by
  intro pins s σ H x y v u Q I rx ry h
  obtain ⟨ns, h1, h2, hn, q⟩ := h
  simp only [Den] at h1 h2
  obtain ⟨a, xs, rfl, ha, hL⟩ := h1
  obtain ⟨b, ys, rfl, hb', hM⟩ := h2
  cases rx
  cases ry
  show wpAny (model X.prog X.w) X.A (richCompare .NotEq (.ref a) (.ref b)) (EP X pins σ Q) X.xe s
  refine rc_listNB (N := ns.length) (f := fun _ => true) hr.units0 (fun s' => ∃ H', Inv X pins σ H' s' ∧ Ex H H') (same_listB (s := s) M F hb hx hr ha hb' hL hM hn) (fun s' ⟨H', I', e⟩ => by
    rw [allF_true]
    exact ⟨.bl false, H', I', rfl, q H' e⟩) ⟨H, I, Ex.refl H⟩
theorem ox_same {xs ys : List Num} {b : Bool} (l1 : LstAt Ω d1 (xs.map (eN C))) (l2 : LstAt Ω d2 (ys.map (eN C))) (he : xs = ys) (hs : ∀ q, Num.q q ∈ xs → SelfEq W C q) (k : Q (bD b) Ω) : OpX X.K (rSame C X.K W b) Ω d1 d2 Q := fun F H x y e o n1 n2 q t => by
  subst he
  obtain ⟨p, ys1, rfl, g1, g2⟩ := l1.get e o n1
  obtain ⟨p2, ys2, rfl, g3, g4⟩ := l2.get e o n2
  refine ⟨xs, ?_, ?_, hs, fun H' e' => t _ _ _ _ _ k (Go.more e o e') (den_v.mpr rfl)⟩
  · simp only [Den]
    exact ⟨p, ys1, rfl, g1, g2.mono e⟩
  · simp only [Den]
    exact ⟨p2, ys2, rfl, g3, g4.mono e⟩
end
end Sy

/-! A call of an own object, a list turned round, a tuple of a list. -/
namespace Sy
open PySem L2 Evl Trk
abbrev eTL {α : Type} (f : α → D) (xs : List α) : D := .tup (xs.map f)
section
variable {X : Cx} {Γ : Gm} {Ω : Om} {Q : Qe} {R : Rx} {d d1 d2 : D} {e a b c : Expr} {es : List Expr} {pos : Pos} {α : Type} {f : α → D}
theorem ex_revT {j : Nat} {p1 p2 p3 : Pos} (h : EX X a Γ Ω (fun d Ω1 => ∃ (f : α → D) (xs : List α), LstAt Ω1 d (xs.map f) ∧ ∀ p : Addr, Q (.v (.ref p)) ((p, .lst (xs.reverse.map f)) :: Ω1)) R)
    (hpe : ∀ {t : TE}, PE X a t → PE X (.Subscript a (.Slice none none (some (.UnaryOp .USub (.Constant (.int 1) j p1) p2)) p3) pos) (tRevL X.K t) := by intro _ h; exact pe_revL h) :
    EX X (.Subscript a (.Slice none none (some (.UnaryOp .USub (.Constant (.int 1) j p1) p2)) p3) pos) Γ Ω Q R := fun σ F H s q t x =>
  allE_of (hpe pe_all) (h σ F H s _ (fun d Ω1 v F1 H1 ⟨f, xs, l, z⟩ g n => by
    obtain ⟨p, ys, rfl, h1, h2⟩ := l.get g.ex g.ow n
    refine ⟨p, ys, rfl, SqL.of h1, fun l hn => t _ _ _ _ _ (z l) (g.trans (Go.alloc g.ex g.ow hn ⟨_, upd_same, ?_⟩)) (den_v.mpr rfl)⟩
    rw [List.map_reverse]
    exact denL_rev h2) x)
abbrev rTupleOf (K : PySem.W.Frag) : List V → Hp → VK → Prop := fun xs H Q => ∃ p ys, xs = [.ref p] ∧ ((SqL K H p ys ∧ ∀ l, H l = none → Q (.ref l) (upd H l (.tup ys))) ∨ (SqT K H p ys ∧ Q (.ref p) H))
theorem cx_tupL {xs : List α} (l : LstAt Ω d (xs.map f)) (k : Q (.tup (xs.map f)) Ω) : ClX X.K (rTupleOf X.K) Ω [d] Q := fun F H ys e o h q t => by
  obtain ⟨x, rfl, h1⟩ := denL_one h
  obtain ⟨p, ys, rfl, h2, h3⟩ := l.get e o h1
  refine ⟨p, ys, rfl, .inl ⟨SqL.of h2, fun m nm => t _ _ _ _ _ k (Go.lay e o nm) ?_⟩⟩
  simp only [Den]
  exact ⟨m, ys, rfl, st_of upd_same, h3.mono (Ex.new (fresh_back e nm))⟩
theorem ex_callO {C fa : Addr} {k : Nat} {fd : FuncData} {ps : List Str} {W : Wx} (i : Nat) {x : Str} {p : Pos} {fs : List (Str × D)} (M : CmpM X.K C "__call__" fa) (hfn : PySem.W.fnIn X.K fa = true) (Fn : FnOk X.prog X.w X.K X.mg X.base (L2.CX X.prog X.w) k fa fd ps (spS X.K 2 W)) (hr : Room k X.A) (hb : Binds X.K fd ps []) (ho : Γ[i]? = some (some (.obj C fs)))
    (h : AX X (e :: []) Γ Ω (fun ds Ω1 => ∃ d1 Ωa Ωr, ds = [d1] ∧ Ω1 = Ωa ++ Ωr ∧ W [.obj C fs, d1] Ωa (fun d Ω' => Q d (Ω' ++ Ωr)) (fun c fs Ω' => R c fs (Ω' ++ Ωr))) R)
    (hN : X.N[i]? = some x := by rfl) (hv : Vis X.env.scope x := by first | exact Or.inl rfl | exact Or.inr (Or.inl rfl) | exact Or.inr (Or.inr rfl)) (hd : (x == ("__debug__" : Str)) = false := by decide) (hcd : (x == ("__classdict__" : Str)) = false := by decide)
    (he : starEach (e :: []) X.env = (false, eval e X.env) :: starEach [] X.env := by rfl) (hpl : (backTo pos (starEach [] X.env)).any (·.1) = false := by rfl) : EX X (.Call (.Name x p) [e] [] pos) Γ Ω Q R := fun σ F H s q t tx pins sh I => by
  obtain ⟨v, h1, h2⟩ := s.cx i _ ho
  obtain ⟨a, dx, gs, rfl, ha, hF⟩ := den_obj h2
  have po : PE X (.Name x p) (tVar i) := pe_var hN hv hd hcd
  refine wpAny_Call_Name_kw (thn (po.run pins sh σ H (fun v H' => v = .ref a ∧ H' = H) I ⟨.ref a, h1, rfl, rfl⟩) fun u s1 g => ?_)
  obtain ⟨v, H0, I0, rv, ev, eH⟩ := g
  subst ev eH
  obtain rfl : u = Value.ref a := rv
  have run1 := h σ F H0 s (fun vs H' => ∃ ds Ω' F', (∃ d1 Ωa Ωr, ds = [d1] ∧ Ω' = Ωa ++ Ωr ∧ W [.obj C fs, d1] Ωa (fun d Ω' => Q d (Ω' ++ Ωr)) (fun c fs Ω' => R c fs (Ω' ++ Ωr))) ∧ Go X.K F H0 Ω F' H' Ω' ∧ DenL X.K F' ds vs) (fun ds Ω' vs F' H' z g n => ⟨ds, Ω', F', z, g, n⟩) tx pos pins s1 I0
  rw [he] at run1 ⊢
  refine callW (by show ((false || (backTo pos (starEach [] X.env)).any (·.1)) || false) = false; rw [hpl]; rfl) (PySem.Calls.evalArgs_plain (thn run1 fun us s2 ⟨vs, H1, I1, r, ds, Ω', F', ⟨d1, Ωa, Ωr, e1, e2, w⟩, g, n⟩ => ?_))
  subst e1 e2
  obtain ⟨y, rfl, ny⟩ := denL_one n
  obtain ⟨w1, rfl, ry⟩ := vals1 r
  have hq : H1 a = some (.ins C dx gs) := g.ex _ _ (g.fr _ _ ha)
  obtain ⟨mA2, J2, _⟩ := ins_get I1.hok hq
  obtain ⟨od2, J2, _⟩ := J2.look
  refine ⟨⟨_, J2.at_, rfl⟩, ?_⟩
  have rel : Vals [V.ref a, y] [Value.ref a, w1] := .cons (show RelV (V.ref a) (Value.ref a) from rfl) (.cons ry .nil)
  have sp : spS X.K 2 W [V.ref a, y] H1 q (WS X σ) := ⟨F', Ωa, [.obj C fs, d1], _, _, g.ex, g.ow.drop.1, rfl, DenL.cons (h2.mono g.fr) (DenL.cons ny DenL.nil), w, fun d Ω' v F'' H'' z g2 n2 => t _ _ _ _ _ z (g.trans (Go.frame g.ow g2)) n2, fun c fs Ω' dd F'' H'' z g2 n2 => tx c fs _ dd F'' H'' z (g.trans (Go.frame g.ow g2)) n2⟩
  have len : ([Value.ref a, w1] ++ []).length = ps.length := by
    rw [List.append_nil, ← rel.length]
    exact Fn.len _ _ _ _ sp
  have bound := hb s2 [Value.ref a, w1] I1.kIn len
  rw [List.append_nil] at bound
  refine wpAny_call (PySem.W.kco_code I1.kIn J2 rfl M.find M.fn hfn (codeAny_mono (Fn.run X.A X.stack s2 H1 ⟨[Value.ref a, w1], []⟩ _ _ q (WS X σ) hr I1.env0 bound rel sp) fun res s' out => ?_))
  rcases res with err | fl
  · exact passW pins H1 s2 err s' I1 out
  · cases fl with
    | ret u => exact I1.after out
    | next => exact out.elim
    | brk => exact out.elim
    | cont => exact out.elim
/-! ### == of two lists of ints -/
theorem allF_int : ∀ (cs es : List Int) (i : Nat), cs.length = es.length → allF (fun j => decide (cs.getD j 0 = es.getD j 0)) i (cs.length - i) = decide (cs.drop i = es.drop i) := by
  intro cs es i h
  generalize hk : cs.length - i = k
  induction k generalizing i with
  | zero =>
    rw [List.drop_eq_nil_of_le (by omega), List.drop_eq_nil_of_le (by omega)]
    simp [allF]
  | succ k ih =>
    have h1 : i < cs.length := by omega
    have h2 : i < es.length := by omega
    show (_ && allF _ (i + 1) k) = _
    rw [ih (i + 1) (by omega), List.drop_eq_getElem_cons h1, List.drop_eq_getElem_cons h2]
    show (decide (cs.getD i 0 = es.getD i 0) && _) = _
    rw [List.getD_eq_getElem?_getD, List.getD_eq_getElem?_getD, List.getElem?_eq_getElem h1, List.getElem?_eq_getElem h2]
    show (decide (cs[i] = es[i]) && _) = _
    rw [← Bool.decide_and]
    congr 1
    rw [List.cons.injEq]
def rEqLI (K : PySem.W.Frag) : R2 := fun x y H Q => ∃ cs es : List Int, Den K H (.lst (cs.map iD)) x ∧ Den K H (.lst (es.map iD)) y ∧ Q (.bl (decide (cs = es))) H
theorem op_eqLI (hr : Room 1 X.A) : OpR X (compareOp .Eq) (rEqLI X.K) := by
  intro pins s σ H x y v u Q I rx ry h
  obtain ⟨cs, es, h1, h2, q⟩ := h
  simp only [Den] at h1 h2
  obtain ⟨a, xs, rfl, ha, hL⟩ := h1
  obtain ⟨b, ys, rfl, hb', hM⟩ := h2
  cases rx
  cases ry
  show wpAny (model X.prog X.w) X.A (richCompare .Eq (.ref a) (.ref b)) (EP X pins σ Q) X.xe s
  have lc : cs.length = xs.length := by have := hL.len; simpa using this
  have le : es.length = ys.length := by have := hM.len; simpa using this
  obtain ⟨z, its, k, r, e⟩ := I.hok a _ ha
  obtain ⟨z2, its2, k2, r2, e2⟩ := I.hok b _ hb'
  by_cases hl : cs.length = es.length
  · have fin : decide (cs = es) = allF (fun j => decide (cs.getD j 0 = es.getD j 0)) 0 cs.length := by
      have := allF_int cs es 0 hl
      rw [Nat.sub_zero, List.drop_zero, List.drop_zero] at this
      rw [this]
    rw [fin] at q
    refine rc_listB (N := cs.length) (f := fun j => decide (cs.getD j 0 = es.getD j 0)) hr.units0 (fun s' => Inv X pins σ H s') (fun s' I1 => ?_) (fun s' I' => ⟨.bl _, H, I', rfl, q⟩) I
    obtain ⟨z, its, k, r, e⟩ := I1.hok a _ ha
    obtain ⟨z2, its2, k2, r2, e2⟩ := I1.hok b _ hb'
    refine ⟨its.toArray, its2.toArray, k, k2, e, e2, by rw [List.size_toArray, ← r.length, lc], by rw [List.size_toArray, ← r2.length, hl, le], fun i k1 k2 => ?_⟩
    have g1 : its[i]? = some its.toArray[i] := by
      have h1' : i < its.length := by simpa using k1
      rw [List.getElem?_eq_getElem h1'] <;> simp
    have g2 : its2[i]? = some its2.toArray[i] := by
      have h2' : i < its2.length := by simpa using k2
      rw [List.getElem?_eq_getElem h2'] <;> simp
    have j1 : i < cs.length := by rw [lc, r.length]; simpa using k1
    have j2 : i < es.length := by rw [le, r2.length]; simpa using k2
    obtain ⟨x1, hx1, dx1⟩ := hL.get (i := i) (d := iD cs[i]) (by rw [List.getElem?_map, List.getElem?_eq_getElem j1]; rfl)
    obtain ⟨y1, hy1, dy1⟩ := hM.get (i := i) (d := iD es[i]) (by rw [List.getElem?_map, List.getElem?_eq_getElem j2]; rfl)
    obtain ⟨u1, hu1, ru1⟩ := r.get hx1
    obtain ⟨v1, hv1, rv1⟩ := r2.get hy1
    rw [g1] at hu1
    rw [g2] at hv1
    rw [den_v.mp dx1] at ru1
    rw [den_v.mp dy1] at rv1
    obtain ⟨t1, ru1⟩ := ru1
    obtain ⟨t2, rv1⟩ := rv1
    rw [Option.some.inj hu1, Option.some.inj hv1, ru1, rv1]
    have h := SeqAt.EqAt.int_int (A := X.A.in1) (s := s') cs[i] t1 es[i] t2
    refine h X.prog X.w X.xe _ ⟨?_, I1⟩
    show (cs[i] == es[i]) = decide (cs.getD i 0 = es.getD i 0)
    rw [List.getD_eq_getElem?_getD, List.getD_eq_getElem?_getD, List.getElem?_eq_getElem j1, List.getElem?_eq_getElem j2]
    show (cs[i] == es[i]) = decide (cs[i] = es[i])
    by_cases w : cs[i] = es[i]
    · rw [decide_eq_true w, w]; simp
    · rw [decide_eq_false w]; simpa using w
  · have hne : decide (cs = es) = false := decide_eq_false fun z => hl (by rw [z])
    rw [hne] at q
    refine rc_listNe hr.units0 e e2 ?_ ⟨.bl false, H, I, rfl, q⟩
    rw [List.size_toArray, List.size_toArray, ← r.length, ← r2.length, ← lc, ← le]
    exact hl
theorem ox_eqLI {xs ys : List Int} (l1 : LstAt Ω d1 (xs.map iD)) (l2 : LstAt Ω d2 (ys.map iD)) (k : Q (bD (decide (xs = ys))) Ω) : OpX X.K (rEqLI X.K) Ω d1 d2 Q := fun F H x y e o n1 n2 q t => by
  obtain ⟨p, ys1, rfl, g1, g2⟩ := l1.get e o n1
  obtain ⟨p2, ys2, rfl, g3, g4⟩ := l2.get e o n2
  refine ⟨xs, ys, ?_, ?_, t _ _ _ _ _ k (Go.refl e o) (den_v.mpr rfl)⟩
  · simp only [Den]
    exact ⟨p, ys1, rfl, g1, g2.mono e⟩
  · simp only [Den]
    exact ⟨p2, ys2, rfl, g3, g4.mono e⟩
end
end Sy

set_option exponentiation.threshold 10000
namespace Law
open PySem L2 Evl Trk Sy
inductive Exn where
  | BadFraction
structure R_Polynomial where
  _bottom : Int
  _tops : (List Int)
def W_Fraction (a b : Int) (Q : Rat → Prop) (X : Exn → Prop) : Prop := (b ≠ 0 → b.natAbs < 2 ^ 8900 ∧ Q (Rat.divInt a b)) ∧ (b = 0 → X .BadFraction)
def W_L_cell (v_script : (List Int)) (v_k : Int) (Q : Int → Prop) : Prop :=
  (((decide (v_k < (v_script.length : Int))) = true → (∃ v5 : Int, atI v_script v_k = some v5 ∧ Q v5)) ∧ ((decide (v_k < (v_script.length : Int))) = false → Q (0 : Int)))
def W_L_row (v_cell_here : Int) (v_span : Int) (v_many : Int) (Q : (List Int) → Prop) : Prop :=
  (CPowW (10 : Int) (18 : Int) ∧ (∀ x17 : Bool, x17 = (decide (((10 : Int) ^ ((18 : Int)).toNat) ≤ (v_cell_here.natAbs : Int))) → ((-(2 ^ 62) ≤ v_many ∧ v_many < 2 ^ 62) ∧ (forW (fun (x23 : Int) (s22 : Int × List Int) (nx24 : (Int × List Int) → Prop) => (joinW (fun (K31 : (Int × List Int) → Prop) => ((x17 = true → ((0 < v_span) ∧ ((List.length s22.2 < 1000000) ∧ (CDivW s22.1 v_span ∧ (∀ x35 : Int, x35 = (s22.1 / v_span) → K31 (x35, (s22.2 ++ [(s22.1 % v_span)]))))))) ∧ (x17 = false → (CMulW s22.1 (7919 : Int) ∧ (CMulW x23 (104729 : Int) ∧ (CPowW (((s22.1 * (7919 : Int)) + (x23 * (104729 : Int))) + (13 : Int)) (3 : Int) ∧ ((0 < (2147483647 : Int)) ∧ (∀ x37 : Int, x37 = (((((s22.1 * (7919 : Int)) + (x23 * (104729 : Int))) + (13 : Int)) ^ ((3 : Int)).toNat) % (2147483647 : Int)) → (CMulW x37 (48271 : Int) ∧ (CMulW x23 (69621 : Int) ∧ (CPowW (((x37 * (48271 : Int)) + s22.1) + (x23 * (69621 : Int))) (2 : Int) ∧ ((0 < (1000003 : Int)) ∧ (∀ x39 : Int, x39 = (((((x37 * (48271 : Int)) + s22.1) + (x23 * (69621 : Int))) ^ ((2 : Int)).toNat) % (1000003 : Int)) → ((0 < v_span) ∧ ((List.length s22.2 < 1000000) ∧ K31 (s22.1, (s22.2 ++ [(x39 % v_span)]))))))))))))))))) (fun (s30 : Int × List Int) => nx24 (s30.1, s30.2)))) (fun (s22 : Int × List Int) => Q s22.2) (rngL 0 v_many.toNat) ((v_cell_here.natAbs : Int), ([] : List Int))))))
def W_L_top (v_number : Int) (Q : Int → Prop) : Prop :=
  (((decide (v_number < (10 : Int))) = true → Q (0 : Int)) ∧ ((decide (v_number < (10 : Int))) = false → (((decide (v_number < (20 : Int))) = true → Q (v_number - (10 : Int))) ∧ ((decide (v_number < (20 : Int))) = false → Q ((19 : Int) - v_number)))))
def W_L_pairs (v_script : (List Int)) (v_at : Int) (v_many : Int) (Q : (List (Int × Int)) → Prop) : Prop :=
  (W_L_cell v_script v_at (fun (r46 : Int) => (W_L_row r46 (29 : Int) v_many (fun (r48 : (List Int)) => (W_L_cell v_script (v_at + (1 : Int)) (fun (r60 : Int) => (W_L_row r60 (9 : Int) v_many (fun (r62 : (List Int)) => ((-(2 ^ 62) ≤ v_many ∧ v_many < 2 ^ 62) ∧ (((rngL 0 v_many.toNat).length ≤ 999999) ∧ mapS (fun (x65 : Int) (s66 : (Unit)) nx67 => (∃ v79 : Int, atI r48 x65 = some v79 ∧ (W_L_top v79 (fun (r81 : Int) => (∃ v83 : Int, atI r62 x65 = some v83 ∧ nx67 (r81, ((1 : Int) + v83)) ()))))) (rngL 0 v_many.toNat) () (fun ys69 s66 => Q ys69)))))))))))
def W_L_handed (v_pair : (Int × Int)) (v_whole : Bool) (Q : Num → Prop) (X : Exn → Prop) : Prop :=
  (((v_whole && (decide (v_pair.2 = (1 : Int)))) = true → Q (Num.i v_pair.1)) ∧ ((v_whole && (decide (v_pair.2 = (1 : Int)))) = false → (W_Fraction v_pair.1 v_pair.2 (fun (r112 : Rat) => Q (Num.q r112)) X)))
def W_as_fraction (v_number : Num) (Q : Rat → Prop) (X : Exn → Prop) : Prop :=
  ((∀ n133 : Int, v_number = Num.i n133 → ((false = true → True) ∧ (false = false → (W_Fraction n133 (1 : Int) (fun (r139 : Rat) => Q r139) X)))) ∧ (∀ q134 : Rat, v_number = Num.q q134 → ((true = true → Q q134) ∧ (true = false → True))))
def W_Fraction_bool (v_self : Rat) (Q : Bool → Prop) : Prop :=
  Q ((v_self).num != 0)
def W_common_bottom (v_numbers : List Rat) (Q : Int → Prop) : Prop :=
  (forW (fun (x176 : Rat) (s175 : Int) (nx177 : (Int) → Prop) => ((s175.natAbs < 2 ^ 64 ∧ ((x176).den : Int).natAbs < 2 ^ 64) ∧ (∀ x182 : Int, x182 = ((Nat.lcm s175.natAbs ((x176).den : Int).natAbs : Nat) : Int) → nx177 x182))) (fun (s175 : Int) => Q s175) v_numbers (1 : Int))
def W_over_bottom (v_number : Rat) (v_bottom : Int) (Q : Int → Prop) : Prop :=
  (CDivW v_bottom ((v_number).den : Int) ∧ (CMulW ((v_number).num) (v_bottom / ((v_number).den : Int)) ∧ Q ((v_number).num * (v_bottom / ((v_number).den : Int)))))
def W_Polynomial_init (v_coefficients : List Num) (Q : R_Polynomial → Prop) : Prop :=
  ((v_coefficients.length ≤ 999999) ∧ mapS (fun (x119 : Num) (s120 : (Unit)) nx121 => (W_as_fraction x119 (fun (r145 : Rat) => nx121 r145 ()) (fun _ => False))) v_coefficients () (fun ys123 s120 => (∃ n, whileW (fun (s147 : List Rat) (nx148 : (List Rat) → Prop) => (joinW (fun (K150 : Bool → Prop) => (((!List.isEmpty s147) = true → (∃ v157 : Rat, atI s147 (-1 : Int) = some v157 ∧ (W_Fraction_bool v157 (fun (r159 : Bool) => K150 (!r159))))) ∧ ((!List.isEmpty s147) = false → K150 false))) (fun (b153 : Bool) => ((b153 = true → (∃ v162 : Rat, List.getLast? s147 = some v162 ∧ nx148 (List.dropLast s147))) ∧ (b153 = false → (W_common_bottom s147 (fun (r186 : Int) => ((s147.length ≤ 999999) ∧ mapS (fun (x188 : Rat) (s189 : (Unit)) nx190 => (W_over_bottom x188 r186 (fun (r197 : Int) => nx190 r197 ()))) s147 () (fun ys192 s189 => Q ({ _bottom := r186, _tops := ys192 } : R_Polynomial)))))))))) n ys123)))
def W_Polynomial_init_2 (v_coefficients : (List Num)) (Q : R_Polynomial → Prop) : Prop :=
  ((v_coefficients.length ≤ 999999) ∧ mapS (fun (x209 : Num) (s210 : (Unit)) nx211 => (W_as_fraction x209 (fun (r218 : Rat) => nx211 r218 ()) (fun _ => False))) v_coefficients () (fun ys213 s210 => (∃ n, whileW (fun (s220 : List Rat) (nx221 : (List Rat) → Prop) => (joinW (fun (K223 : Bool → Prop) => (((!List.isEmpty s220) = true → (∃ v230 : Rat, atI s220 (-1 : Int) = some v230 ∧ (W_Fraction_bool v230 (fun (r232 : Bool) => K223 (!r232))))) ∧ ((!List.isEmpty s220) = false → K223 false))) (fun (b226 : Bool) => ((b226 = true → (∃ v235 : Rat, List.getLast? s220 = some v235 ∧ nx221 (List.dropLast s220))) ∧ (b226 = false → (W_common_bottom s220 (fun (r239 : Int) => ((s220.length ≤ 999999) ∧ mapS (fun (x241 : Rat) (s242 : (Unit)) nx243 => (W_over_bottom x241 r239 (fun (r250 : Int) => nx243 r250 ()))) s220 () (fun ys245 s242 => Q ({ _bottom := r239, _tops := ys245 } : R_Polynomial)))))))))) n ys213)))
def W_is_number (v_thing : Int) (Q : Bool → Prop) : Prop :=
  Q true
def W_as_fraction_2 (v_number : Int) (Q : Rat → Prop) (X : Exn → Prop) : Prop :=
  ((false = true → True) ∧ (false = false → (W_Fraction v_number (1 : Int) (fun (r292 : Rat) => Q r292) X)))
def W_order (v_fraction : Rat) (v_number : Int) (Q : Int → Prop) (X : Exn → Prop) : Prop :=
  (W_as_fraction_2 v_number (fun (r301 : Rat) => (CMulW ((v_fraction).num) ((r301).den : Int) ∧ (CMulW ((r301).num) ((v_fraction).den : Int) ∧ Q (((v_fraction).num * ((r301).den : Int)) - ((r301).num * ((v_fraction).den : Int)))))) X)
def W_Fraction_eq (v_self : Rat) (v_other : Int) (Q : Bool → Prop) (X : Exn → Prop) : Prop :=
  (W_is_number v_other (fun (r309 : Bool) => (r309 = true ∧ (((!true) = true → True) ∧ ((!true) = false → (W_order v_self v_other (fun (r314 : Int) => Q (decide (r314 = (0 : Int)))) X))))))
def W_is_number_2 (v_thing : Rat) (Q : Bool → Prop) : Prop :=
  Q true
def W_as_fraction_3 (v_number : Rat) (Q : Rat → Prop) : Prop :=
  ((true = true → Q v_number) ∧ (true = false → True))
def W_order_2 (v_fraction : Rat) (v_number : Rat) (Q : Int → Prop) : Prop :=
  (W_as_fraction_3 v_number (fun (r342 : Rat) => (CMulW ((v_fraction).num) ((r342).den : Int) ∧ (CMulW ((r342).num) ((v_fraction).den : Int) ∧ Q (((v_fraction).num * ((r342).den : Int)) - ((r342).num * ((v_fraction).den : Int)))))))
def W_Fraction_eq_2 (v_self : Rat) (v_other : Rat) (Q : Bool → Prop) : Prop :=
  (W_is_number_2 v_other (fun (r350 : Bool) => (r350 = true ∧ (((!true) = true → True) ∧ ((!true) = false → (W_order_2 v_self v_other (fun (r355 : Int) => Q (decide (r355 = (0 : Int))))))))))
def W_L_cut (v_pairs_here : (List (Int × Int))) (Q : (List (Int × Int)) → Prop) : Prop :=
  (∃ n, whileW (fun (s427 : Int) (nx428 : (Int) → Prop) => (joinW (fun (K430 : Bool → Prop) => (((decide ((0 : Int) < s427)) = true → (∃ v435 : (Int × Int), atI v_pairs_here (s427 - (1 : Int)) = some v435 ∧ K430 (decide (v435.1 = (0 : Int))))) ∧ ((decide ((0 : Int) < s427)) = false → K430 false))) (fun (b433 : Bool) => ((b433 = true → (∀ x438 : Int, x438 = (s427 - (1 : Int)) → nx428 x438)) ∧ (b433 = false → Q (cutD v_pairs_here none (some s427))))))) n (v_pairs_here.length : Int))
def W_Polynomial_coefficients (v_self : R_Polynomial) (Q : (List Rat) → Prop) : Prop :=
  ((v_self._tops.length ≤ 999999) ∧ mapS (fun (x447 : Int) (s448 : (Unit)) nx449 => (W_Fraction x447 v_self._bottom (fun (r457 : Rat) => nx449 r457 ()) (fun _ => False))) v_self._tops () (fun ys451 s448 => Q ys451))
def W_Polynomial_degree (v_self : R_Polynomial) (Q : Int → Prop) : Prop :=
  Q ((v_self._tops.length : Int) - (1 : Int))
def W_Polynomial_len (v_self : R_Polynomial) (Q : Int → Prop) : Prop :=
  Q (v_self._tops.length : Int)
def W_L_is (v_got : Rat) (v_pair : (Int × Int)) (Q : Bool → Prop) : Prop :=
  (joinW (fun (K504 : Bool → Prop) => ((true = true → (joinW (fun (K509 : Bool → Prop) => (((decide ((1 : Int) ≤ ((v_got).den : Int))) = true → (CMulW ((v_got).num) v_pair.2 ∧ (CMulW v_pair.1 ((v_got).den : Int) ∧ K509 (decide (((v_got).num * v_pair.2) = (v_pair.1 * ((v_got).den : Int))))))) ∧ ((decide ((1 : Int) ≤ ((v_got).den : Int))) = false → K509 false))) (fun (b512 : Bool) => K504 b512))) ∧ (true = false → K504 false))) (fun (b507 : Bool) => Q b507))
def W_L_list (v_values : (List Rat)) (v_pairs_here : (List (Int × Int))) (Q : Bool → Prop) : Prop :=
  ((((!true) || (decide ((v_values.length : Int) ≠ (v_pairs_here.length : Int)))) = true → Q false) ∧ (((!true) || (decide ((v_values.length : Int) ≠ (v_pairs_here.length : Int)))) = false → ((-(2 ^ 62) ≤ (v_pairs_here.length : Int) ∧ (v_pairs_here.length : Int) < 2 ^ 62) ∧ (forW (fun (x494 : Int) (s493 : Unit) (nx495 : (Unit) → Prop) => (∃ v506 : Rat, atI v_values x494 = some v506 ∧ (∃ v508 : (Int × Int), atI v_pairs_here x494 = some v508 ∧ (W_L_is v506 v508 (fun (r510 : Bool) => (((!r510) = true → Q false) ∧ ((!r510) = false → nx495 ()))))))) (fun (s493 : Unit) => Q true) (rngL 0 (v_pairs_here.length : Int).toNat) ()))))
def W_Polynomial_getitem (v_self : R_Polynomial) (v_at : Int) (Q : Rat → Prop) (X : Exn → Prop) : Prop :=
  (((decide (v_at < (v_self._tops.length : Int))) = true → (∃ v530 : Int, atI v_self._tops v_at = some v530 ∧ (W_Fraction v530 v_self._bottom (fun (r532 : Rat) => Q r532) X))) ∧ ((decide (v_at < (v_self._tops.length : Int))) = false → (W_Fraction (0 : Int) (1 : Int) (fun (r538 : Rat) => Q r538) X)))
def W_L_asked (v_p : R_Polynomial) (v_pairs_here : (List (Int × Int))) (Q : Bool → Prop) : Prop :=
  (joinW (fun (K468 : Bool → Prop) => (W_Polynomial_degree v_p (fun (r473 : Int) => (((decide (r473 ≠ ((v_pairs_here.length : Int) - (1 : Int)))) = true → K468 true) ∧ ((decide (r473 ≠ ((v_pairs_here.length : Int) - (1 : Int)))) = false → (joinW (fun (K475 : Bool → Prop) => (W_Polynomial_len v_p (fun (r482 : Int) => ((0 ≤ r482 ∧ r482 < 2 ^ 63) ∧ (((decide (r482 ≠ (v_pairs_here.length : Int))) = true → K475 true) ∧ ((decide (r482 ≠ (v_pairs_here.length : Int))) = false → (W_Polynomial_coefficients v_p (fun (r495 : (List Rat)) => (W_L_list r495 v_pairs_here (fun (r498 : Bool) => K475 (!r498))))))))))) (fun (b478 : Bool) => K468 b478))))))) (fun (b471 : Bool) => ((b471 = true → Q false) ∧ (b471 = false → ((-(2 ^ 62) ≤ ((v_pairs_here.length : Int) + (3 : Int)) ∧ ((v_pairs_here.length : Int) + (3 : Int)) < 2 ^ 62) ∧ (forW (fun (x504 : Int) (s503 : Unit) (nx505 : (Unit) → Prop) => (∀ x510 : (Int × Int), x510 = ((0 : Int), (1 : Int)) → (joinW (fun (K513 : ((Int × Int)) → Prop) => (((decide (x504 < (v_pairs_here.length : Int))) = true → (∃ v517 : (Int × Int), atI v_pairs_here x504 = some v517 ∧ K513 v517)) ∧ ((decide (x504 < (v_pairs_here.length : Int))) = false → K513 x510))) (fun (s512 : (Int × Int)) => (W_Polynomial_getitem v_p x504 (fun (r523 : Rat) => (W_L_is r523 s512 (fun (r525 : Bool) => (((!r525) = true → Q false) ∧ ((!r525) = false → nx505 ()))))) (fun _ => False)))))) (fun (s503 : Unit) => Q true) (rngL 0 ((v_pairs_here.length : Int) + (3 : Int)).toNat) ()))))))
def W_Polynomial_call (v_self : R_Polynomial) (v_x : Rat) (Q : Rat → Prop) (X : Exn → Prop) : Prop :=
  (W_as_fraction_3 v_x (fun (r501 : Rat) => (forW (fun (x506 : Int) (s505 : Int × Int) (nx507 : (Int × Int) → Prop) => (CMulW s505.1 ((r501).num) ∧ (CMulW x506 s505.2 ∧ (∀ x512 : Int, x512 = ((s505.1 * (r501).num) + (x506 * s505.2)) → (CMulW s505.2 ((r501).den : Int) ∧ (∀ x514 : Int, x514 = (s505.2 * ((r501).den : Int)) → nx507 (x512, x514))))))) (fun (s505 : Int × Int) => (CMulW s505.1 ((r501).den : Int) ∧ (CMulW s505.2 v_self._bottom ∧ (W_Fraction (s505.1 * ((r501).den : Int)) (s505.2 * v_self._bottom) (fun (r519 : Rat) => Q r519) X)))) (List.reverse v_self._tops) ((0 : Int), (1 : Int)))))
def W_L_value (v_pairs_here : (List (Int × Int))) (v_place : (Int × Int)) (Q : (Int × Int) → Prop) : Prop :=
  ((-(2 ^ 62) ≤ (v_pairs_here.length : Int) ∧ (v_pairs_here.length : Int) < 2 ^ 62) ∧ (forW (fun (x535 : Int) (s534 : Int × Int) (nx536 : (Int × Int) → Prop) => (∃ v541 : (Int × Int), atI v_pairs_here (((v_pairs_here.length : Int) - (1 : Int)) - x535) = some v541 ∧ (CMulW s534.1 v_place.1 ∧ (CMulW (s534.1 * v_place.1) v541.2 ∧ (CMulW v541.1 s534.2 ∧ (CMulW (v541.1 * s534.2) v_place.2 ∧ (∀ x543 : Int, x543 = (((s534.1 * v_place.1) * v541.2) + ((v541.1 * s534.2) * v_place.2)) → (CMulW s534.2 v_place.2 ∧ (CMulW (s534.2 * v_place.2) v541.2 ∧ (∀ x545 : Int, x545 = ((s534.2 * v_place.2) * v541.2) → nx536 (x543, x545))))))))))) (fun (s534 : Int × Int) => Q (s534.1, s534.2)) (rngL 0 (v_pairs_here.length : Int).toNat) ((0 : Int), (1 : Int))))
def W_Polynomial_call_2 (v_self : R_Polynomial) (v_x : Int) (Q : Rat → Prop) (X : Exn → Prop) : Prop :=
  (W_as_fraction_2 v_x (fun (r540 : Rat) => (forW (fun (x545 : Int) (s544 : Int × Int) (nx546 : (Int × Int) → Prop) => (CMulW s544.1 ((r540).num) ∧ (CMulW x545 s544.2 ∧ (∀ x551 : Int, x551 = ((s544.1 * (r540).num) + (x545 * s544.2)) → (CMulW s544.2 ((r540).den : Int) ∧ (∀ x553 : Int, x553 = (s544.2 * ((r540).den : Int)) → nx546 (x551, x553))))))) (fun (s544 : Int × Int) => (CMulW s544.1 ((r540).den : Int) ∧ (CMulW s544.2 v_self._bottom ∧ (W_Fraction (s544.1 * ((r540).den : Int)) (s544.2 * v_self._bottom) (fun (r558 : Rat) => Q r558) X)))) (List.reverse v_self._tops) ((0 : Int), (1 : Int)))) X)
def W_Polynomial_init_3 (v_coefficients : Unit) (Q : R_Polynomial → Prop) : Prop :=
  ((([] : List Num).length ≤ 999999) ∧ mapS (fun (x577 : Num) (s578 : (Unit)) nx579 => (W_as_fraction x577 (fun (r586 : Rat) => nx579 r586 ()) (fun _ => False))) ([] : List Num) () (fun ys581 s578 => (∃ n, whileW (fun (s588 : List Rat) (nx589 : (List Rat) → Prop) => (joinW (fun (K591 : Bool → Prop) => (((!List.isEmpty s588) = true → (∃ v598 : Rat, atI s588 (-1 : Int) = some v598 ∧ (W_Fraction_bool v598 (fun (r600 : Bool) => K591 (!r600))))) ∧ ((!List.isEmpty s588) = false → K591 false))) (fun (b594 : Bool) => ((b594 = true → (∃ v603 : Rat, List.getLast? s588 = some v603 ∧ nx589 (List.dropLast s588))) ∧ (b594 = false → (W_common_bottom s588 (fun (r607 : Int) => ((s588.length ≤ 999999) ∧ mapS (fun (x609 : Rat) (s610 : (Unit)) nx611 => (W_over_bottom x609 r607 (fun (r618 : Int) => nx611 r618 ()))) s588 () (fun ys613 s610 => Q ({ _bottom := r607, _tops := ys613 } : R_Polynomial)))))))))) n ys581)))
def W_made (v_tops : (List Int)) (v_bottom : Int) (Q : R_Polynomial → Prop) : Prop :=
  (∃ n, whileW (fun (s633 : List Int) (nx634 : (List Int) → Prop) => (joinW (fun (K636 : Bool → Prop) => (((!List.isEmpty s633) = true → (∃ v641 : Int, atI s633 (-1 : Int) = some v641 ∧ K636 (decide (v641 = (0 : Int))))) ∧ ((!List.isEmpty s633) = false → K636 false))) (fun (b639 : Bool) => ((b639 = true → (∃ v644 : Int, List.getLast? s633 = some v644 ∧ nx634 (List.dropLast s633))) ∧ (b639 = false → (loopW (fun (K652 : (Int) → Prop) => forW (fun (x648 : Int) (s647 : Int) (nx649 : (Int) → Prop) => (((decide (s647 = (1 : Int))) = true → K652 s647) ∧ ((decide (s647 = (1 : Int))) = false → (∀ x655 : Int, x655 = ((Nat.gcd s647.natAbs x648.natAbs : Nat) : Int) → nx649 x655)))) K652 s633 (v_bottom.natAbs : Int)) (fun (s647 : Int) => (joinW (fun (K658 : (Int) → Prop) => (((decide (v_bottom < (0 : Int))) = true → K658 (-s647)) ∧ ((decide (v_bottom < (0 : Int))) = false → K658 s647))) (fun (s657 : Int) => (W_Polynomial_init_3 () (fun (r663 : R_Polynomial) => ((s633.length ≤ 999999) ∧ mapS (fun (x665 : Int) (s666 : (Unit)) nx667 => (CDivW x665 s657 ∧ nx667 (x665 / s657) ())) s633 () (fun ys669 s666 => (CDivW v_bottom s657 ∧ (∀ x672 : Int, x672 = (v_bottom / s657) → Q ({ _bottom := x672, _tops := ys669 } : R_Polynomial)))))))))))))))) n v_tops)
def W_Polynomial_neg (v_self : R_Polynomial) (Q : R_Polynomial → Prop) : Prop :=
  ((v_self._tops.length ≤ 999999) ∧ mapS (fun (x685 : Int) (s686 : (Unit)) nx687 => nx687 (-x685) ()) v_self._tops () (fun ys689 s686 => (W_made ys689 v_self._bottom (fun (r692 : R_Polynomial) => Q r692))))
def W_Polynomial_scaled (v_self : R_Polynomial) (v_number : Rat) (Q : R_Polynomial → Prop) : Prop :=
  (W_as_fraction_3 v_number (fun (r590 : Rat) => ((v_self._tops.length ≤ 999999) ∧ mapS (fun (x601 : Int) (s602 : (Unit)) nx603 => (CMulW x601 ((r590).num) ∧ nx603 (x601 * (r590).num) ())) v_self._tops () (fun ys605 s602 => (CMulW v_self._bottom ((r590).den : Int) ∧ (W_made ys605 (v_self._bottom * ((r590).den : Int)) (fun (r608 : R_Polynomial) => Q r608)))))))
def W_Polynomial_raised (v_self : R_Polynomial) (v_k : Int) (Q : R_Polynomial → Prop) : Prop :=
  ((v_k < 1000000 ∧ -(2 ^ 63) ≤ v_k) ∧ (((List.replicate v_k.toNat (0 : Int)).length + v_self._tops.length ≤ 1000000) ∧ (W_made ((List.replicate v_k.toNat (0 : Int)) ++ v_self._tops) v_self._bottom (fun (r639 : R_Polynomial) => Q r639))))
def W_Polynomial_scaled_2 (v_self : R_Polynomial) (v_number : Int) (Q : R_Polynomial → Prop) (X : Exn → Prop) : Prop :=
  (W_as_fraction_2 v_number (fun (r684 : Rat) => ((v_self._tops.length ≤ 999999) ∧ mapS (fun (x695 : Int) (s696 : (Unit)) nx697 => (CMulW x695 ((r684).num) ∧ nx697 (x695 * (r684).num) ())) v_self._tops () (fun ys699 s696 => (CMulW v_self._bottom ((r684).den : Int) ∧ (W_made ys699 (v_self._bottom * ((r684).den : Int)) (fun (r702 : R_Polynomial) => Q r702)))))) X)
def W_Polynomial_init_4 (v_coefficients : (List Int)) (Q : R_Polynomial → Prop) : Prop :=
  ((v_coefficients.length ≤ 999999) ∧ mapS (fun (x697 : Int) (s698 : (Unit)) nx699 => (W_as_fraction_2 x697 (fun (r706 : Rat) => nx699 r706 ()) (fun _ => False))) v_coefficients () (fun ys701 s698 => (∃ n, whileW (fun (s708 : List Rat) (nx709 : (List Rat) → Prop) => (joinW (fun (K711 : Bool → Prop) => (((!List.isEmpty s708) = true → (∃ v718 : Rat, atI s708 (-1 : Int) = some v718 ∧ (W_Fraction_bool v718 (fun (r720 : Bool) => K711 (!r720))))) ∧ ((!List.isEmpty s708) = false → K711 false))) (fun (b714 : Bool) => ((b714 = true → (∃ v723 : Rat, List.getLast? s708 = some v723 ∧ nx709 (List.dropLast s708))) ∧ (b714 = false → (W_common_bottom s708 (fun (r727 : Int) => ((s708.length ≤ 999999) ∧ mapS (fun (x729 : Rat) (s730 : (Unit)) nx731 => (W_over_bottom x729 r727 (fun (r738 : Int) => nx731 r738 ()))) s708 () (fun ys733 s730 => Q ({ _bottom := r727, _tops := ys733 } : R_Polynomial)))))))))) n ys701)))
def W_Polynomial_power (v_k : Int) (Q : R_Polynomial → Prop) : Prop :=
  ((v_k < 1000000 ∧ -(2 ^ 63) ≤ v_k) ∧ (((List.replicate v_k.toNat (0 : Int)).length + ([(1 : Int)] : List Int).length ≤ 1000000) ∧ (W_Polynomial_init_4 ((List.replicate v_k.toNat (0 : Int)) ++ ([(1 : Int)] : List Int)) (fun (r751 : R_Polynomial) => Q r751))))
def W_Polynomial_init_5 (v_coefficients : (List Num)) (Q : R_Polynomial → Prop) : Prop :=
  ((v_coefficients.length ≤ 999999) ∧ mapS (fun (x735 : Num) (s736 : (Unit)) nx737 => (W_as_fraction x735 (fun (r744 : Rat) => nx737 r744 ()) (fun _ => False))) v_coefficients () (fun ys739 s736 => (∃ n, whileW (fun (s746 : List Rat) (nx747 : (List Rat) → Prop) => (joinW (fun (K749 : Bool → Prop) => (((!List.isEmpty s746) = true → (∃ v756 : Rat, atI s746 (-1 : Int) = some v756 ∧ (W_Fraction_bool v756 (fun (r758 : Bool) => K749 (!r758))))) ∧ ((!List.isEmpty s746) = false → K749 false))) (fun (b752 : Bool) => ((b752 = true → (∃ v761 : Rat, List.getLast? s746 = some v761 ∧ nx747 (List.dropLast s746))) ∧ (b752 = false → (W_common_bottom s746 (fun (r765 : Int) => ((s746.length ≤ 999999) ∧ mapS (fun (x767 : Rat) (s768 : (Unit)) nx769 => (W_over_bottom x767 r765 (fun (r776 : Int) => nx769 r776 ()))) s746 () (fun ys771 s768 => Q ({ _bottom := r765, _tops := ys771 } : R_Polynomial)))))))))) n ys739)))
def W_Polynomial_eq (v_self : R_Polynomial) (v_other : R_Polynomial) (Q : Bool → Prop) : Prop :=
  (((!true) = true → True) ∧ ((!true) = false → (joinW (fun (K792 : Bool → Prop) => (((decide (v_self._tops = v_other._tops)) = true → K792 (decide (v_self._bottom = v_other._bottom))) ∧ ((decide (v_self._tops = v_other._tops)) = false → K792 false))) (fun (b795 : Bool) => Q b795))))
def W_law (v_script : List Int) (Q : Bool → Prop) (X : Exn → Prop) : Prop :=
  (W_L_cell v_script (0 : Int) (fun (r9 : Int) => (CPowW (10 : Int) (9 : Int) ∧ ((0 < ((10 : Int) ^ ((9 : Int)).toNat)) ∧ (∀ x11 : Int, x11 = (r9 % ((10 : Int) ^ ((9 : Int)).toNat)) → ((0 < (8 : Int)) ∧ (W_L_pairs v_script (1 : Int) (x11 % (8 : Int)) (fun (r88 : (List (Int × Int))) => ((r88.length ≤ 999999) ∧ mapS (fun (x91 : (Int × Int)) (s92 : (Unit)) nx93 => (CDivW x11 (8 : Int) ∧ ((0 < (2 : Int)) ∧ (W_L_handed x91 (decide (((x11 / (8 : Int)) % (2 : Int)) = (1 : Int))) (fun (r117 : Num) => nx93 r117 ()) (fun _ => False))))) r88 () (fun ys95 s92 => (W_Polynomial_init ys95 (fun (r202 : R_Polynomial) => (joinW (fun (K205 : (R_Polynomial) → Prop) => (CDivW x11 (16 : Int) ∧ ((0 < (3 : Int)) ∧ (((decide (((x11 / (16 : Int)) % (3 : Int)) = (1 : Int))) = true → (W_Polynomial_init_2 ys95 (fun (r255 : R_Polynomial) => K205 r255))) ∧ ((decide (((x11 / (16 : Int)) % (3 : Int)) = (1 : Int))) = false → K205 r202))))) (fun (s204 : R_Polynomial) => ((r88.length ≤ 999999) ∧ mapS (fun (x258 : (Int × Int)) (s259 : (Unit)) nx260 => (CDivW x11 (8 : Int) ∧ ((0 < (2 : Int)) ∧ (W_L_handed x258 (decide (((x11 / (8 : Int)) % (2 : Int)) = (1 : Int))) (fun (r267 : Num) => nx260 r267 ()) (fun _ => False))))) r88 () (fun ys262 s259 => (joinW (fun (K269 : Bool → Prop) => (((decide ((ys95.length : Int) ≠ (ys262.length : Int))) = true → K269 true) ∧ ((decide ((ys95.length : Int) ≠ (ys262.length : Int))) = false → ((-(2 ^ 62) ≤ (ys95.length : Int) ∧ (ys95.length : Int) < 2 ^ 62) ∧ (((rngL 0 (ys95.length : Int).toNat).length ≤ 999999) ∧ mapS (fun (x344 : Int) (s345 : (Unit)) nx346 => (∃ v351 : Num, atI ys95 x344 = some v351 ∧ (∃ v353 : Num, atI ys262 x344 = some v353 ∧ (joinW (fun (K381 : Bool → Prop) => ((∀ n383 : Int, v351 = Num.i n383 → (joinW (fun (K390 : Bool → Prop) => ((∀ n392 : Int, v353 = Num.i n392 → K390 (decide (n383 = n392))) ∧ (∀ q393 : Rat, v353 = Num.q q393 → (W_Fraction_eq q393 n383 (fun (r397 : Bool) => K390 r397) (fun _ => False))))) (fun (y395 : Bool) => K381 y395))) ∧ (∀ q384 : Rat, v351 = Num.q q384 → (joinW (fun (K403 : Bool → Prop) => ((∀ n405 : Int, v353 = Num.i n405 → (W_Fraction_eq q384 n405 (fun (r410 : Bool) => K403 r410) (fun _ => False))) ∧ (∀ q406 : Rat, v353 = Num.q q406 → (W_Fraction_eq_2 q384 q406 (fun (r412 : Bool) => K403 r412))))) (fun (y408 : Bool) => K381 y408))))) (fun (y386 : Bool) => nx346 y386 ()))))) (rngL 0 (ys95.length : Int).toNat) () (fun ys348 s345 => K269 (!(List.all ys348 id)))))))) (fun (b272 : Bool) => ((b272 = true → Q false) ∧ (b272 = false → (W_Fraction (1 : Int) (2 : Int) (fun (r418 : Rat) => ((List.length ys95 < 1000000) ∧ (W_Fraction (5 : Int) (1 : Int) (fun (r423 : Rat) => (∃ j425 : Nat, ixN (List.length (ys95 ++ [(Num.q r418)])) (0 : Int) = some j425 ∧ (W_L_cut r88 (fun (r444 : (List (Int × Int))) => (W_Polynomial_coefficients s204 (fun (r460 : (List Rat)) => (W_Fraction (1 : Int) (1 : Int) (fun (r466 : Rat) => ((List.length r460 < 1000000) ∧ (W_L_asked s204 r444 (fun (r470 : Bool) => (((!r470) = true → Q false) ∧ ((!r470) = false → (CDivW x11 (48 : Int) ∧ ((0 < (19 : Int)) ∧ (CDivW x11 (912 : Int) ∧ ((0 < (7 : Int)) ∧ (∀ x473 : (Int × Int), x473 = ((((x11 / (48 : Int)) % (19 : Int)) - (9 : Int)), ((1 : Int) + ((x11 / (912 : Int)) % (7 : Int)))) → (W_Fraction x473.1 x473.2 (fun (r508 : Rat) => (W_Polynomial_call s204 r508 (fun (r510 : Rat) => (W_L_value r444 x473 (fun (r514 : (Int × Int)) => (W_L_is r510 r514 (fun (r516 : Bool) => (((!r516) = true → Q false) ∧ ((!r516) = false → (W_Polynomial_call_2 s204 x473.1 (fun (r531 : Rat) => (W_L_value r444 (x473.1, (1 : Int)) (fun (r535 : (Int × Int)) => (W_L_is r531 r535 (fun (r537 : Bool) => (((!r537) = true → Q false) ∧ ((!r537) = false → (W_Polynomial_neg s204 (fun (r551 : R_Polynomial) => ((r444.length ≤ 999999) ∧ mapS (fun (x553 : (Int × Int)) (s554 : (Unit)) nx555 => nx555 ((-x553.1), x553.2) ()) r444 () (fun ys557 s554 => (W_L_asked r551 ys557 (fun (r560 : Bool) => (((!r560) = true → Q false) ∧ ((!r560) = false → ((r444.length ≤ 999999) ∧ mapS (fun (x563 : (Int × Int)) (s564 : (Unit)) nx565 => (CMulW x563.1 x473.1 ∧ (CMulW x563.2 x473.2 ∧ nx565 ((x563.1 * x473.1), (x563.2 * x473.2)) ()))) r444 () (fun ys567 s564 => (W_Fraction x473.1 x473.2 (fun (r605 : Rat) => (W_Polynomial_scaled s204 r605 (fun (r607 : R_Polynomial) => (W_L_cut ys567 (fun (r612 : (List (Int × Int))) => (W_L_asked r607 r612 (fun (r615 : Bool) => (((!r615) = true → Q false) ∧ ((!r615) = false → (CDivW x11 (6384 : Int) ∧ ((0 < (7 : Int)) ∧ (∀ x618 : Int, x618 = ((x11 / (6384 : Int)) % (7 : Int)) → (forW (fun (x623 : Int) (s622 : Unit) (nx624 : (Unit) → Prop) => (W_Polynomial_raised s204 x623 (fun (r647 : R_Polynomial) => ((x623 < 1000000 ∧ -(2 ^ 63) ≤ x623) ∧ (((List.replicate x623.toNat ((0 : Int), (1 : Int))).length + r444.length ≤ 1000000) ∧ (W_L_cut ((List.replicate x623.toNat ((0 : Int), (1 : Int))) ++ r444) (fun (r656 : (List (Int × Int))) => (W_L_asked r647 r656 (fun (r659 : Bool) => (((!r659) = true → Q false) ∧ ((!r659) = false → nx624 ()))))))))))) (fun (s622 : Unit) => ((r444.length ≤ 999999) ∧ mapS (fun (x662 : (Int × Int)) (s663 : (Unit)) nx664 => (CMulW x662.1 x618 ∧ nx664 ((x662.1 * x618), x662.2) ())) r444 () (fun ys666 s663 => (W_Polynomial_scaled_2 s204 x618 (fun (r683 : R_Polynomial) => (W_L_cut ys666 (fun (r688 : (List (Int × Int))) => (W_L_asked r683 r688 (fun (r691 : Bool) => (((!r691) = true → Q false) ∧ ((!r691) = false → (W_Polynomial_power x618 (fun (r705 : R_Polynomial) => ((x618 < 1000000 ∧ -(2 ^ 63) ≤ x618) ∧ (((List.replicate x618.toNat ((0 : Int), (1 : Int))).length + ([((1 : Int), (1 : Int))] : List (Int × Int)).length ≤ 1000000) ∧ (W_L_asked r705 ((List.replicate x618.toNat ((0 : Int), (1 : Int))) ++ ([((1 : Int), (1 : Int))] : List (Int × Int))) (fun (r710 : Bool) => (((!r710) = true → Q false) ∧ ((!r710) = false → (joinW (fun (K713 : Bool → Prop) => (W_Polynomial_init_3 () (fun (r721 : R_Polynomial) => (W_L_asked r721 ([] : List (Int × Int)) (fun (r724 : Bool) => ((r724 = true → (joinW (fun (K726 : Bool → Prop) => (W_L_asked s204 r444 (fun (r731 : Bool) => ((r731 = true → (((List.set (ys95 ++ [(Num.q r418)]) j425 (Num.q r423)).length + (List.map Num.i ([(1 : Int)] : List Int)).length ≤ 1000000) ∧ (W_Polynomial_init_5 ((List.set (ys95 ++ [(Num.q r418)]) j425 (Num.q r423)) ++ (List.map Num.i ([(1 : Int)] : List Int))) (fun (r783 : R_Polynomial) => (W_Polynomial_eq s204 r783 (fun (r797 : Bool) => K726 (!r797))))))) ∧ (r731 = false → K726 false))))) (fun (b729 : Bool) => K713 b729))) ∧ (r724 = false → K713 false))))))) (fun (b716 : Bool) => Q b716))))))))))))))))) X)))) ([x618, ((6 : Int) - x618), x618] : List Int) ()))))))))))))) X)))))))))))))))))) X)))))))) X)) X)))))))))))) X))))))) X))) X)))))))))))))))))))))
end Law

set_option exponentiation.threshold 40000
namespace Law
open PySem L2 Evl Trk Sy
/-! ### tables and sums -/
abbrev tab {α : Type} (n : Nat) (f : Nat → α) : List α := (List.range n).map f
theorem tab_len {α : Type} {n : Nat} {f : Nat → α} : (tab n f).length = n := by simp [tab]
theorem tab_get {α : Type} {n i : Nat} {f : Nat → α} (h : i < n) : (tab n f)[i]? = some (f i) := by
  show ((List.range n).map f)[i]? = _
  rw [List.getElem?_map, List.getElem?_range h]
  rfl
theorem tab_inv {α : Type} {n i : Nat} {f : Nat → α} {x : α} (h : (tab n f)[i]? = some x) : i < n ∧ x = f i := by
  by_cases hi : i < n
  · rw [tab_get hi] at h
    exact ⟨hi, (Option.some.inj h).symm⟩
  · rw [List.getElem?_eq_none (by rw [tab_len]; omega)] at h
    cases h
theorem tab_snoc {α : Type} {n : Nat} {f : Nat → α} : tab (n + 1) f = tab n f ++ [f n] := by
  show (List.range (n + 1)).map f = _
  rw [List.range_succ, List.map_append]
  rfl
theorem tab_congr {α : Type} {n : Nat} {f g : Nat → α} (h : ∀ i, i < n → f i = g i) : tab n f = tab n g := List.map_congr_left fun i hi => h i (List.mem_range.mp hi)
theorem tab_set {α : Type} {n i : Nat} {f : Nat → α} {x : α} : (tab n f).set i x = tab n (fun k => if k = i then x else f k) := by
  apply List.ext_getElem?
  intro j
  rw [List.getElem?_set]
  by_cases hj : j < n
  · rw [tab_get hj]
    by_cases e : i = j
    · subst e
      simp [tab_len, hj]
    · rw [if_neg e, tab_get hj, if_neg (Ne.symm e)]
  · rw [List.getElem?_eq_none (by rw [tab_len]; omega), List.getElem?_eq_none (by rw [tab_len]; omega)]
    simp [tab_len]
    omega
theorem tab_map {α β : Type} {n : Nat} {f : Nat → α} {g : α → β} : (tab n f).map g = tab n fun i => g (f i) := by
  show ((List.range n).map f).map g = _
  rw [List.map_map]
  rfl
theorem tab_mem {α : Type} {n : Nat} {f : Nat → α} {x : α} (h : x ∈ tab n f) : ∃ i, i < n ∧ x = f i := by
  obtain ⟨i, hi, rfl⟩ := List.mem_map.mp h
  exact ⟨i, List.mem_range.mp hi, rfl⟩
theorem tab_rep {α : Type} {n : Nat} {x : α} : List.replicate n x = tab n fun _ => x := by
  apply List.ext_getElem?
  intro j
  by_cases hj : j < n
  · rw [tab_get hj, List.getElem?_replicate, if_pos hj]
  · rw [List.getElem?_eq_none (by simp; omega), List.getElem?_eq_none (by rw [tab_len]; omega)]
theorem tab_cut {α : Type} {n a k : Nat} {f : Nat → α} (h : a + k ≤ n) : ((tab n f).drop a).take k = tab k fun j => f (a + j) := by
  apply List.ext_getElem?
  intro j
  rw [List.getElem?_take]
  by_cases hj : j < k
  · rw [if_pos hj, List.getElem?_drop, tab_get (by omega), tab_get hj]
  · rw [if_neg hj, List.getElem?_eq_none (by rw [tab_len]; omega)]
theorem tab_zip {α β : Type} {n : Nat} {f : Nat → α} {g : Nat → β} : List.zip (tab n f) (tab n g) = tab n fun i => (f i, g i) := by
  apply List.ext_getElem?
  intro j
  rw [zip_get]
  by_cases hj : j < n
  · rw [tab_get hj, tab_get hj, tab_get hj]
    rfl
  · rw [List.getElem?_eq_none (by rw [tab_len]; omega), List.getElem?_eq_none (l := tab n fun i => (f i, g i)) (by rw [tab_len]; omega)]
    rfl
theorem atI_tab {α : Type} {n i : Nat} {f : Nat → α} (h : i < n) : atI (tab n f) (i : Int) = some (f i) := Sy.atI_nat (tab_get h)
def sm : Nat → (Nat → Int) → Int
  | 0, _ => 0
  | n + 1, f => sm n f + f n
theorem sm_congr {f g : Nat → Int} : ∀ {n : Nat}, (∀ i, i < n → f i = g i) → sm n f = sm n g
  | 0, _ => rfl
  | n + 1, h => by
    show sm n f + f n = sm n g + g n
    rw [sm_congr fun i hi => h i (by omega), h n (by omega)]
theorem sm_add {f g : Nat → Int} : ∀ {n : Nat}, sm n (fun i => f i + g i) = sm n f + sm n g
  | 0 => rfl
  | n + 1 => by
    show sm n (fun i => f i + g i) + (f n + g n) = sm n f + f n + (sm n g + g n)
    rw [sm_add]
    omega
theorem sm_mul {f : Nat → Int} {c : Int} : ∀ {n : Nat}, sm n (fun i => c * f i) = c * sm n f
  | 0 => by simp [sm]
  | n + 1 => by
    show sm n (fun i => c * f i) + c * f n = c * (sm n f + f n)
    rw [sm_mul, Int.mul_add]
theorem sm_zero : ∀ {n : Nat}, sm n (fun _ => 0) = 0
  | 0 => rfl
  | n + 1 => by
    show sm n (fun _ => 0) + 0 = 0
    rw [sm_zero]
    rfl
theorem sm_swap {m : Nat} {f : Nat → Nat → Int} : ∀ {n : Nat}, sm n (fun i => sm m (f i)) = sm m fun j => sm n fun i => f i j
  | 0 => by
    show (0 : Int) = sm m fun j => 0
    rw [sm_zero]
  | n + 1 => by
    show sm n (fun i => sm m (f i)) + sm m (f n) = sm m fun j => (sm n (fun i => f i j) + f n j)
    rw [sm_swap, sm_add]
theorem sm_tab {f : Nat → Int} : ∀ {n : Nat}, List.sum (tab n f) = sm n f
  | 0 => rfl
  | n + 1 => by
    rw [tab_snoc, List.sum_append, sm_tab]
    show sm n f + (f n + 0) = sm n f + f n
    omega
theorem sm_nonneg {f : Nat → Int} : ∀ {n : Nat}, (∀ i, i < n → 0 ≤ f i) → 0 ≤ sm n f
  | 0, _ => Int.le_refl 0
  | n + 1, h => Int.add_nonneg (sm_nonneg fun i hi => h i (by omega)) (h n (by omega))
theorem sm_le {f : Nat → Int} {c : Int} : ∀ {n : Nat}, (∀ i, i < n → f i ≤ c) → sm n f ≤ n * c
  | 0, _ => by simp [sm]
  | n + 1, h => by
    show sm n f + f n ≤ ((n + 1 : Nat) : Int) * c
    have := sm_le (n := n) fun i hi => h i (by omega)
    have := h n (by omega)
    rw [show ((n + 1 : Nat) : Int) * c = n * c + c by rw [Int.natCast_add, Int.add_mul]; simp]
    omega
theorem sm_abs {f : Nat → Int} {c : Nat} : ∀ {n : Nat}, (∀ i, i < n → (f i).natAbs ≤ c) → (sm n f).natAbs ≤ n * c
  | 0, _ => by simp [sm]
  | n + 1, h => by
    show (sm n f + f n).natAbs ≤ (n + 1) * c
    have h1 := sm_abs (n := n) fun i hi => h i (by omega)
    have h2 := h n (by omega)
    have h3 := Int.natAbs_add_le (sm n f) (f n)
    rw [Nat.add_mul]
    omega
/-! ### numbers that the script holds -/
theorem lt1000 {n a : Nat} (h : n < 2 ^ a) (h2 : a ≤ 1000) : n < 2 ^ 1000 := Nat.lt_of_lt_of_le h (Nat.pow_le_pow_right (by decide) h2)
theorem cell_ok {ns : List Int} {k : Nat} {Q : Int → Prop} (h : ∀ v, Q v) : W_L_cell ns (k : Int) Q := by
  unfold W_L_cell
  refine ⟨fun ht => ?_, fun _ => h _⟩
  have hk : k < ns.length := by have := of_decide_eq_true ht; omega
  exact ⟨_, Sy.atI_nat (List.getElem?_eq_getElem hk), h _⟩
theorem toNat_rng {n : Nat} : ((n : Int)).toNat = n := Int.toNat_natCast n
theorem row_ok {c : Int} {span many : Nat} {Q : List Int → Prop} (hs : 0 < span) (hs2 : span ≤ 10000) (hm : many ≤ 1000) (h : ∀ f : Nat → Int, (∀ i, 0 ≤ f i ∧ f i < span) → Q (tab many f)) : W_L_row c (span : Int) (many : Int) Q := by
  unfold W_L_row
  refine ⟨cpow_of (by decide) (by decide) (by decide), fun great hg => ⟨⟨by omega, by omega⟩, ?_⟩⟩
  rw [toNat_rng]
  have hsi : (0 : Int) < (span : Int) := by omega
  refine forW_of (fun i s => ∃ f : Nat → Int, (∀ j, 0 ≤ f j ∧ f j < span) ∧ s.2 = tab i f ∧ (great = false → s.1.natAbs < 10 ^ 18)) ⟨fun _ => 0, fun _ => ⟨Int.le_refl 0, hsi⟩, rfl, fun z => ?_⟩ ?_ ?_
  · subst hg
    have := of_decide_eq_false z
    have e : ((10 : Int) ^ ((18 : Int)).toNat) = 10 ^ 18 := rfl
    rw [e] at this
    show (c.natAbs : Int).natAbs < 10 ^ 18
    omega
  · rintro i x ⟨a, l⟩ nx hx ⟨f, hf, hl, hz⟩ hn
    obtain ⟨hi, rfl⟩ := rngL_get hx
    dsimp only at hl hz
    subst hl
    have snoc : ∀ v : Int, tab i f ++ [v % (span : Int)] = tab (i + 1) (fun k => if k = i then v % (span : Int) else f k) := fun v => by
      rw [tab_snoc, if_pos rfl]
      congr 1
      exact tab_congr fun j hj => by rw [if_neg (by omega)]
    have good : ∀ v : Int, ∀ j, 0 ≤ (if j = i then v % (span : Int) else f j) ∧ (if j = i then v % (span : Int) else f j) < span := fun v j => by
      split
      · exact ⟨Int.emod_nonneg _ (by omega), Int.emod_lt_of_pos _ hsi⟩
      · exact hf j
    refine joinW_of ⟨fun ht => ⟨hsi, by show (tab i f).length < 1000000; rw [tab_len]; omega, divS hsi (by omega), fun y hy => hn _ ⟨_, good a, snoc a, fun z => by rw [ht] at z; cases z⟩⟩, fun ht => ?_⟩
    · have hb : a.natAbs < 10 ^ 18 := hz ht
      have big : (10 : Nat) ^ 18 < 2 ^ 60 := by decide
      have m1 : (0 : Int) + (i : Int) = (i : Int) := Int.zero_add _
      refine ⟨mulS (by omega) (by omega), mulS (by omega) (by omega), cpow_of (by decide) (by decide) (lt1000 (a := 80) (by omega) (by decide)), by decide, fun y hy => ?_⟩
      have hy1 : 0 ≤ y ∧ y < 2147483647 := by
        subst hy
        exact ⟨Int.emod_nonneg _ (by decide), Int.emod_lt_of_pos _ (by decide)⟩
      refine ⟨mulS (by omega) (by omega), mulS (by omega) (by omega), cpow_of (by decide) (by decide) (lt1000 (a := 80) (by omega) (by decide)), by decide, fun z hz' => ⟨hsi, by show (tab i f).length < 1000000; rw [tab_len]; omega, hn _ ⟨_, good z, snoc z, fun _ => hb⟩⟩⟩
  · rintro ⟨a, l⟩ ⟨f, hf, hl, _⟩
    rw [rngL_len] at hl
    dsimp only at hl
    rw [show (a, l).2 = l from rfl, hl]
    exact h f hf
theorem cell_okI {ns : List Int} {k : Int} {Q : Int → Prop} (hk : 0 ≤ k) (h : ∀ v, Q v) : W_L_cell ns k Q := by
  obtain ⟨n, rfl⟩ := Int.eq_ofNat_of_zero_le hk
  exact cell_ok h
theorem row_okI {c span many : Int} {Q : List Int → Prop} (hs : 0 < span) (hs2 : span ≤ 10000) (hm0 : 0 ≤ many) (hm : many ≤ 1000) (h : ∀ f : Nat → Int, (∀ i, 0 ≤ f i ∧ f i < span) → Q (tab many.toNat f)) : W_L_row c span many Q := by
  obtain ⟨n, rfl⟩ := Int.eq_ofNat_of_zero_le hm0
  obtain ⟨m, rfl⟩ := Int.eq_ofNat_of_zero_le (Int.le_of_lt hs)
  exact row_ok (by omega) (by omega) (by omega) h
theorem frac_ok {a b : Int} {Q : Rat → Prop} {X : Exn → Prop} (h0 : b ≠ 0) (hb : b.natAbs < 2 ^ 8900) (hq : Q (Rat.divInt a b)) : W_Fraction a b Q X := ⟨fun _ => ⟨hb, hq⟩, fun z => absurd z h0⟩
theorem mapS_tab {α β : Type} {g : α → Unit → (β → Unit → Prop) → Prop} {K : List β → Unit → Prop} {n : Nat} {f : Nat → α} (v : Nat → β) (hs : ∀ i, i < n → ∀ nx : β → Unit → Prop, nx (v i) () → g (f i) () nx) (hk : K (tab n v) ()) : mapS g (tab n f) () K := by
  have aux : ∀ (is : List Nat) (K : List β → Unit → Prop), (∀ i ∈ is, i < n) → K (is.map v) () → mapS g (is.map f) () K := by
    intro is
    induction is with
    | nil => intro K _ hk; exact hk
    | cons i is ih => intro K hi hk; exact hs i (hi i List.mem_cons_self) _ (ih _ (fun j hj => hi j (List.mem_cons_of_mem _ hj)) hk)
  exact aux _ K (fun i hi => List.mem_range.mp hi) hk
theorem den_dvd' {a b : Int} (h : 0 < b) : ((Rat.divInt a b).den : Int) ∣ b := by
  have e := bottom_eq (a := a) (b := b) (by omega)
  rw [← e]
  have hc : cmn a b = ((Nat.gcd a.natAbs b.natAbs : Nat) : Int) := by
    unfold cmn
    rw [if_neg (by omega)]
  have hd : cmn a b ∣ b := by
    rw [hc]
    have : ((Nat.gcd a.natAbs b.natAbs : Nat) : Int) ∣ (b.natAbs : Int) := Int.natCast_dvd_natCast.mpr (Nat.gcd_dvd_right _ _)
    rwa [Int.natAbs_of_nonneg (by omega)] at this
  exact ⟨cmn a b, (Int.fdiv_mul_cancel hd).symm⟩
theorem num_den {a b : Int} (h : b ≠ 0) : (Rat.divInt a b).num * b = a * ((Rat.divInt a b).den : Int) := by
  have e : Rat.divInt (Rat.divInt a b).num ((Rat.divInt a b).den : Int) = Rat.divInt a b := Rat.num_divInt_den _
  have d0 : ((Rat.divInt a b).den : Int) ≠ 0 := by
    have := (Rat.divInt a b).den_pos
    omega
  exact (Rat.divInt_eq_divInt_iff d0 h).mp e
theorem pow_lt {a b : Nat} (h : a < b) : 2 ^ a < 2 ^ b := Nat.pow_lt_pow_right (by decide) h
theorem num_le {a b : Int} (h : 0 < b) : (Rat.divInt a b).num.natAbs ≤ a.natAbs := by
  have e := num_den (a := a) (b := b) (by omega)
  have e2 : (Rat.divInt a b).num.natAbs * b.natAbs = a.natAbs * (Rat.divInt a b).den := by
    have := congrArg Int.natAbs e
    rw [Int.natAbs_mul, Int.natAbs_mul] at this
    exact this
  have hd : (Rat.divInt a b).den ≤ b.natAbs := by
    have := Int.le_of_dvd h (den_dvd' (a := a) h)
    omega
  refine Nat.le_of_mul_le_mul_right (c := b.natAbs) ?_ (by omega)
  rw [e2]
  exact Nat.mul_le_mul_left _ hd
theorem den_le {a b : Int} (h : 0 < b) : (Rat.divInt a b).den ≤ b.natAbs := by
  have := Int.le_of_dvd h (den_dvd' (a := a) h)
  omega
theorem nab {x y : Int} {a b : Nat} (hx : x.natAbs ≤ 2 ^ a) (hy : y.natAbs ≤ 2 ^ b) : (x * y).natAbs ≤ 2 ^ (a + b) := by
  rw [Int.natAbs_mul, Nat.pow_add]
  exact Nat.mul_le_mul hx hy
theorem nadd {x y : Int} {a : Nat} (hx : x.natAbs ≤ 2 ^ a) (hy : y.natAbs ≤ 2 ^ a) : (x + y).natAbs ≤ 2 ^ (a + 1) := by
  have := Int.natAbs_add_le x y
  rw [Nat.pow_succ]
  omega
theorem nup {x : Int} {a b : Nat} (hx : x.natAbs ≤ 2 ^ a) (h : a ≤ b) : x.natAbs ≤ 2 ^ b := Nat.le_trans hx (Nat.pow_le_pow_right (by decide) h)
theorem mulB {x y : Int} {a b : Nat} (hx : x.natAbs ≤ 2 ^ a) (hy : y.natAbs ≤ 2 ^ b) (ha : a < 30000 := by omega) (hb : b < 30000 := by omega) : CMulW x y := mulW_of (a := 30000) (Nat.lt_of_le_of_lt hx (pow_lt ha)) (Nat.lt_of_le_of_lt hy (pow_lt hb)) (by decide) (by decide)
theorem tab_app {α : Type} {f g : Nat → α} : ∀ {a b : Nat}, tab a f ++ tab b g = tab (a + b) fun i => if i < a then f i else g (i - a)
  | a, 0 => by
    show tab a f ++ [] = _
    rw [List.append_nil]
    exact tab_congr fun i hi => by rw [if_pos hi]
  | a, b + 1 => by
    rw [tab_snoc, ← List.append_assoc, tab_app]
    show _ = tab (a + b + 1) _
    rw [tab_snoc]
    congr 2
    rw [if_neg (by omega), Nat.add_sub_cancel_left]
theorem tab_push {α : Type} {n : Nat} {f : Nat → α} {y : α} : tab n f ++ [y] = tab (n + 1) fun i => if i < n then f i else y := by
  have := tab_app (a := n) (b := 1) (f := f) (g := fun _ => y)
  rw [← this]
  rfl
theorem rng_tab {n : Nat} : rngL 0 n = tab n fun i : Nat => (i : Int) := List.map_congr_left fun i _ => Int.zero_add _
end Law

set_option exponentiation.threshold 40000
namespace Law
open PySem L2 Evl Trk Sy
theorem common_ok {xs : List Rat} {N : Int} {Q : Int → Prop} (hN : 0 < N) (hN2 : N < 2 ^ 63) (hx : ∀ x ∈ xs, (x.den : Int) ∣ N) (hq : ∀ s : Int, 0 < s → s ∣ N → (∀ x ∈ xs, (x.den : Int) ∣ s) → Q s) : W_common_bottom xs Q := by
  unfold W_common_bottom
  refine forW_of (fun i s => 0 < s ∧ s ∣ N ∧ ∀ j x, j < i → xs[j]? = some x → (x.den : Int) ∣ s) ⟨by decide, ⟨N, by omega⟩, fun j x hj => by omega⟩ ?_ ?_
  · rintro i x s nx hxi ⟨h1, h2, h3⟩ hn
    have hm := hx x (List.mem_of_getElem? hxi)
    have hs : s ≤ N := Int.le_of_dvd hN h2
    have hd : (x.den : Int) ≤ N := Int.le_of_dvd hN hm
    have hd0 : 0 < x.den := x.den_pos
    refine ⟨⟨by omega, by omega⟩, fun y hy => hn _ ?_⟩
    have e1 : (s.natAbs : Int) = s := Int.natAbs_of_nonneg (by omega)
    have e2 : ((x.den : Int)).natAbs = x.den := rfl
    have hl : y = ((Nat.lcm s.natAbs x.den : Nat) : Int) := hy
    have d1 : s ∣ y := by
      rw [hl, ← e1]
      exact Int.natCast_dvd_natCast.mpr (Nat.dvd_lcm_left _ _)
    have d2 : (x.den : Int) ∣ y := by
      rw [hl]
      exact Int.natCast_dvd_natCast.mpr (Nat.dvd_lcm_right _ _)
    refine ⟨?_, ?_, fun j z hj hz => ?_⟩
    · rw [hl]
      have := Nat.lcm_pos (m := s.natAbs) (n := x.den) (by omega) hd0
      omega
    · rw [hl]
      have eN : (N.natAbs : Int) = N := Int.natAbs_of_nonneg (by omega)
      rw [← eN]
      refine Int.natCast_dvd_natCast.mpr (Nat.lcm_dvd ?_ ?_)
      · exact Int.natAbs_dvd_natAbs.mpr h2
      · have := Int.natAbs_dvd_natAbs.mpr hm
        exact this
    · by_cases e : j = i
      · subst e
        rw [hxi] at hz
        cases hz
        exact d2
      · exact Int.dvd_trans (h3 j z (by omega) hz) d1
  · rintro s ⟨h1, h2, h3⟩
    refine hq s h1 h2 fun x hx => ?_
    obtain ⟨j, hj, rfl⟩ := List.mem_iff_getElem.mp hx
    exact h3 j _ hj (List.getElem?_eq_getElem hj)
/-! ### zeros at the end -/
def tl (z : Nat → Bool) : Nat → Nat
  | 0 => 0
  | n + 1 => if z n then tl z n else n + 1
theorem tl_le {z : Nat → Bool} : ∀ {n : Nat}, tl z n ≤ n
  | 0 => Nat.le_refl 0
  | n + 1 => by
    unfold tl
    split
    · have := tl_le (z := z) (n := n)
      omega
    · exact Nat.le_refl _
theorem tl_tl {z : Nat → Bool} : ∀ {n : Nat}, tl z (tl z n) = tl z n
  | 0 => rfl
  | n + 1 => by
    by_cases h : z n = true
    · have e : tl z (n + 1) = tl z n := if_pos h
      rw [e, tl_tl]
    · have e : tl z (n + 1) = n + 1 := if_neg h
      rw [e, e]
theorem tl_congr {z y : Nat → Bool} : ∀ {n : Nat}, (∀ k, k < n → z k = y k) → tl z n = tl y n
  | 0, _ => rfl
  | n + 1, h => by
    unfold tl
    rw [h n (by omega), tl_congr fun k hk => h k (by omega)]
theorem while_trim {S : Type} {st : Nat → S} {z : Nat → Bool} {tb : S → (S → Prop) → Prop} {E : Nat → Prop} {N : Nat} (h0 : ∀ nx, E 0 → tb (st 0) nx) (hs : ∀ k nx, k < N → z k = true → nx (st k) → tb (st (k + 1)) nx) (he : ∀ k nx, k < N → z k = false → E (k + 1) → tb (st (k + 1)) nx) : ∀ n : Nat, n ≤ N → E (tl z n) → ∃ m, whileW tb m (st n)
  | 0, _, hE => ⟨1, h0 _ hE⟩
  | n + 1, hN, hE => by
    by_cases h : z n = true
    · have e : tl z (n + 1) = tl z n := if_pos h
      rw [e] at hE
      obtain ⟨m, hm⟩ := while_trim h0 hs he n (by omega) hE
      exact ⟨m + 1, hs n _ (by omega) h hm⟩
    · have e : tl z (n + 1) = n + 1 := if_neg h
      rw [e] at hE
      exact ⟨1, he n _ (by omega) (by simpa using h) hE⟩
theorem last_tab {α : Type} {n : Nat} {f : Nat → α} : (tab (n + 1) f).getLast? = some (f n) ∧ (tab (n + 1) f).dropLast = tab n f := by
  rw [tab_snoc]
  simp
theorem at_last {α : Type} {n : Nat} {f : Nat → α} : atI (tab (n + 1) f) (-1 : Int) = some (f n) := by
  unfold atI ixN
  rw [tab_len]
  rw [if_neg (by omega), if_pos (by omega)]
  show (tab (n + 1) f)[_]? = _
  rw [show ((-1 : Int) + ((n + 1 : Nat) : Int)).toNat = n by omega]
  exact tab_get (by omega)
theorem emp_tab {α : Type} {n : Nat} {f : Nat → α} : (tab (n + 1) f).isEmpty = false := by
  rw [tab_snoc]
  simp
/-! ### what a polynomial is -/
abbrev zc (c : Nat → Int × Int) (k : Nat) : Bool := decide ((c k).1 = 0)
abbrev qc (c : Nat → Int × Int) (k : Nat) : Rat := Rat.divInt (c k).1 (c k).2
structure PolyIs (p : R_Polynomial) (n : Nat) (c : Nat → Int × Int) : Prop where
  b : 0 < p._bottom ∧ p._bottom.natAbs ≤ 2 ^ 40
  t : ∃ tp : Nat → Int, p._tops = tab n tp ∧ ∀ k, k < n → (tp k).natAbs ≤ 2 ^ 40 ∧ Rat.divInt (tp k) p._bottom = qc c k
structure Low (p : R_Polynomial) : Prop where
  b : p._bottom.natAbs ≤ 2 ^ 30
  t : ∀ x ∈ p._tops, x.natAbs ≤ 2 ^ 30
theorem zero_iff {a b u v : Int} (hb : b ≠ 0) (hv : v ≠ 0) (h : Rat.divInt a b = Rat.divInt u v) : (a = 0 ↔ u = 0) := by
  rw [Rat.divInt_eq_divInt_iff hb hv] at h
  constructor
  · intro z
    subst z
    rw [Int.zero_mul] at h
    rcases Int.mul_eq_zero.mp h.symm with z | z
    · exact z
    · exact absurd z hb
  · intro z
    subst z
    rw [Int.zero_mul] at h
    rcases Int.mul_eq_zero.mp h with z | z
    · exact z
    · exact absurd z hv
/-! ### of a list of numbers -/
def Nv (y : Num) (c : Int × Int) : Prop := (∃ m : Int, y = .i m ∧ Rat.divInt m 1 = Rat.divInt c.1 c.2) ∨ y = .q (Rat.divInt c.1 c.2)
structure Sm (c : Int × Int) : Prop where
  d : 0 < c.2 ∧ c.2 ∣ 2520
  n : c.1.natAbs ≤ 2 ^ 10
theorem asf_ok {y : Num} {c : Int × Int} {Q : Rat → Prop} {X : Exn → Prop} (h : Nv y c) (hq : Q (Rat.divInt c.1 c.2)) : W_as_fraction y Q X := by
  refine ⟨fun n e => ⟨fun z => Bool.noConfusion z, fun _ => frac_ok (by decide) (by decide) ?_⟩, fun q e => ⟨fun _ => ?_, fun z => Bool.noConfusion z⟩⟩
  · subst e
    rcases h with ⟨m, h1, h2⟩ | h1
    · cases h1; rw [h2]; exact hq
    · cases h1
  · subst e
    rcases h with ⟨m, h1, h2⟩ | h1
    · cases h1
    · cases h1; exact hq
theorem den2520 {c : Int × Int} (h : Sm c) : ((Rat.divInt c.1 c.2).den : Int) ∣ 2520 := Int.dvd_trans (den_dvd' h.d.1) h.d.2
theorem num_zero {a b : Int} (hb : b ≠ 0) : ((Rat.divInt a b).num != 0) = !decide (a = 0) := by
  have h := zero_iff (a := (Rat.divInt a b).num) (b := ((Rat.divInt a b).den : Int)) (u := a) (v := b) (by have := (Rat.divInt a b).den_pos; omega) hb (Rat.num_divInt_den _)
  by_cases z : a = 0
  · rw [decide_eq_true z, h.mpr z]; rfl
  · rw [decide_eq_false z]
    have : (Rat.divInt a b).num ≠ 0 := fun q => z (h.mp q)
    simp [this]
/-- what stands behind the fractions of a list -/
theorem kept_ok {n : Nat} {c : Nat → Int × Int} {Q : R_Polynomial → Prop} (hn : n ≤ 100) (hc : ∀ k, k < n → Sm (c k)) (hq : ∀ p, PolyIs p n c ∧ Low p → Q p) :
    W_common_bottom (tab n (qc c)) (fun s => ((tab n (qc c)).length ≤ 999999) ∧ mapS (fun (x : Rat) (_ : Unit) nx => (W_over_bottom x s (fun (r : Int) => nx r ()))) (tab n (qc c)) () (fun ys _ => Q ({ _bottom := s, _tops := ys } : R_Polynomial))) := by
  refine common_ok (N := 2520) (by decide) (by decide) (fun x hx => ?_) fun s h0 h1 h2 => ⟨by rw [tab_len]; omega, ?_⟩
  · obtain ⟨k, hk, rfl⟩ := tab_mem hx
    exact den2520 (hc k hk)
  have hs : s ≤ 2520 := Int.le_of_dvd (by decide) h1
  have one : ∀ k, k < n → (((qc c k).num * (s / ((qc c k).den : Int))).natAbs ≤ 2 ^ 22 ∧ (s / ((qc c k).den : Int)).natAbs ≤ 2 ^ 12) ∧ Rat.divInt ((qc c k).num * (s / ((qc c k).den : Int))) s = qc c k := fun k hk => by
    have hd : 0 < ((qc c k).den : Int) := by have := (qc c k).den_pos; omega
    obtain ⟨e, he⟩ := h2 _ (List.mem_iff_getElem?.mpr ⟨k, tab_get hk⟩)
    have e1 : s / ((qc c k).den : Int) = e := by rw [he, Int.mul_ediv_cancel_left _ (by omega)]
    have epos : 0 < e := by
      rcases Int.lt_or_le 0 e with z | z
      · exact z
      · have := Int.mul_nonpos_of_nonneg_of_nonpos (Int.le_of_lt hd) z
        omega
    have ele : e ≤ s := by
      rw [he]
      have := Int.mul_le_mul_of_nonneg_right (show (1 : Int) ≤ ((qc c k).den : Int) by omega) (Int.le_of_lt epos)
      omega
    rw [e1]
    have a1 : (qc c k).num.natAbs ≤ 2 ^ 10 := Nat.le_trans (num_le (hc k hk).d.1) (hc k hk).n
    have a2 : e.natAbs ≤ 2 ^ 12 := by omega
    refine ⟨⟨nab a1 a2, a2⟩, ?_⟩
    conv => lhs; rw [he]
    rw [Rat.divInt_mul_right (by omega), Rat.num_divInt_den]
  refine mapS_tab (fun k => (qc c k).num * (s / ((qc c k).den : Int))) (fun k hk nx hx => ⟨?_, ?_, hx⟩) (hq _ ⟨⟨⟨h0, by show s.natAbs ≤ _; omega⟩, _, rfl, fun k hk => ⟨nup (one k hk).1.1 (by decide), (one k hk).2⟩⟩, ⟨by show s.natAbs ≤ _; omega, fun x hx => by
    obtain ⟨k, hk, rfl⟩ := tab_mem hx
    exact nup (one k hk).1.1 (by decide)⟩⟩)
  · have hd : 0 < ((qc c k).den : Int) := by have := (qc c k).den_pos; omega
    have := Int.le_of_dvd (by decide) (den2520 (hc k hk))
    have e20 : (2 : Nat) ^ 20 = 1048576 := by decide
    refine wide_div hd (b := 20) ?_ (by decide) (by decide)
    show ((Rat.divInt (c k).1 (c k).2).den : Int).natAbs < _
    omega
  · have a1 : (qc c k).num.natAbs ≤ 2 ^ 10 := Nat.le_trans (num_le (hc k hk).d.1) (hc k hk).n
    exact mulB a1 (one k hk).1.2
theorem init_ok {n : Nat} {nm : Nat → Num} {c : Nat → Int × Int} {Q : R_Polynomial → Prop} (hn : n ≤ 100) (hv : ∀ k, k < n → Nv (nm k) (c k)) (hc : ∀ k, k < n → Sm (c k)) (hq : ∀ p, PolyIs p (tl (zc c) n) c ∧ Low p → Q p) : W_Polynomial_init (tab n nm) Q := by
  unfold W_Polynomial_init
  refine ⟨by rw [tab_len]; omega, mapS_tab (qc c) (fun k hk nx hx => asf_ok (hv k hk) hx) ?_⟩
  refine while_trim (st := fun k => tab k (qc c)) (z := zc c) (N := n) (E := fun k => k ≤ n ∧ ∀ p, PolyIs p k c ∧ Low p → Q p) (fun nx hE => ?_) (fun k nx hk hz hx => ?_) (fun k nx hk hz hE => ?_) n (Nat.le_refl n) ⟨tl_le, hq⟩
  · exact ⟨fun h => Bool.noConfusion h, fun _ => ⟨fun z => Bool.noConfusion z, fun _ => kept_ok (n := 0) (c := c) (by decide) (fun k hk => by omega) hE.2⟩⟩
  all_goals
    have e : (!((qc c k).num != 0)) = zc c k := by
      show (!((Rat.divInt (c k).1 (c k).2).num != 0)) = _
      rw [num_zero (Int.ne_of_gt (hc k hk).d.1), Bool.not_not]
    refine ⟨fun _ => ⟨_, at_last, ?_⟩, fun h => ?_⟩
    rotate_left
    · rw [emp_tab] at h
      cases h
    show ((!((qc c k).num != 0)) = true → _) ∧ (_ = false → _)
    rw [e, hz]
  · exact ⟨fun _ => ⟨_, last_tab.1, by rw [last_tab.2]; exact hx⟩, fun z => Bool.noConfusion z⟩
  · exact ⟨fun z => Bool.noConfusion z, fun _ => kept_ok (by have := hE.1; omega) (fun j hj => hc j (by have := hE.1; omega)) hE.2⟩
theorem init_4_ok {n : Nat} {nm : Nat → Int} {c : Nat → Int × Int} {Q : R_Polynomial → Prop} (hn : n ≤ 100) (hv : ∀ k, k < n → Rat.divInt (nm k) 1 = qc c k) (hc : ∀ k, k < n → Sm (c k)) (hq : ∀ p, PolyIs p (tl (zc c) n) c ∧ Low p → Q p) : W_Polynomial_init_4 (tab n nm) Q := by
  unfold W_Polynomial_init_4
  refine ⟨by rw [tab_len]; omega, mapS_tab (qc c) (fun k hk nx hx => ⟨fun z => Bool.noConfusion z, fun _ => frac_ok (by decide) (by decide) (by rw [hv k hk]; exact hx)⟩) ?_⟩
  refine while_trim (st := fun k => tab k (qc c)) (z := zc c) (N := n) (E := fun k => k ≤ n ∧ ∀ p, PolyIs p k c ∧ Low p → Q p) (fun nx hE => ?_) (fun k nx hk hz hx => ?_) (fun k nx hk hz hE => ?_) n (Nat.le_refl n) ⟨tl_le, hq⟩
  · exact ⟨fun h => Bool.noConfusion h, fun _ => ⟨fun z => Bool.noConfusion z, fun _ => kept_ok (n := 0) (c := c) (by decide) (fun k hk => by omega) hE.2⟩⟩
  all_goals
    have e : (!((qc c k).num != 0)) = zc c k := by
      show (!((Rat.divInt (c k).1 (c k).2).num != 0)) = _
      rw [num_zero (Int.ne_of_gt (hc k hk).d.1), Bool.not_not]
    refine ⟨fun _ => ⟨_, at_last, ?_⟩, fun h => ?_⟩
    rotate_left
    · rw [emp_tab] at h
      cases h
    show ((!((qc c k).num != 0)) = true → _) ∧ (_ = false → _)
    rw [e, hz]
  · exact ⟨fun _ => ⟨_, last_tab.1, by rw [last_tab.2]; exact hx⟩, fun z => Bool.noConfusion z⟩
  · exact ⟨fun z => Bool.noConfusion z, fun _ => kept_ok (by have := hE.1; omega) (fun j hj => hc j (by have := hE.1; omega)) hE.2⟩
theorem init2 : @W_Polynomial_init_2 = @W_Polynomial_init := rfl
theorem init5 : @W_Polynomial_init_5 = @W_Polynomial_init := rfl
theorem init3_ok {u : Unit} {Q : R_Polynomial → Prop} (hq : ∀ p, PolyIs p 0 (fun _ => (0, 1)) → Q p) : W_Polynomial_init_3 u Q :=
  init_ok (n := 0) (nm := fun _ => .i 0) (c := fun _ => (0, 1)) (by decide) (fun k hk => by omega) (fun k hk => by omega) fun p h => hq p h.1
end Law

set_option exponentiation.threshold 40000
namespace Law
open PySem L2 Evl Trk Sy
theorem div_le {x s : Int} {a : Nat} (hs : 0 < s) (h : x.natAbs ≤ a) (hd : s ∣ x) : (x / s).natAbs ≤ a := by
  obtain ⟨e, rfl⟩ := hd
  rw [Int.mul_ediv_cancel_left _ (by omega)]
  rw [Int.natAbs_mul] at h
  have : 1 * e.natAbs ≤ s.natAbs * e.natAbs := Nat.mul_le_mul_right _ (by omega)
  omega
theorem made_ok {n : Nat} {tp : Nat → Int} {b : Int} {c : Nat → Int × Int} {Q : R_Polynomial → Prop} (hn : n ≤ 100) (hb : 0 < b ∧ b.natAbs ≤ 2 ^ 40) (hv : ∀ k, k < n → (tp k).natAbs ≤ 2 ^ 40 ∧ Rat.divInt (tp k) b = qc c k) (hc : ∀ k, k < n → 0 < (c k).2) (hq : ∀ p, PolyIs p (tl (zc c) n) c → Q p) : W_made (tab n tp) b Q := by
  have e40 : (2 : Nat) ^ 40 = 1099511627776 := by decide
  have rest : ∀ m : Nat, m ≤ n → (∀ p, PolyIs p m c → Q p) → (loopW (fun (K : Int → Prop) => forW (fun (x : Int) (s : Int) (nx : Int → Prop) => (((decide (s = (1 : Int))) = true → K s) ∧ ((decide (s = (1 : Int))) = false → (∀ y : Int, y = ((Nat.gcd s.natAbs x.natAbs : Nat) : Int) → nx y)))) K (tab m tp) (b.natAbs : Int)) (fun (s : Int) => (joinW (fun (K : Int → Prop) => (((decide (b < (0 : Int))) = true → K (-s)) ∧ ((decide (b < (0 : Int))) = false → K s))) (fun (s2 : Int) => (W_Polynomial_init_3 () (fun (_ : R_Polynomial) => (((tab m tp).length ≤ 999999) ∧ mapS (fun (x : Int) (_ : Unit) nx => (CDivW x s2 ∧ nx (x / s2) ())) (tab m tp) () (fun ys _ => (CDivW b s2 ∧ (∀ x : Int, x = (b / s2) → Q ({ _bottom := x, _tops := ys } : R_Polynomial))))))))))) := by
    intro m hm hQ
    have fin : ∀ s : Int, 0 < s → s ∣ b → (∀ j, j < m → s ∣ tp j) → (joinW (fun (K : Int → Prop) => (((decide (b < (0 : Int))) = true → K (-s)) ∧ ((decide (b < (0 : Int))) = false → K s))) (fun (s2 : Int) => (W_Polynomial_init_3 () (fun (_ : R_Polynomial) => (((tab m tp).length ≤ 999999) ∧ mapS (fun (x : Int) (_ : Unit) nx => (CDivW x s2 ∧ nx (x / s2) ())) (tab m tp) () (fun ys _ => (CDivW b s2 ∧ (∀ x : Int, x = (b / s2) → Q ({ _bottom := x, _tops := ys } : R_Polynomial))))))))) := by
      intro s h1 h2 h3
      have hs : s ≤ b := Int.le_of_dvd hb.1 h2
      have dv : ∀ x : Int, CDivW x s := fun x => wide_div h1 (b := 50) (by
        have : (2 : Nat) ^ 50 = 1125899906842624 := by decide
        omega) (by decide) (by decide)
      refine ⟨fun z => absurd (of_decide_eq_true z) (by omega), fun _ => init3_ok fun _ _ => ⟨by rw [tab_len]; omega, mapS_tab (fun k => tp k / s) (fun k hk nx hx => ⟨dv _, hx⟩) ⟨dv _, fun x hx => ?_⟩⟩⟩
      subst hx
      obtain ⟨e, he⟩ := h2
      have epos : 0 < e := by
        rcases Int.lt_or_le 0 e with z | z
        · exact z
        · have := Int.mul_nonpos_of_nonneg_of_nonpos (Int.le_of_lt h1) z
          omega
      have eb : b / s = e := by rw [he, Int.mul_ediv_cancel_left _ (by omega)]
      refine hQ _ ⟨⟨by show 0 < b / s; rw [eb]; exact epos, div_le h1 hb.2 ⟨e, he⟩⟩, _, rfl, fun k hk => ⟨div_le h1 (hv k (by omega)).1 (h3 k hk), ?_⟩⟩
      rw [← (hv k (by omega)).2]
      obtain ⟨u, hu⟩ := h3 k hk
      show Rat.divInt (tp k / s) (b / s) = _
      rw [eb, hu, Int.mul_ediv_cancel_left _ (by omega), he, Rat.divInt_mul_left (by omega)]
    refine forW_of (fun i s => 0 < s ∧ s ∣ b ∧ ∀ j, j < i → s ∣ tp j) ⟨by omega, Int.natAbs_dvd.mpr (Int.dvd_refl _), fun j hj => by omega⟩ ?_ fun s ⟨h1, h2, h3⟩ => fin s h1 h2 fun j hj => h3 j (by rw [tab_len]; exact hj)
    rintro i x s nx hx ⟨h1, h2, h3⟩ hnx
    obtain ⟨hi, rfl⟩ := tab_inv hx
    refine ⟨fun z => ?_, fun _ y hy => hnx _ ?_⟩
    · have e := of_decide_eq_true z
      subst e
      exact fin 1 (by decide) ⟨b, by omega⟩ fun j _ => ⟨tp j, by omega⟩
    · subst hy
      have g1 : ((Nat.gcd s.natAbs (tp i).natAbs : Nat) : Int) ∣ s := Int.dvd_natAbs.mp (Int.natCast_dvd_natCast.mpr (Nat.gcd_dvd_left _ _))
      have g2 : ((Nat.gcd s.natAbs (tp i).natAbs : Nat) : Int) ∣ tp i := Int.dvd_natAbs.mp (Int.natCast_dvd_natCast.mpr (Nat.gcd_dvd_right _ _))
      refine ⟨?_, Int.dvd_trans g1 h2, fun j hj => ?_⟩
      · have := Nat.gcd_pos_of_pos_left (n := (tp i).natAbs) (m := s.natAbs) (by omega)
        omega
      · by_cases e : j = i
        · subst e; exact g2
        · exact Int.dvd_trans g1 (h3 j (by omega))
  unfold W_made
  refine while_trim (st := fun k => tab k tp) (z := zc c) (N := n) (E := fun k => k ≤ n ∧ ∀ p, PolyIs p k c → Q p) (fun nx hE => ?_) (fun k nx hk hz hx => ?_) (fun k nx hk hz hE => ?_) n (Nat.le_refl n) ⟨tl_le, hq⟩
  · exact ⟨fun h => Bool.noConfusion h, fun _ => ⟨fun z => Bool.noConfusion z, fun _ => rest 0 (by omega) hE.2⟩⟩
  all_goals
    have e : decide (tp k = 0) = zc c k := decide_eq_decide.mpr (zero_iff (Int.ne_of_gt hb.1) (Int.ne_of_gt (hc k hk)) (hv k hk).2)
    refine ⟨fun _ => ⟨_, at_last, ?_⟩, fun h => ?_⟩
    rotate_left
    · rw [emp_tab] at h
      cases h
    show (decide (tp k = 0) = true → _) ∧ (_ = false → _)
    rw [e, hz]
  · exact ⟨fun _ => ⟨_, last_tab.1, by rw [last_tab.2]; exact hx⟩, fun z => Bool.noConfusion z⟩
  · exact ⟨fun z => Bool.noConfusion z, fun _ => rest (k + 1) (by omega) hE.2⟩
/-! ### the operations -/
section
variable {p : R_Polynomial} {n : Nat} {c : Nat → Int × Int} {Q : R_Polynomial → Prop}
theorem neg_ok (h : PolyIs p n c) (hn : n ≤ 100) (hc : ∀ k, k < n → 0 < (c k).2) (hq : ∀ p, PolyIs p (tl (zc fun k => (-(c k).1, (c k).2)) n) (fun k => (-(c k).1, (c k).2)) → Q p) : W_Polynomial_neg p Q := by
  obtain ⟨tp, e, ht⟩ := h.t
  unfold W_Polynomial_neg
  rw [e]
  refine ⟨by rw [tab_len]; omega, mapS_tab (fun k => -tp k) (fun k hk nx hx => hx) (made_ok (c := fun k => (-(c k).1, (c k).2)) hn h.b (fun k hk => ⟨by rw [Int.natAbs_neg]; exact (ht k hk).1, ?_⟩) hc hq)⟩
  have := (ht k hk).2
  rw [Rat.divInt_eq_divInt_iff (Int.ne_of_gt h.b.1) (Int.ne_of_gt (hc k hk))] at this ⊢
  show -tp k * _ = -(c k).1 * _
  rw [Int.neg_mul, Int.neg_mul, this]
theorem scaled_core {N D : Int} {f : Int × Int} (h : PolyIs p n c) (hl : Low p) (hn : n ≤ 100) (hc : ∀ k, k < n → 0 < (c k).2) (hD : 0 < D) (hf : 0 < f.2) (hN : N.natAbs ≤ 2 ^ 8) (hD2 : D.natAbs ≤ 2 ^ 8) (he : Rat.divInt N D = Rat.divInt f.1 f.2)
    (hq : ∀ p, PolyIs p (tl (zc fun k => ((c k).1 * f.1, (c k).2 * f.2)) n) (fun k => ((c k).1 * f.1, (c k).2 * f.2)) → Q p) :
    (p._tops.length ≤ 999999) ∧ mapS (fun (x : Int) (_ : Unit) nx => (CMulW x N ∧ nx (x * N) ())) p._tops () (fun ys _ => (CMulW p._bottom D ∧ (W_made ys (p._bottom * D) Q))) := by
  obtain ⟨tp, e, ht⟩ := h.t
  have hb := h.b
  have hlb := hl.b
  have hlt : ∀ k, k < n → (tp k).natAbs ≤ 2 ^ 30 := fun k hk => hl.t _ (by rw [e]; exact List.mem_iff_getElem?.mpr ⟨k, tab_get hk⟩)
  rw [e]
  refine ⟨by rw [tab_len]; omega, mapS_tab (fun k => tp k * N) (fun k hk nx hx => ⟨mulB (hlt k hk) hN, hx⟩) ⟨mulB hlb hD2, made_ok hn ⟨Int.mul_pos hb.1 hD, nup (nab hlb hD2) (by decide)⟩ (fun k hk => ⟨nup (nab (hlt k hk) hN) (by decide), ?_⟩) (fun k hk => Int.mul_pos (hc k hk) hf) hq⟩⟩
  show Rat.divInt (tp k * N) (p._bottom * D) = Rat.divInt ((c k).1 * f.1) ((c k).2 * f.2)
  rw [← Rat.divInt_mul_divInt, ← Rat.divInt_mul_divInt, (ht k hk).2, he]
theorem raised_ok {m : Nat} (h : PolyIs p n c) (hn : n ≤ 50) (hm : m ≤ 50) (hc : ∀ k, k < n → 0 < (c k).2) (hq : ∀ p, PolyIs p (tl (zc fun k => if k < m then (0, 1) else c (k - m)) (m + n)) (fun k => if k < m then (0, 1) else c (k - m)) → Q p) : W_Polynomial_raised p (m : Int) Q := by
  obtain ⟨tp, e, ht⟩ := h.t
  unfold W_Polynomial_raised
  rw [e, toNat_rng, tab_rep]
  refine ⟨⟨by omega, by omega⟩, by rw [tab_len, tab_len]; omega, ?_⟩
  rw [tab_app]
  refine made_ok (by omega) h.b (fun k hk => ?_) (fun k hk => ?_) hq
  · by_cases z : k < m
    · rw [if_pos z]
      refine ⟨by decide, ?_⟩
      show _ = Rat.divInt (if k < m then ((0 : Int), (1 : Int)) else c (k - m)).1 _
      rw [if_pos z, Rat.zero_divInt, Rat.zero_divInt]
    · rw [if_neg z]
      refine ⟨(ht _ (by omega)).1, ?_⟩
      show _ = Rat.divInt (if k < m then ((0 : Int), (1 : Int)) else c (k - m)).1 (if k < m then ((0 : Int), (1 : Int)) else c (k - m)).2
      rw [if_neg z]
      exact (ht _ (by omega)).2
  · by_cases z : k < m
    · rw [if_pos z]; decide
    · rw [if_neg z]; exact hc _ (by omega)
theorem coef_ok {Q : List Rat → Prop} (h : PolyIs p n c) (hn : n ≤ 100) (hq : Q (tab n (qc c))) : W_Polynomial_coefficients p Q := by
  obtain ⟨tp, e, ht⟩ := h.t
  unfold W_Polynomial_coefficients
  rw [e]
  refine ⟨by rw [tab_len]; omega, mapS_tab (qc c) (fun k hk nx hx => frac_ok (Int.ne_of_gt h.b.1) (Nat.lt_of_le_of_lt h.b.2 (pow_lt (by decide))) ?_) hq⟩
  rw [(ht k hk).2]
  exact hx
theorem is_ok {a d : Int} {v : Int × Int} {Q : Bool → Prop} (ha : a.natAbs ≤ 2 ^ 900) (hd : 0 < d ∧ d.natAbs ≤ 2 ^ 900) (hv1 : v.1.natAbs ≤ 2 ^ 900) (hv : 0 < v.2 ∧ v.2.natAbs ≤ 2 ^ 900) (he : Rat.divInt a d = Rat.divInt v.1 v.2) (hq : Q true) : W_L_is (Rat.divInt a d) v Q := by
  have hden : (1 : Int) ≤ ((Rat.divInt a d).den : Int) := by have := (Rat.divInt a d).den_pos; omega
  have s1 : (Rat.divInt a d).num.natAbs ≤ 2 ^ 900 := Nat.le_trans (num_le hd.1) ha
  have s2 : ((Rat.divInt a d).den : Int).natAbs ≤ 2 ^ 900 := by
    have := den_le (a := a) hd.1
    rw [Int.natAbs_natCast]
    exact Nat.le_trans this hd.2
  refine ⟨fun _ => ⟨fun _ => ⟨mulB s1 hv.2, mulB hv1 s2, ?_⟩, fun z => absurd hden (of_decide_eq_false z)⟩, fun z => Bool.noConfusion z⟩
  show Q (decide (_ = _))
  rw [decide_eq_true]
  · exact hq
  · rw [he]
    exact num_den (Int.ne_of_gt hv.1)
structure Sv (v : Int × Int) : Prop where
  n : v.1.natAbs ≤ 2 ^ 900
  d : 0 < v.2 ∧ v.2.natAbs ≤ 2 ^ 900
theorem list_ok {Q : Bool → Prop} (hn : n ≤ 100) (hc : ∀ k, k < n → Sv (c k)) (hq : Q true) : W_L_list (tab n (qc c)) (tab n c) Q := by
  unfold W_L_list
  rw [tab_len, tab_len]
  have e : ((!true) || decide ((n : Int) ≠ (n : Int))) = false := by simp
  rw [e]
  refine ⟨fun z => Bool.noConfusion z, fun _ => ⟨⟨by omega, by omega⟩, ?_⟩⟩
  rw [Int.toNat_natCast, rng_tab]
  refine forW_of (fun _ _ => True) trivial ?_ fun _ _ => hq
  rintro i x s nx hx _ hnx
  obtain ⟨hi, rfl⟩ := tab_inv hx
  have h := hc i hi
  exact ⟨_, atI_tab hi, _, atI_tab hi, is_ok h.n h.d h.n h.d rfl ⟨fun z => Bool.noConfusion z, fun _ => hnx _ trivial⟩⟩
theorem asked_ok {Q : Bool → Prop} (h : PolyIs p n c) (hn : n ≤ 100) (hc : ∀ k, k < n → Sv (c k)) (hq : Q true) : W_L_asked p (tab n c) Q := by
  obtain ⟨tp, e, ht⟩ := h.t
  have big : (2 : Nat) ^ 40 ≤ 2 ^ 900 := Nat.pow_le_pow_right (by decide) (by decide)
  unfold W_L_asked W_Polynomial_degree W_Polynomial_len
  rw [e, tab_len, tab_len]
  have e1 : decide ((n : Int) - 1 ≠ (n : Int) - 1) = false := by simp
  have e2 : decide ((n : Int) ≠ (n : Int)) = false := by simp
  unfold joinW
  dsimp only
  rw [e1, e2]
  refine ⟨fun z => Bool.noConfusion z, fun _ => ⟨⟨by omega, by omega⟩, fun z => Bool.noConfusion z, fun _ => coef_ok h hn (list_ok hn hc ⟨fun z => Bool.noConfusion z, fun _ => ⟨⟨by omega, by omega⟩, ?_⟩⟩)⟩⟩
  rw [show ((n : Int) + 3).toNat = n + 3 by omega, rng_tab]
  refine forW_of (fun _ _ => True) trivial ?_ fun _ _ => hq
  rintro i x s nx hx _ hnx
  obtain ⟨hi, rfl⟩ := tab_inv hx
  intro y hy
  subst hy
  have got : ∀ R : Rat → Prop, R (if i < n then qc c i else Rat.divInt 0 1) → W_Polynomial_getitem p (i : Int) R (fun _ => False) := fun R hR => by
    unfold W_Polynomial_getitem
    rw [e, tab_len]
    refine ⟨fun z => ?_, fun z => ?_⟩
    · have hi2 : i < n := by have := of_decide_eq_true z; omega
      rw [if_pos hi2, ← (ht i hi2).2] at hR
      exact ⟨_, atI_tab hi2, frac_ok (Int.ne_of_gt h.b.1) (Nat.lt_of_le_of_lt h.b.2 (pow_lt (by decide))) hR⟩
    · have hi2 : ¬ i < n := by have := of_decide_eq_false z; omega
      rw [if_neg hi2] at hR
      exact frac_ok (by decide) (by decide) hR
  refine ⟨fun z => ?_, fun z => ?_⟩
  · have hi2 : i < n := by have := of_decide_eq_true z; omega
    refine ⟨_, atI_tab hi2, got _ ?_⟩
    rw [if_pos hi2]
    have h := hc i hi2
    exact is_ok h.n h.d h.n h.d rfl ⟨fun z => Bool.noConfusion z, fun _ => hnx _ trivial⟩
  · have hi2 : ¬ i < n := by have := of_decide_eq_false z; omega
    refine got _ ?_
    rw [if_neg hi2]
    exact is_ok (by decide) ⟨by decide, by decide⟩ (by decide) ⟨by decide, by decide⟩ rfl ⟨fun z => Bool.noConfusion z, fun _ => hnx _ trivial⟩
theorem cutp_ok {Q : List (Int × Int) → Prop} (hn : n ≤ 100) (hq : Q (tab (tl (zc c) n) c)) : W_L_cut (tab n c) Q := by
  unfold W_L_cut
  rw [tab_len]
  have cutq : ∀ k, k ≤ n → cutD (tab n c) none (some (k : Int)) = tab k c := fun k hk => by
    unfold cutD
    have e1 : HT.sIx (tab n c).length 0 none = 0 := rfl
    have e2 : HT.sIx (tab n c).length (tab n c).length (some (k : Int)) = k := by
      rw [tab_len]
      simp only [HT.sIx]
      split <;> omega
    rw [e1, e2]
    have := tab_cut (α := Int × Int) (n := n) (a := 0) (k := k) (f := c) (by omega)
    rw [Nat.sub_zero, this]
    exact tab_congr fun j _ => by rw [Nat.zero_add]
  refine while_trim (st := fun k : Nat => (k : Int)) (z := zc c) (N := n) (E := fun k => k ≤ n ∧ Q (tab k c)) (fun nx hE => ?_) (fun k nx hk hz hx => ?_) (fun k nx hk hz hE => ?_) n (Nat.le_refl n) ⟨tl_le, hq⟩
  · refine ⟨fun h => absurd (of_decide_eq_true h) (by omega), fun _ => ⟨fun z => Bool.noConfusion z, fun _ => ?_⟩⟩
    rw [cutq 0 (by omega)]
    exact hE.2
  all_goals
    have ek : ((k + 1 : Nat) : Int) - 1 = (k : Int) := by omega
    refine ⟨fun _ => ⟨c k, by rw [ek]; exact atI_tab hk, ?_⟩, fun h => absurd (of_decide_eq_false h) (by omega)⟩
    show (decide ((c k).1 = 0) = true → _) ∧ (_ = false → _)
    rw [show decide ((c k).1 = 0) = _ from hz]
  · exact ⟨fun _ x hx' => by rw [hx', ek]; exact hx, fun z => Bool.noConfusion z⟩
  · exact ⟨fun z => Bool.noConfusion z, fun _ => by rw [cutq (k + 1) (by omega)]; exact hE.2⟩
end
end Law

set_option exponentiation.threshold 40000
namespace Law
open PySem L2 Evl Trk Sy
theorem rev_tab {α : Type} : ∀ {n : Nat} {f : Nat → α}, List.reverse (tab n f) = tab n fun i => f (n - 1 - i) := by
  intro n f
  apply List.ext_getElem?
  intro j
  by_cases hj : j < n
  · rw [tab_get hj, List.getElem?_reverse (by rw [tab_len]; exact hj), tab_len, tab_get (by omega)]
  · rw [List.getElem?_eq_none (by rw [List.length_reverse, tab_len]; omega), List.getElem?_eq_none (by rw [tab_len]; omega)]
def tot (N D : Int) (f : Nat → Int) : Nat → Int
  | 0 => 0
  | j + 1 => tot N D f j * N + f j * D ^ j
def tvv (P : Int × Int) (d : Nat → Int × Int) : Nat → Int × Int
  | 0 => (0, 1)
  | j + 1 => ((tvv P d j).1 * P.1 * (d j).2 + (d j).1 * (tvv P d j).2 * P.2, (tvv P d j).2 * P.2 * (d j).2)
theorem link {N D b : Int} {f : Nat → Int} {P : Int × Int} {d : Nat → Int × Int} (hx : N * P.2 = P.1 * D) : ∀ n : Nat, (∀ j, j < n → f j * (d j).2 = (d j).1 * b) → tot N D f n * D * (tvv P d n).2 = (tvv P d n).1 * (D ^ n * b)
  | 0, _ => by simp [tot, tvv]
  | j + 1, h => by
    have ih := link hx j fun i hi => h i (by omega)
    have ht := h j (by omega)
    show (tot N D f j * N + f j * D ^ j) * D * ((tvv P d j).2 * P.2 * (d j).2) = ((tvv P d j).1 * P.1 * (d j).2 + (d j).1 * (tvv P d j).2 * P.2) * (D ^ (j + 1) * b)
    rw [Int.pow_succ]
    generalize tot N D f j = tj at *
    generalize (tvv P d j).1 = Tj at *
    generalize (tvv P d j).2 = Bj at *
    generalize D ^ j = Dj at *
    generalize (d j).1 = r0 at *
    generalize (d j).2 = r1 at *
    generalize P.1 = P0 at *
    generalize P.2 = P1 at *
    generalize f j = top at *
    grind
theorem nadd2 {x y : Int} {a b c : Nat} (hx : x.natAbs ≤ 2 ^ a) (hy : y.natAbs ≤ 2 ^ b) (ha : a + 1 ≤ c) (hb : b + 1 ≤ c) : (x + y).natAbs ≤ 2 ^ c := by
  have h := nadd (nup hx (show a ≤ c - 1 by omega)) (nup hy (show b ≤ c - 1 by omega))
  rw [show c - 1 + 1 = c by omega] at h
  exact h
theorem tot_bd {N D : Int} {f : Nat → Int} (hN : N.natAbs ≤ 2 ^ 8) (hD : D.natAbs ≤ 2 ^ 8) : ∀ n : Nat, (∀ j, j < n → (f j).natAbs ≤ 2 ^ 40) → (tot N D f n).natAbs ≤ 2 ^ (50 + 9 * n) ∧ (D ^ n).natAbs ≤ 2 ^ (8 * n)
  | 0, _ => ⟨by simp [tot], by simp⟩
  | j + 1, h => by
    obtain ⟨h1, h2⟩ := tot_bd hN hD j fun i hi => h i (by omega)
    refine ⟨nadd2 (nab h1 hN) (nab (h j (by omega)) h2) (by omega) (by omega), ?_⟩
    rw [Int.pow_succ]
    exact nup (nab h2 hD) (by omega)
theorem tvv_bd {P : Int × Int} {d : Nat → Int × Int} (hP : P.1.natAbs ≤ 2 ^ 8 ∧ 0 < P.2 ∧ P.2.natAbs ≤ 2 ^ 8) : ∀ n : Nat, (∀ j, j < n → (d j).1.natAbs ≤ 2 ^ 10 ∧ 0 < (d j).2 ∧ (d j).2.natAbs ≤ 2 ^ 10) → (tvv P d n).1.natAbs ≤ 2 ^ (20 * n) ∧ 0 < (tvv P d n).2 ∧ (tvv P d n).2.natAbs ≤ 2 ^ (20 * n)
  | 0, _ => ⟨by simp [tvv], by simp [tvv], by simp [tvv]⟩
  | j + 1, h => by
    obtain ⟨h1, h2, h3⟩ := tvv_bd hP j fun i hi => h i (by omega)
    obtain ⟨g1, g2, g3⟩ := h j (by omega)
    exact ⟨nadd2 (nab (nab h1 hP.1) g3) (nab (nab g1 h3) hP.2.2) (by omega) (by omega), Int.mul_pos (Int.mul_pos h2 hP.2.1) g2, nup (nab (nab h3 hP.2.2) g3) (by omega)⟩
section
variable {p : R_Polynomial} {n : Nat} {c : Nat → Int × Int}
abbrev rv (n : Nat) (c : Nat → Int × Int) (i : Nat) : Int × Int := c (n - 1 - i)
theorem value_ok {P : Int × Int} {Q : Int × Int → Prop} (hn : n ≤ 13) (hP : P.1.natAbs ≤ 2 ^ 8 ∧ 0 < P.2 ∧ P.2.natAbs ≤ 2 ^ 8) (hc : ∀ j, j < n → (c j).1.natAbs ≤ 2 ^ 10 ∧ 0 < (c j).2 ∧ (c j).2.natAbs ≤ 2 ^ 10) (hq : Q (tvv P (rv n c) n)) : W_L_value (tab n c) P Q := by
  unfold W_L_value
  rw [tab_len, toNat_rng, rng_tab]
  refine ⟨⟨by omega, by omega⟩, ?_⟩
  refine forW_of (fun i s => s = tvv P (rv n c) i) rfl ?_ ?_
  · rintro i x s nx hx rfl hnx
    obtain ⟨hi, rfl⟩ := tab_inv hx
    obtain ⟨h1, h2, h3⟩ := tvv_bd hP i (d := rv n c) fun j hj => hc _ (by omega)
    obtain ⟨g1, g2, g3⟩ := hc (n - 1 - i) (by omega)
    have e : (n : Int) - 1 - (i : Int) = ((n - 1 - i : Nat) : Int) := by omega
    rw [e]
    refine ⟨_, atI_tab (by omega), mulB h1 hP.1, mulB (nab h1 hP.1) g3, mulB g1 h3, mulB (nab g1 h3) hP.2.2, fun y hy => ⟨mulB h3 hP.2.2, mulB (nab h3 hP.2.2) g3, fun z hz => hnx _ ?_⟩⟩
    rw [hy, hz]
    rfl
  · intro s hs
    rw [tab_len] at hs
    subst hs
    exact hq
theorem call_core {x : Rat} {Q : Rat → Prop} {X : Exn → Prop} (h : PolyIs p n c) (hn : n ≤ 13) (hc : ∀ j, j < n → 0 < (c j).2) (hN : x.num.natAbs ≤ 2 ^ 8) (hD : (x.den : Int).natAbs ≤ 2 ^ 8)
    (hq : ∀ a d : Int, a.natAbs ≤ 2 ^ 900 → 0 < d ∧ d.natAbs ≤ 2 ^ 900 → (∀ P : Int × Int, x.num * P.2 = P.1 * (x.den : Int) → a * (tvv P (rv n c) n).2 = (tvv P (rv n c) n).1 * d) → Q (Rat.divInt a d)) :
    forW (fun (t : Int) (s : Int × Int) (nx : (Int × Int) → Prop) => (CMulW s.1 (x.num) ∧ (CMulW t s.2 ∧ (∀ y : Int, y = ((s.1 * x.num) + (t * s.2)) → (CMulW s.2 (x.den : Int) ∧ (∀ z : Int, z = (s.2 * (x.den : Int)) → nx (y, z))))))) (fun (s : Int × Int) => (CMulW s.1 (x.den : Int) ∧ (CMulW s.2 p._bottom ∧ (W_Fraction (s.1 * (x.den : Int)) (s.2 * p._bottom) Q X)))) (List.reverse p._tops) ((0 : Int), (1 : Int)) := by
  obtain ⟨tp, e, ht⟩ := h.t
  have hb := h.b
  rw [e, rev_tab]
  have bd := fun (i : Nat) (hi : i ≤ n) => tot_bd (f := fun i => tp (n - 1 - i)) hN hD i fun j hj => (ht (n - 1 - j) (by omega)).1
  refine forW_of (fun i s => s = (tot x.num (x.den : Int) (fun i => tp (n - 1 - i)) i, (x.den : Int) ^ i)) (by rw [Int.pow_zero]; rfl) ?_ ?_
  · rintro i t s nx hx rfl hnx
    obtain ⟨hi, rfl⟩ := tab_inv hx
    obtain ⟨b1, b2⟩ := bd i (by omega)
    refine ⟨mulB b1 hN, mulB (ht _ (by omega)).1 b2, fun y hy => ⟨mulB b2 hD, fun z hz => hnx _ ?_⟩⟩
    rw [hy, hz, Int.pow_succ]
    rfl
  · intro s hs
    rw [tab_len] at hs
    subst hs
    obtain ⟨b1, b2⟩ := bd n (Nat.le_refl n)
    have hd0 : 0 < (x.den : Int) := by have := x.den_pos; omega
    have pos : 0 < (x.den : Int) ^ n * p._bottom := Int.mul_pos (Int.pow_pos hd0) hb.1
    have dle : ((x.den : Int) ^ n * p._bottom).natAbs ≤ 2 ^ 900 := nup (nab b2 hb.2) (by omega)
    refine ⟨mulB b1 hD, mulB b2 hb.2, frac_ok (Int.ne_of_gt pos) (Nat.lt_of_le_of_lt dle (pow_lt (by decide))) (hq _ _ (nup (nab b1 hD) (by omega)) ⟨pos, dle⟩ fun P hP => link hP n fun j hj => ?_)⟩
    have := (ht (n - 1 - j) (by omega)).2
    rw [Rat.divInt_eq_divInt_iff (Int.ne_of_gt hb.1) (Int.ne_of_gt (hc _ (by omega)))] at this
    exact this
theorem pl_ok {P : Int × Int} (hP : P.1.natAbs ≤ 2 ^ 8 ∧ 0 < P.2 ∧ P.2.natAbs ≤ 2 ^ 8) : (Rat.divInt P.1 P.2).num.natAbs ≤ 2 ^ 8 ∧ ((Rat.divInt P.1 P.2).den : Int).natAbs ≤ 2 ^ 8 ∧ (Rat.divInt P.1 P.2).num * P.2 = P.1 * ((Rat.divInt P.1 P.2).den : Int) :=
  ⟨Nat.le_trans (num_le hP.2.1) hP.1, by
    have := den_le (a := P.1) hP.2.1
    rw [Int.natAbs_natCast]
    exact Nat.le_trans this hP.2.2, num_den (Int.ne_of_gt hP.2.1)⟩
theorem placed_ok {P : Int × Int} {a d : Int} {Q : Bool → Prop} (hn : n ≤ 13) (hP : P.1.natAbs ≤ 2 ^ 8 ∧ 0 < P.2 ∧ P.2.natAbs ≤ 2 ^ 8) (hc : ∀ j, j < n → (c j).1.natAbs ≤ 2 ^ 10 ∧ 0 < (c j).2 ∧ (c j).2.natAbs ≤ 2 ^ 10) (ha : a.natAbs ≤ 2 ^ 900) (hd : 0 < d ∧ d.natAbs ≤ 2 ^ 900)
    (he : a * (tvv P (rv n c) n).2 = (tvv P (rv n c) n).1 * d) (hq : Q true) : W_L_value (tab n c) P (fun v => W_L_is (Rat.divInt a d) v Q) := by
  obtain ⟨h1, h2, h3⟩ := tvv_bd hP n (d := rv n c) fun j hj => hc _ (by omega)
  refine value_ok hn hP hc (is_ok ha hd (nup h1 (by omega)) ⟨h2, nup h3 (by omega)⟩ ?_ hq)
  rw [Rat.divInt_eq_divInt_iff (Int.ne_of_gt hd.1) (Int.ne_of_gt h2)]
  exact he
end
end Law

set_option exponentiation.threshold 40000
namespace Law
open PySem L2 Evl Trk Sy
def Cf (v : Int × Int) : Prop := v.1.natAbs ≤ 19 ∧ 1 ≤ v.2 ∧ v.2 ≤ 9
def topf (n : Int) : Int := if n < 10 then 0 else if n < 20 then n - 10 else 19 - n
theorem top_ok {n : Int} {Q : Int → Prop} (hq : Q (topf n)) : W_L_top n Q := by
  unfold topf at hq
  refine ⟨fun z => ?_, fun z => ⟨fun y => ?_, fun y => ?_⟩⟩
  · rw [if_pos (of_decide_eq_true z)] at hq; exact hq
  · rw [if_neg (of_decide_eq_false z), if_pos (of_decide_eq_true y)] at hq; exact hq
  · rw [if_neg (of_decide_eq_false z), if_neg (of_decide_eq_false y)] at hq; exact hq
theorem pairs_ok {ns : List Int} {m : Nat} {Q : List (Int × Int) → Prop} (hm : m ≤ 100) (hq : ∀ c : Nat → Int × Int, (∀ k, Cf (c k)) → Q (tab m c)) : W_L_pairs ns 1 (m : Int) Q := by
  unfold W_L_pairs
  refine cell_okI (by decide) fun v1 => row_okI (by decide) (by decide) (by omega) (by omega) fun f hf => cell_okI (by decide) fun v2 => row_okI (by decide) (by decide) (by omega) (by omega) fun g hg => ⟨⟨by omega, by omega⟩, by rw [rngL_len]; omega, ?_⟩
  rw [toNat_rng, rng_tab]
  refine mapS_tab (fun k => (topf (f k), 1 + g k)) (fun k hk nx hx => ⟨_, atI_tab hk, top_ok ⟨_, atI_tab hk, hx⟩⟩) (hq _ fun k => ⟨?_, ?_, ?_⟩)
  · have := hf k
    show (topf (f k)).natAbs ≤ 19
    unfold topf
    split
    · decide
    · split <;> omega
  · have := hg k; show 1 ≤ 1 + g k; omega
  · have := hg k; show 1 + g k ≤ 9; omega
theorem Cf.sm {v : Int × Int} (h : Cf v) : Sm v := by
  obtain ⟨a, b⟩ := v
  obtain ⟨h1, h2, h3⟩ := h
  dsimp only at h1 h2 h3
  have e10 : (2 : Nat) ^ 10 = 1024 := by decide
  have ha : a.natAbs ≤ 2 ^ 10 := by omega
  refine ⟨⟨by show 0 < b; omega, ?_⟩, ha⟩
  show b ∣ 2520
  have : b = 1 ∨ b = 2 ∨ b = 3 ∨ b = 4 ∨ b = 5 ∨ b = 6 ∨ b = 7 ∨ b = 8 ∨ b = 9 := by omega
  rcases this with rfl | rfl | rfl | rfl | rfl | rfl | rfl | rfl | rfl <;> decide
theorem Cf.bd {v : Int × Int} (h : Cf v) : v.1.natAbs ≤ 2 ^ 10 ∧ 0 < v.2 ∧ v.2.natAbs ≤ 2 ^ 10 := by
  obtain ⟨h1, h2, h3⟩ := h
  have e : (2 : Nat) ^ 10 = 1024 := by decide
  exact ⟨by omega, by omega, by omega⟩
theorem Cf.sv {v : Int × Int} (h : Cf v) : Sv v := ⟨nup h.bd.1 (by decide), h.bd.2.1, nup h.bd.2.2 (by decide)⟩
def hdn (v : Int × Int) (w : Bool) : Num := if (w && decide (v.2 = 1)) = true then .i v.1 else .q (Rat.divInt v.1 v.2)
theorem handed_ok {v : Int × Int} {w : Bool} {Q : Num → Prop} {X : Exn → Prop} (h : Cf v) (hq : Q (hdn v w)) : W_L_handed v w Q X := by
  unfold hdn at hq
  refine ⟨fun z => ?_, fun z => ?_⟩
  · rw [if_pos z] at hq; exact hq
  · rw [if_neg (by rw [z]; exact Bool.false_ne_true)] at hq
    refine frac_ok (Int.ne_of_gt h.bd.2.1) (Nat.lt_of_le_of_lt h.bd.2.2 (pow_lt (by decide))) hq
theorem hdn_nv {v : Int × Int} {w : Bool} : Nv (hdn v w) v := by
  unfold hdn
  by_cases z : (w && decide (v.2 = 1)) = true
  · rw [if_pos z]
    have e : v.2 = 1 := by
      rw [Bool.and_eq_true] at z
      exact of_decide_eq_true z.2
    exact .inl ⟨_, rfl, by rw [e]⟩
  · rw [if_neg z]
    exact .inr rfl
theorem j_mid {S : Type} {A : (S → Prop) → Prop} {K : S → Prop} (P : S → Prop) (h : ∀ K' : S → Prop, (∀ s, P s → K' s) → A K') (hk : ∀ s, P s → K s) : joinW A K := h K hk
theorem self2 {q : Rat} {c : Int × Int} {Q : Bool → Prop} (e : q = Rat.divInt c.1 c.2) (h : Cf c) (hq : Q true) : W_Fraction_eq_2 q q Q := by
  subst e
  have hx : (Rat.divInt c.1 c.2).num.natAbs ≤ 2 ^ 10 := Nat.le_trans (num_le h.bd.2.1) h.bd.1
  have hy : ((Rat.divInt c.1 c.2).den : Int).natAbs ≤ 2 ^ 10 := by
    have := den_le (a := c.1) h.bd.2.1
    rw [Int.natAbs_natCast]
    exact Nat.le_trans this h.bd.2.2
  unfold W_Fraction_eq_2 W_is_number_2 W_order_2 W_as_fraction_3
  refine ⟨rfl, fun _ => trivial, fun _ => ⟨fun _ => ⟨mulB hx hy, mulB hx hy, ?_⟩, fun z => Bool.noConfusion z⟩⟩
  rw [Int.sub_self]
  exact hq
theorem all_true {n : Nat} : List.all (tab n fun _ => true) id = true := by
  rw [List.all_eq_true]
  intro x hx
  obtain ⟨k, _, rfl⟩ := tab_mem hx
  rfl
theorem eq_ne {p q : R_Polynomial} {n m : Nat} {c d : Nat → Int × Int} {Q : Bool → Prop} (hp : PolyIs p n c) (hq : PolyIs q m d) (h : n ≠ m) (k : Q false) : W_Polynomial_eq p q Q := by
  obtain ⟨tp, e, _⟩ := hp.t
  obtain ⟨tq, e2, _⟩ := hq.t
  unfold W_Polynomial_eq
  refine ⟨fun _ => trivial, fun _ => ⟨fun z => ?_, fun _ => k⟩⟩
  have z := of_decide_eq_true z
  rw [e, e2] at z
  have := congrArg List.length z
  rw [tab_len, tab_len] at this
  exact absurd this h
theorem law_all : ∀ ns : List Int, ns.length ≤ 63 → W_law ns (fun r => r = true) (fun _ => False) := by
  intro ns _
  unfold W_law
  refine cell_okI (by decide) fun v0 => ⟨cpow_of (by decide) (by decide) (by decide), by decide, fun ch hch => ⟨by decide, ?_⟩⟩
  have c0 : 0 ≤ ch := by rw [hch]; exact Int.emod_nonneg _ (by decide)
  have c1 : ch < 10 ^ 9 := by rw [hch]; exact Int.emod_lt_of_pos _ (by decide)
  clear hch v0
  obtain ⟨m, hm, hm7⟩ : ∃ m : Nat, ch % 8 = (m : Int) ∧ m ≤ 7 := ⟨(ch % 8).toNat, by omega, by omega⟩
  rw [hm]
  refine pairs_ok (by omega) fun c hc => ⟨by rw [tab_len]; omega, ?_⟩
  obtain ⟨w, hw⟩ : ∃ w : Bool, w = decide (ch / 8 % 2 = 1) := ⟨_, rfl⟩
  rw [← hw]
  have d8 : CDivW ch 8 := divS (by decide) (by decide)
  refine mapS_tab (fun k => hdn (c k) w) (fun k hk nx hx => ⟨d8, by decide, handed_ok (hc k) hx⟩) ?_
  refine init_ok (by omega) (fun k _ => hdn_nv) (fun k _ => (hc k).sm) fun p0 hp0 => ?_
  refine j_mid (fun p => PolyIs p (tl (zc c) m) c ∧ Low p) (fun K hK => ⟨divS (by decide) (by decide), by decide, fun _ => ?_, fun _ => hK _ hp0⟩) fun p hp => ?_
  · rw [init2]
    exact init_ok (by omega) (fun k _ => hdn_nv) (fun k _ => (hc k).sm) hK
  obtain ⟨hp, hl⟩ := hp
  obtain ⟨n, hn⟩ : ∃ n, n = tl (zc c) m := ⟨_, rfl⟩
  have hnm : n ≤ m := by rw [hn]; exact tl_le
  rw [← hn] at hp
  refine ⟨by rw [tab_len]; omega, mapS_tab (fun k => hdn (c k) w) (fun k hk nx hx => ⟨d8, by decide, handed_ok (hc k) hx⟩) ?_⟩
  rw [tab_len]
  unfold joinW
  refine ⟨fun z => absurd rfl (of_decide_eq_true z), fun _ => ⟨⟨by omega, by omega⟩, by rw [rngL_len]; omega, ?_⟩⟩
  rw [toNat_rng, rng_tab]
  refine mapS_tab (fun _ => true) (fun k hk nx hx => ⟨_, atI_tab hk, _, atI_tab hk, fun i e => ⟨fun j e2 => ?_, fun q e2 => ?_⟩, fun q e => ⟨fun j e2 => ?_, fun q2 e2 => ?_⟩⟩) ?_
  · rw [e] at e2; cases e2
    show nx (decide (i = i)) ()
    rw [decide_eq_true rfl]
    exact hx
  · rw [e] at e2; cases e2
  · rw [e] at e2; cases e2
  · rw [e] at e2; cases e2
    have hq : q = Rat.divInt (c k).1 (c k).2 := by
      rcases (hdn_nv (v := c k) (w := w)) with ⟨i, h1, _⟩ | h1
      · rw [h1] at e; cases e
      · rw [h1] at e; cases e; rfl
    exact self2 hq (hc k) hx
  rw [all_true]
  refine ⟨fun z => Bool.noConfusion z, fun _ => frac_ok (by decide) (by decide) ⟨by omega, frac_ok (by decide) (by decide) ?_⟩⟩
  refine ⟨0, Sy.ixN_nat (i := 0) (by simp), ?_⟩
  refine cutp_ok (by omega) ?_
  rw [← hn]
  have hcn : ∀ k, k < n → 0 < (c k).2 := fun k _ => (hc k).bd.2.1
  refine coef_ok hp (by omega) (frac_ok (by decide) (by decide) ⟨by rw [tab_len]; omega, asked_ok hp (by omega) (fun k _ => (hc k).sv) ⟨fun z => Bool.noConfusion z, fun _ => ⟨divS (by decide) (by decide), by decide, divS (by decide) (by decide), by decide, fun P hP => ?_⟩⟩⟩)
  have hP8 : P.1.natAbs ≤ 2 ^ 8 ∧ 0 < P.2 ∧ P.2.natAbs ≤ 2 ^ 8 := by
    have e : (2 : Nat) ^ 8 = 256 := by decide
    rw [hP]
    dsimp only
    refine ⟨?_, ?_, ?_⟩ <;> omega
  clear hP
  obtain ⟨g1, g2, g3⟩ := pl_ok hP8
  have fP : ∀ {R : Rat → Prop} {X : Exn → Prop}, R (Rat.divInt P.1 P.2) → W_Fraction P.1 P.2 R X := fun h => frac_ok (Int.ne_of_gt hP8.2.1) (Nat.lt_of_le_of_lt hP8.2.2 (pow_lt (by decide))) h
  refine fP ?_
  refine ⟨fun _ => call_core hp (by omega) hcn g1 g2 fun a d ha hd hv => placed_ok (by omega) hP8 (fun j _ => (hc j).bd) ha hd (hv P g3) ⟨fun z => Bool.noConfusion z, fun _ => ?_⟩, fun z => Bool.noConfusion z⟩
  have hP1 : (P.1, (1 : Int)).1.natAbs ≤ 2 ^ 8 ∧ 0 < (P.1, (1 : Int)).2 ∧ (P.1, (1 : Int)).2.natAbs ≤ 2 ^ 8 := ⟨hP8.1, Int.zero_lt_one, Nat.one_le_two_pow⟩
  obtain ⟨k1, k2, k3⟩ := pl_ok hP1
  refine ⟨fun z => Bool.noConfusion z, fun _ => frac_ok (by decide) (by decide) (call_core hp (by omega) hcn k1 k2 fun a d ha hd hv => placed_ok (by omega) hP1 (fun j _ => (hc j).bd) ha hd (hv (P.1, 1) k3) ⟨fun z => Bool.noConfusion z, fun _ => ?_⟩)⟩
  have hnn : tl (zc c) n = n := by rw [hn, tl_tl]
  refine neg_ok hp (by omega) hcn fun pn hpn => ⟨by rw [tab_len]; omega, mapS_tab (fun k => (-(c k).1, (c k).2)) (fun k hk nx hx => hx) ?_⟩
  have en : tl (zc fun k => (-(c k).1, (c k).2)) n = n := by
    rw [tl_congr (y := zc c) fun k _ => decide_eq_decide.mpr (by show -(c k).1 = 0 ↔ (c k).1 = 0; omega), hnn]
  rw [en] at hpn
  refine asked_ok hpn (by omega) (fun k _ => ⟨by show (-(c k).1).natAbs ≤ _; rw [Int.natAbs_neg]; exact (hc k).sv.n, (hc k).sv.d⟩) ⟨fun z => Bool.noConfusion z, fun _ => ?_⟩
  refine ⟨by rw [tab_len]; omega, mapS_tab (fun k => ((c k).1 * P.1, (c k).2 * P.2)) (fun k hk nx hx => ⟨mulB (hc k).bd.1 hP8.1, mulB (hc k).bd.2.2 hP8.2.2, hx⟩) (fP ?_)⟩
  refine ⟨fun _ => scaled_core (f := P) hp hl (by omega) hcn (by have := (Rat.divInt P.1 P.2).den_pos; omega) hP8.2.1 g1 g2 (Rat.num_divInt_den _) fun ps hps => cutp_ok (by omega) (asked_ok hps (by have := tl_le (z := zc fun k => ((c k).1 * P.1, (c k).2 * P.2)) (n := n); omega) (fun k _ => ⟨nup (nab (hc k).bd.1 hP8.1) (by decide), Int.mul_pos (hc k).bd.2.1 hP8.2.1, nup (nab (hc k).bd.2.2 hP8.2.2) (by decide)⟩) ⟨fun z => Bool.noConfusion z, fun _ => ?_⟩), fun z => Bool.noConfusion z⟩
  refine ⟨divS (by decide) (by decide), by decide, fun y hy => ?_⟩
  have y0 : 0 ≤ y := by rw [hy]; exact Int.emod_nonneg _ (by decide)
  have y1 : y < 7 := by rw [hy]; exact Int.emod_lt_of_pos _ (by decide)
  clear hy
  refine forW_of (fun _ _ => True) trivial ?_ fun _ _ => ?_
  · rintro i x s nx hx _ hnx
    have hx := List.mem_of_getElem? hx
    simp only [List.mem_cons, List.not_mem_nil, or_false] at hx
    have x0 : 0 ≤ x ∧ x < 7 := by omega
    obtain ⟨r, rfl⟩ := Int.eq_ofNat_of_zero_le x0.1
    have er : List.replicate ((r : Int)).toNat ((0 : Int), (1 : Int)) ++ tab n c = tab (r + n) fun k => if k < r then (0, 1) else c (k - r) := by rw [toNat_rng, tab_rep, tab_app]
    refine raised_ok hp (by omega) (by omega) hcn fun pr hpr => ⟨⟨by omega, by omega⟩, by rw [toNat_rng, List.length_replicate, tab_len]; omega, ?_⟩
    rw [er]
    refine cutp_ok (by omega) (asked_ok hpr (by have := tl_le (z := zc fun k => if k < r then (0, 1) else c (k - r)) (n := r + n); omega) (fun k _ => ?_) ⟨fun z => Bool.noConfusion z, fun _ => hnx _ trivial⟩)
    by_cases z : k < r
    · rw [if_pos z]; exact ⟨by decide, by decide, by decide⟩
    · rw [if_neg z]; exact (hc _).sv
  have hy8 : y.natAbs ≤ 2 ^ 8 := by
    have e : (2 : Nat) ^ 8 = 256 := by decide
    omega
  have hY : ((y, (1 : Int)) : Int × Int).1.natAbs ≤ 2 ^ 8 ∧ 0 < ((y, (1 : Int)) : Int × Int).2 ∧ ((y, (1 : Int)) : Int × Int).2.natAbs ≤ 2 ^ 8 := ⟨hy8, Int.zero_lt_one, Nat.one_le_two_pow⟩
  obtain ⟨q1, q2, q3⟩ := pl_ok hY
  have e3 : (fun k => ((c k).1 * ((y, (1 : Int)) : Int × Int).1, (c k).2 * ((y, (1 : Int)) : Int × Int).2)) = fun k => ((c k).1 * y, (c k).2) := by
    funext k
    show (_, (c k).2 * 1) = _
    rw [Int.mul_one]
  refine ⟨by rw [tab_len]; omega, mapS_tab (fun k => ((c k).1 * y, (c k).2)) (fun k hk nx hx => ⟨mulB (hc k).bd.1 hy8, hx⟩) ?_⟩
  refine ⟨fun z => Bool.noConfusion z, fun _ => frac_ok (by decide) (by decide) (scaled_core (f := (y, 1)) hp hl (by omega) hcn (by have := (Rat.divInt y 1).den_pos; omega) Int.zero_lt_one q1 q2 (Rat.num_divInt_den _) fun ps hps => ?_)⟩
  rw [e3] at hps
  refine cutp_ok (by omega) (asked_ok hps (by have := tl_le (z := zc fun k => ((c k).1 * y, (c k).2)) (n := n); omega) (fun k _ => ⟨nup (nab (hc k).bd.1 hy8) (by decide), (hc k).sv.d⟩) ⟨fun z => Bool.noConfusion z, fun _ => ?_⟩)
  obtain ⟨r, rfl⟩ := Int.eq_ofNat_of_zero_le y0
  have ei : List.replicate ((r : Int)).toNat (0 : Int) ++ ([(1 : Int)] : List Int) = tab (r + 1) fun k => if k < r then 0 else 1 := by
    rw [toNat_rng, tab_rep]
    exact tab_push
  have ep : List.replicate ((r : Int)).toNat ((0 : Int), (1 : Int)) ++ ([((1 : Int), (1 : Int))] : List (Int × Int)) = tab (r + 1) fun k => if k < r then (0, 1) else (1, 1) := by
    rw [toNat_rng, tab_rep]
    exact tab_push
  have et : tl (zc fun k => if k < r then ((0 : Int), (1 : Int)) else (1, 1)) (r + 1) = r + 1 := by
    refine if_neg ?_
    show ¬ decide ((if r < r then ((0 : Int), (1 : Int)) else (1, 1)).1 = 0) = true
    rw [if_neg (Nat.lt_irrefl r)]
    decide
  refine ⟨⟨by omega, by omega⟩, by rw [toNat_rng, List.length_replicate]; show r + 1 ≤ _; omega, ?_⟩
  rw [ei]
  refine init_4_ok (c := fun k => if k < r then (0, 1) else (1, 1)) (by omega) (fun k _ => ?_) (fun k _ => ?_) fun pp hpp => ⟨⟨by omega, by omega⟩, by rw [toNat_rng, List.length_replicate]; show r + 1 ≤ _; omega, ?_⟩
  · show Rat.divInt (if k < r then 0 else 1) 1 = Rat.divInt (if k < r then ((0 : Int), (1 : Int)) else (1, 1)).1 (if k < r then ((0 : Int), (1 : Int)) else (1, 1)).2
    by_cases z : k < r
    · rw [if_pos z, if_pos z]
    · rw [if_neg z, if_neg z]
  · show Sm (if k < r then ((0 : Int), (1 : Int)) else (1, 1))
    by_cases z : k < r
    · rw [if_pos z]; exact ⟨⟨by decide, by decide⟩, by decide⟩
    · rw [if_neg z]; exact ⟨⟨by decide, by decide⟩, by decide⟩
  rw [ep]
  obtain ⟨hpp, _⟩ := hpp
  rw [et] at hpp
  refine asked_ok hpp (by omega) (fun k _ => ?_) ⟨fun z => Bool.noConfusion z, fun _ => ?_⟩
  · show Sv (if k < r then ((0 : Int), (1 : Int)) else (1, 1))
    by_cases z : k < r
    · rw [if_pos z]; exact ⟨by decide, by decide, by decide⟩
    · rw [if_neg z]; exact ⟨by decide, by decide, by decide⟩
  refine init3_ok fun p3 hp3 => ?_
  show W_L_asked p3 (tab 0 fun _ => ((0 : Int), (1 : Int))) _
  refine asked_ok hp3 (by decide) (fun k hk => by omega) ⟨fun _ => ?_, fun z => Bool.noConfusion z⟩
  refine asked_ok hp (by omega) (fun k _ => (hc k).sv) ⟨fun _ => ?_, fun z => Bool.noConfusion z⟩
  have eg : List.set (tab m (fun k => hdn (c k) w) ++ [Num.q (Rat.divInt 1 2)]) 0 (Num.q (Rat.divInt 5 1)) ++ List.map Num.i ([(1 : Int)] : List Int) = tab (m + 1 + 1) fun k => if k < m + 1 then (if k = 0 then Num.q (Rat.divInt 5 1) else if k < m then hdn (c k) w else Num.q (Rat.divInt 1 2)) else Num.i 1 := by
    rw [tab_push, tab_set]
    exact tab_push
  rw [eg]
  refine ⟨?_, ?_⟩
  · simp
    omega
  rw [init5]
  let c5 : Nat → Int × Int := fun k => if k < m + 1 then (if k = 0 then (5, 1) else if k < m then c k else (1, 2)) else (1, 1)
  have e5 : tl (zc c5) (m + 1 + 1) = m + 1 + 1 := by
    refine if_neg ?_
    show ¬ decide ((if m + 1 < m + 1 then (if m + 1 = 0 then ((5 : Int), (1 : Int)) else if m + 1 < m then c (m + 1) else (1, 2)) else (1, 1)).1 = 0) = true
    rw [if_neg (Nat.lt_irrefl _)]
    decide
  refine init_ok (c := c5) (by omega) (fun k hk => ?_) (fun k hk => ?_) fun p5 hp5 => ?_
  · show Nv _ (if k < m + 1 then (if k = 0 then (5, 1) else if k < m then c k else (1, 2)) else (1, 1))
    by_cases z : k < m + 1
    · rw [if_pos z, if_pos z]
      by_cases z0 : k = 0
      · rw [if_pos z0, if_pos z0]; exact .inr rfl
      · rw [if_neg z0, if_neg z0]
        by_cases z1 : k < m
        · rw [if_pos z1, if_pos z1]; exact hdn_nv
        · rw [if_neg z1, if_neg z1]; exact .inr rfl
    · rw [if_neg z, if_neg z]
      exact .inl ⟨1, rfl, rfl⟩
  · show Sm (if k < m + 1 then (if k = 0 then (5, 1) else if k < m then c k else (1, 2)) else (1, 1))
    by_cases z : k < m + 1
    · rw [if_pos z]
      by_cases z0 : k = 0
      · rw [if_pos z0]; exact ⟨⟨by decide, by decide⟩, by decide⟩
      · rw [if_neg z0]
        by_cases z1 : k < m
        · rw [if_pos z1]; exact (hc k).sm
        · rw [if_neg z1]; exact ⟨⟨by decide, by decide⟩, by decide⟩
    · rw [if_neg z]; exact ⟨⟨by decide, by decide⟩, by decide⟩
  obtain ⟨hp5, _⟩ := hp5
  rw [e5] at hp5
  exact eq_ne hp hp5 (by omega) rfl
end Law

set_option exponentiation.threshold 10000
namespace Law
open PySem L2 Evl Trk Sy
def top (i : Nat) : Stmt := PySem.Challenge.pw_tracerline_k06_polynomial_parts.main.body.getD i (.Pass ⟨0, 0, 0, 0⟩)
abbrev s_L_cell : Stmt := top 18
abbrev s_L_row : Stmt := top 19
abbrev s_L_top : Stmt := top 20
abbrev s_L_pairs : Stmt := top 21
abbrev s_Fraction_init : Stmt := inClass (top 7) 0
abbrev s_L_handed : Stmt := top 26
abbrev s_as_fraction : Stmt := top 8
abbrev s_Fraction_bool : Stmt := inClass (top 7) 10
abbrev s_common_bottom : Stmt := top 9
abbrev s_over_bottom : Stmt := top 10
abbrev s_Polynomial_init : Stmt := inClass (top 14) 0
abbrev s_Fraction_eq : Stmt := inClass (top 7) 11
abbrev s_is_number : Stmt := top 11
abbrev s_order : Stmt := top 12
abbrev s_L_cut : Stmt := top 24
abbrev s_Polynomial_coefficients : Stmt := inClass (top 14) 3
abbrev s_Polynomial_degree : Stmt := inClass (top 14) 2
abbrev s_Polynomial_len : Stmt := inClass (top 14) 5
abbrev s_L_is : Stmt := top 22
abbrev s_L_list : Stmt := top 23
abbrev s_Polynomial_getitem : Stmt := inClass (top 14) 6
abbrev s_L_asked : Stmt := top 27
abbrev s_Polynomial_call : Stmt := inClass (top 14) 8
abbrev s_L_value : Stmt := top 25
abbrev s_made : Stmt := top 16
abbrev s_Polynomial_neg : Stmt := inClass (top 14) 14
abbrev s_Polynomial_scaled : Stmt := inClass (top 14) 15
abbrev s_Polynomial_raised : Stmt := inClass (top 14) 16
abbrev s_Polynomial_power : Stmt := inClass (top 14) 1
abbrev s_Polynomial_eq : Stmt := inClass (top 14) 9
abbrev s_law : Stmt := top 28
theorem sc_L_cell : FnScope ["_law_script", "_law_k"] ["_law_script", "_law_k"] (defScope s_L_cell) := ⟨rfl, rfl, rfl, by decide +kernel, rfl, by decide +kernel, by decide +kernel⟩
theorem sc_L_row : FnScope ["_law_cell_here", "_law_span", "_law_many", "_law_number", "_law_great", "_law_row_here", "_law_k", "_law_blend"] ["_law_cell_here", "_law_span", "_law_many"] (defScope s_L_row) := ⟨rfl, rfl, rfl, by decide +kernel, rfl, by decide +kernel, by decide +kernel⟩
theorem sc_L_top : FnScope ["_law_number"] ["_law_number"] (defScope s_L_top) := ⟨rfl, rfl, rfl, by decide +kernel, rfl, by decide +kernel, by decide +kernel⟩
theorem sc_L_pairs : FnScope ["_law_script", "_law_at", "_law_many", "_law_tops", "_law_bottoms", "_law_k"] ["_law_script", "_law_at", "_law_many"] (defScope s_L_pairs) := ⟨rfl, rfl, rfl, by decide +kernel, rfl, by decide +kernel, by decide +kernel⟩
theorem sc_Fraction_init : FnScope ["self", "top", "bottom", "common"] ["self", "top", "bottom"] (defScope s_Fraction_init) := ⟨rfl, rfl, rfl, by decide +kernel, rfl, by decide +kernel, by decide +kernel⟩
theorem sc_L_handed : FnScope ["_law_pair", "_law_whole"] ["_law_pair", "_law_whole"] (defScope s_L_handed) := ⟨rfl, rfl, rfl, by decide +kernel, rfl, by decide +kernel, by decide +kernel⟩
theorem sc_as_fraction : FnScope ["number"] ["number"] (defScope s_as_fraction) := ⟨rfl, rfl, rfl, by decide +kernel, rfl, by decide +kernel, by decide +kernel⟩
theorem sc_Fraction_bool : FnScope ["self"] ["self"] (defScope s_Fraction_bool) := ⟨rfl, rfl, rfl, by decide +kernel, rfl, by decide +kernel, by decide +kernel⟩
theorem sc_common_bottom : FnScope ["numbers", "common", "number"] ["numbers"] (defScope s_common_bottom) := ⟨rfl, rfl, rfl, by decide +kernel, rfl, by decide +kernel, by decide +kernel⟩
theorem sc_over_bottom : FnScope ["number", "bottom"] ["number", "bottom"] (defScope s_over_bottom) := ⟨rfl, rfl, rfl, by decide +kernel, rfl, by decide +kernel, by decide +kernel⟩
theorem sc_Polynomial_init : FnScope ["self", "coefficients", "kept", "number"] ["self", "coefficients"] (defScope s_Polynomial_init) := ⟨rfl, rfl, rfl, by decide +kernel, rfl, by decide +kernel, by decide +kernel⟩
theorem sc_Fraction_eq : FnScope ["self", "other"] ["self", "other"] (defScope s_Fraction_eq) := ⟨rfl, rfl, rfl, by decide +kernel, rfl, by decide +kernel, by decide +kernel⟩
theorem sc_is_number : FnScope ["thing"] ["thing"] (defScope s_is_number) := ⟨rfl, rfl, rfl, by decide +kernel, rfl, by decide +kernel, by decide +kernel⟩
theorem sc_order : FnScope ["fraction", "number", "other"] ["fraction", "number"] (defScope s_order) := ⟨rfl, rfl, rfl, by decide +kernel, rfl, by decide +kernel, by decide +kernel⟩
theorem sc_L_cut : FnScope ["_law_pairs_here", "_law_span"] ["_law_pairs_here"] (defScope s_L_cut) := ⟨rfl, rfl, rfl, by decide +kernel, rfl, by decide +kernel, by decide +kernel⟩
theorem sc_Polynomial_coefficients : FnScope ["self", "top"] ["self"] (defScope s_Polynomial_coefficients) := ⟨rfl, rfl, rfl, by decide +kernel, rfl, by decide +kernel, by decide +kernel⟩
theorem sc_Polynomial_degree : FnScope ["self"] ["self"] (defScope s_Polynomial_degree) := ⟨rfl, rfl, rfl, by decide +kernel, rfl, by decide +kernel, by decide +kernel⟩
theorem sc_Polynomial_len : FnScope ["self"] ["self"] (defScope s_Polynomial_len) := ⟨rfl, rfl, rfl, by decide +kernel, rfl, by decide +kernel, by decide +kernel⟩
theorem sc_L_is : FnScope ["_law_got", "_law_pair"] ["_law_got", "_law_pair"] (defScope s_L_is) := ⟨rfl, rfl, rfl, by decide +kernel, rfl, by decide +kernel, by decide +kernel⟩
theorem sc_L_list : FnScope ["_law_values", "_law_pairs_here", "_law_k"] ["_law_values", "_law_pairs_here"] (defScope s_L_list) := ⟨rfl, rfl, rfl, by decide +kernel, rfl, by decide +kernel, by decide +kernel⟩
theorem sc_Polynomial_getitem : FnScope ["self", "at"] ["self", "at"] (defScope s_Polynomial_getitem) := ⟨rfl, rfl, rfl, by decide +kernel, rfl, by decide +kernel, by decide +kernel⟩
theorem sc_L_asked : FnScope ["_law_p", "_law_pairs_here", "_law_k", "_law_expected"] ["_law_p", "_law_pairs_here"] (defScope s_L_asked) := ⟨rfl, rfl, rfl, by decide +kernel, rfl, by decide +kernel, by decide +kernel⟩
theorem sc_Polynomial_call : FnScope ["self", "x", "place", "total", "scale", "top"] ["self", "x"] (defScope s_Polynomial_call) := ⟨rfl, rfl, rfl, by decide +kernel, rfl, by decide +kernel, by decide +kernel⟩
theorem sc_L_value : FnScope ["_law_pairs_here", "_law_place", "_law_top_here", "_law_bottom", "_law_k", "_law_pair"] ["_law_pairs_here", "_law_place"] (defScope s_L_value) := ⟨rfl, rfl, rfl, by decide +kernel, rfl, by decide +kernel, by decide +kernel⟩
theorem sc_made : FnScope ["tops", "bottom", "kept", "common", "top", "made"] ["tops", "bottom"] (defScope s_made) := ⟨rfl, rfl, rfl, by decide +kernel, rfl, by decide +kernel, by decide +kernel⟩
theorem sc_Polynomial_neg : FnScope ["self", "top"] ["self"] (defScope s_Polynomial_neg) := ⟨rfl, rfl, rfl, by decide +kernel, rfl, by decide +kernel, by decide +kernel⟩
theorem sc_Polynomial_scaled : FnScope ["self", "number", "factor", "top"] ["self", "number"] (defScope s_Polynomial_scaled) := ⟨rfl, rfl, rfl, by decide +kernel, rfl, by decide +kernel, by decide +kernel⟩
theorem sc_Polynomial_raised : FnScope ["self", "k"] ["self", "k"] (defScope s_Polynomial_raised) := ⟨rfl, rfl, rfl, by decide +kernel, rfl, by decide +kernel, by decide +kernel⟩
theorem sc_Polynomial_power : FnScope ["k"] ["k"] (defScope s_Polynomial_power) := ⟨rfl, rfl, rfl, by decide +kernel, rfl, by decide +kernel, by decide +kernel⟩
theorem sc_Polynomial_eq : FnScope ["self", "other"] ["self", "other"] (defScope s_Polynomial_eq) := ⟨rfl, rfl, rfl, by decide +kernel, rfl, by decide +kernel, by decide +kernel⟩
theorem sc_law : FnScope ["_law_script", "_law_choice", "_law_pairs_here", "_law_given", "_law_p", "_law_kept", "_law_told", "_law_place", "_law_scaled", "_law_power", "_law_more", "_law_pair", "_law_k"] ["_law_script"] (defScope s_law) := ⟨rfl, rfl, rfl, by decide +kernel, rfl, by decide +kernel, by decide +kernel⟩
structure Tx (P : Program) (w : World) (K : PySem.W.Frag) (mg : Str → Option Value) (base : Heap) where
  C_Fraction : Addr
  C_Polynomial : Addr
  C_BadFraction : Addr
  f_L_cell : Addr
  fd_L_cell : FuncData
  f_L_row : Addr
  fd_L_row : FuncData
  f_L_top : Addr
  fd_L_top : FuncData
  f_L_pairs : Addr
  fd_L_pairs : FuncData
  f_Fraction_init : Addr
  fd_Fraction_init : FuncData
  f_L_handed : Addr
  fd_L_handed : FuncData
  f_as_fraction : Addr
  fd_as_fraction : FuncData
  f_Fraction_bool : Addr
  fd_Fraction_bool : FuncData
  f_common_bottom : Addr
  fd_common_bottom : FuncData
  f_over_bottom : Addr
  fd_over_bottom : FuncData
  f_Polynomial_init : Addr
  fd_Polynomial_init : FuncData
  f_Fraction_eq : Addr
  fd_Fraction_eq : FuncData
  f_is_number : Addr
  fd_is_number : FuncData
  f_order : Addr
  fd_order : FuncData
  f_L_cut : Addr
  fd_L_cut : FuncData
  f_Polynomial_coefficients : Addr
  fd_Polynomial_coefficients : FuncData
  f_Polynomial_degree : Addr
  fd_Polynomial_degree : FuncData
  f_Polynomial_len : Addr
  fd_Polynomial_len : FuncData
  f_L_is : Addr
  fd_L_is : FuncData
  f_L_list : Addr
  fd_L_list : FuncData
  f_Polynomial_getitem : Addr
  fd_Polynomial_getitem : FuncData
  f_L_asked : Addr
  fd_L_asked : FuncData
  f_Polynomial_call : Addr
  fd_Polynomial_call : FuncData
  f_L_value : Addr
  fd_L_value : FuncData
  f_made : Addr
  fd_made : FuncData
  f_Polynomial_neg : Addr
  fd_Polynomial_neg : FuncData
  f_Polynomial_scaled : Addr
  fd_Polynomial_scaled : FuncData
  f_Polynomial_raised : Addr
  fd_Polynomial_raised : FuncData
  f_Polynomial_power : Addr
  fd_Polynomial_power : FuncData
  f_Polynomial_eq : Addr
  fd_Polynomial_eq : FuncData
  f_law : Addr
  fd_law : FuncData
  pp_Polynomial_degree : Addr
  pp_Polynomial_power : Addr
  F_L_cell : Fun K "_law_cell" "_law_cell" s_L_cell f_L_cell fd_L_cell
  F_L_row : Fun K "_law_row" "_law_row" s_L_row f_L_row fd_L_row
  F_L_top : Fun K "_law_top" "_law_top" s_L_top f_L_top fd_L_top
  F_L_pairs : Fun K "_law_pairs" "_law_pairs" s_L_pairs f_L_pairs fd_L_pairs
  F_Fraction_init : FunD K "__init__" "Fraction.__init__" (defArgs s_Fraction_init) (defBody s_Fraction_init) (defScope s_Fraction_init) [V.int 1] [] f_Fraction_init fd_Fraction_init
  F_L_handed : Fun K "_law_handed" "_law_handed" s_L_handed f_L_handed fd_L_handed
  F_as_fraction : Fun K "as_fraction" "as_fraction" s_as_fraction f_as_fraction fd_as_fraction
  F_Fraction_bool : Fun K "__bool__" "Fraction.__bool__" s_Fraction_bool f_Fraction_bool fd_Fraction_bool
  F_common_bottom : Fun K "common_bottom" "common_bottom" s_common_bottom f_common_bottom fd_common_bottom
  F_over_bottom : Fun K "over_bottom" "over_bottom" s_over_bottom f_over_bottom fd_over_bottom
  TU_Polynomial_init_0 : Addr
  F_Polynomial_init : FunD K "__init__" "Polynomial.__init__" (defArgs s_Polynomial_init) (defBody s_Polynomial_init) (defScope s_Polynomial_init) [V.ref TU_Polynomial_init_0] [] f_Polynomial_init fd_Polynomial_init
  F_Fraction_eq : Fun K "__eq__" "Fraction.__eq__" s_Fraction_eq f_Fraction_eq fd_Fraction_eq
  F_is_number : Fun K "_is_number" "_is_number" s_is_number f_is_number fd_is_number
  F_order : Fun K "_order" "_order" s_order f_order fd_order
  F_L_cut : Fun K "_law_cut" "_law_cut" s_L_cut f_L_cut fd_L_cut
  F_Polynomial_coefficients : Fun K "coefficients" "Polynomial.coefficients" s_Polynomial_coefficients f_Polynomial_coefficients fd_Polynomial_coefficients
  F_Polynomial_degree : Fun K "degree" "Polynomial.degree" s_Polynomial_degree f_Polynomial_degree fd_Polynomial_degree
  F_Polynomial_len : Fun K "__len__" "Polynomial.__len__" s_Polynomial_len f_Polynomial_len fd_Polynomial_len
  F_L_is : Fun K "_law_is" "_law_is" s_L_is f_L_is fd_L_is
  F_L_list : Fun K "_law_list" "_law_list" s_L_list f_L_list fd_L_list
  F_Polynomial_getitem : Fun K "__getitem__" "Polynomial.__getitem__" s_Polynomial_getitem f_Polynomial_getitem fd_Polynomial_getitem
  F_L_asked : Fun K "_law_asked" "_law_asked" s_L_asked f_L_asked fd_L_asked
  F_Polynomial_call : Fun K "__call__" "Polynomial.__call__" s_Polynomial_call f_Polynomial_call fd_Polynomial_call
  F_L_value : Fun K "_law_value" "_law_value" s_L_value f_L_value fd_L_value
  F_made : Fun K "_made" "_made" s_made f_made fd_made
  F_Polynomial_neg : Fun K "__neg__" "Polynomial.__neg__" s_Polynomial_neg f_Polynomial_neg fd_Polynomial_neg
  F_Polynomial_scaled : Fun K "scaled" "Polynomial.scaled" s_Polynomial_scaled f_Polynomial_scaled fd_Polynomial_scaled
  F_Polynomial_raised : Fun K "raised" "Polynomial.raised" s_Polynomial_raised f_Polynomial_raised fd_Polynomial_raised
  F_Polynomial_power : Fun K "power" "Polynomial.power" s_Polynomial_power f_Polynomial_power fd_Polynomial_power
  F_Polynomial_eq : Fun K "__eq__" "Polynomial.__eq__" s_Polynomial_eq f_Polynomial_eq fd_Polynomial_eq
  F_law : Fun K "law" "law" s_law f_law fd_law
  z_len : mg "len" = none
  m_L_cell : mg "_law_cell" = some (.ref f_L_cell)
  k_L_cell : PySem.W.keepIn K (.ref f_L_cell) = true
  kb_L_cell_2 : KB K fd_L_cell ["_law_script", "_law_k"] 2 [] (fun ds _ => ds)
  z_int : mg "int" = none
  z_abs : mg "abs" = none
  z_range : mg "range" = none
  m_L_row : mg "_law_row" = some (.ref f_L_row)
  k_L_row : PySem.W.keepIn K (.ref f_L_row) = true
  kb_L_row_3 : KB K fd_L_row ["_law_cell_here", "_law_span", "_law_many"] 3 [] (fun ds _ => ds)
  m_L_top : mg "_law_top" = some (.ref f_L_top)
  k_L_top : PySem.W.keepIn K (.ref f_L_top) = true
  kb_L_top_1 : KB K fd_L_top ["_law_number"] 1 [] (fun ds _ => ds)
  m_L_pairs : mg "_law_pairs" = some (.ref f_L_pairs)
  k_L_pairs : PySem.W.keepIn K (.ref f_L_pairs) = true
  kb_L_pairs_3 : KB K fd_L_pairs ["_law_script", "_law_at", "_law_many"] 3 [] (fun ds _ => ds)
  mg_Fraction : mg "Fraction" = some (.ref C_Fraction)
  mk_Fraction : Mk K C_Fraction f_Fraction_init
  kb_Fraction_init_3 : KB K fd_Fraction_init ["self", "top", "bottom"] 3 [] (fun ds _ => ds)
  m_L_handed : mg "_law_handed" = some (.ref f_L_handed)
  k_L_handed : PySem.W.keepIn K (.ref f_L_handed) = true
  kb_L_handed_2 : KB K fd_L_handed ["_law_pair", "_law_whole"] 2 [] (fun ds _ => ds)
  cls_Polynomial : Cls K C_Polynomial
  z_isinstance : mg "isinstance" = none
  sub1 : PySem.W.subIn K (.type "int") (.ref C_Fraction) = some false
  sub2 : PySem.W.subIn K (.ref C_Fraction) (.type "int") = some false
  icl : PySem.W.isClsIn K C_Fraction = true
  ityp : PySem.W.typeIn K (.ref C_Fraction) = some (.type "type")
  kb_Fraction_init_2 : KB K fd_Fraction_init ["self", "top", "bottom"] 2 [] (fun ds zs => match ds, zs with | [x0, x1], [] => [x0, x1, (iD (1 : Int))] | _, _ => [])
  cls_Fraction : Cls K C_Fraction
  ca_Fraction : PySem.W.findIn K (.ref C_Fraction) "__class__" = some (some (.builtin "object.__class__"))
  cm_Fraction : PySem.W.mroIn K C_Fraction (.type "object") = some true
  cn : PySem.W.specialIn K (.builtin "object.__class__") "__get__" = some (some (.builtin "getset_descriptor.__get__"))
  ct : PySem.W.takesIn K (.builtin "object.__class__") = some true
  m_as_fraction : mg "as_fraction" = some (.ref f_as_fraction)
  k_as_fraction : PySem.W.keepIn K (.ref f_as_fraction) = true
  kb_as_fraction_1 : KB K fd_as_fraction ["number"] 1 [] (fun ds _ => ds)
  na_Fraction_top : NoAttr K C_Fraction "top"
  z_bool : mg "bool" = none
  cmp_bool : CmpM K C_Fraction "__bool__" f_Fraction_bool
  bb_Fraction_bool : Binds K fd_Fraction_bool ["self"] []
  na_Fraction_bottom : NoAttr K C_Fraction "bottom"
  i_lcm : mg "lcm" = some (.builtin "math.lcm")
  m_common_bottom : mg "common_bottom" = some (.ref f_common_bottom)
  k_common_bottom : PySem.W.keepIn K (.ref f_common_bottom) = true
  kb_common_bottom_1 : KB K fd_common_bottom ["numbers"] 1 [] (fun ds _ => ds)
  na_Polynomial__bottom : NoAttr K C_Polynomial "_bottom"
  m_over_bottom : mg "over_bottom" = some (.ref f_over_bottom)
  k_over_bottom : PySem.W.keepIn K (.ref f_over_bottom) = true
  kb_over_bottom_2 : KB K fd_over_bottom ["number", "bottom"] 2 [] (fun ds _ => ds)
  na_Polynomial__tops : NoAttr K C_Polynomial "_tops"
  mg_Polynomial : mg "Polynomial" = some (.ref C_Polynomial)
  mk_Polynomial : Mk K C_Polynomial f_Polynomial_init
  kb_Polynomial_init_2 : KB K fd_Polynomial_init ["self", "coefficients"] 2 [] (fun ds _ => ds)
  z_tuple : mg "tuple" = none
  kb_Polynomial_init_1_coefficients : KB K fd_Polynomial_init ["self", "coefficients"] 1 ["coefficients"] (fun ds zs => match ds, zs with | [x0], [y0] => [x0, y0] | _, _ => [])
  cmp_eq : CmpM K C_Fraction "__eq__" f_Fraction_eq
  m_is_number : mg "_is_number" = some (.ref f_is_number)
  k_is_number : PySem.W.keepIn K (.ref f_is_number) = true
  kb_is_number_1 : KB K fd_is_number ["thing"] 1 [] (fun ds _ => ds)
  m_order : mg "_order" = some (.ref f_order)
  k_order : PySem.W.keepIn K (.ref f_order) = true
  kb_order_2 : KB K fd_order ["fraction", "number"] 2 [] (fun ds _ => ds)
  bb_Fraction_eq : Binds K fd_Fraction_eq ["self", "other"] []
  z_all : mg "all" = none
  m_L_cut : mg "_law_cut" = some (.ref f_L_cut)
  k_L_cut : PySem.W.keepIn K (.ref f_L_cut) = true
  kb_L_cut_1 : KB K fd_L_cut ["_law_pairs_here"] 1 [] (fun ds _ => ds)
  bb_Polynomial_degree : Binds K fd_Polynomial_degree ["self"] []
  ca_Polynomial : PySem.W.findIn K (.ref C_Polynomial) "__class__" = some (some (.builtin "object.__class__"))
  cm_Polynomial : PySem.W.mroIn K C_Polynomial (.type "object") = some true
  pf_Polynomial_degree : PropOf K C_Polynomial "degree" pp_Polynomial_degree f_Polynomial_degree
  cmpo_Polynomial_len : CmpM K C_Polynomial "__len__" f_Polynomial_len
  bb_Polynomial_len : Binds K fd_Polynomial_len ["self"] []
  me_Polynomial_coefficients : Meth K C_Polynomial "coefficients" f_Polynomial_coefficients
  kb_Polynomial_coefficients_1 : KB K fd_Polynomial_coefficients ["self"] 1 [] (fun ds _ => ds)
  z_list : mg "list" = none
  m_L_is : mg "_law_is" = some (.ref f_L_is)
  k_L_is : PySem.W.keepIn K (.ref f_L_is) = true
  kb_L_is_2 : KB K fd_L_is ["_law_got", "_law_pair"] 2 [] (fun ds _ => ds)
  m_L_list : mg "_law_list" = some (.ref f_L_list)
  k_L_list : PySem.W.keepIn K (.ref f_L_list) = true
  kb_L_list_2 : KB K fd_L_list ["_law_values", "_law_pairs_here"] 2 [] (fun ds _ => ds)
  fnin_Polynomial_getitem : PySem.W.fnIn K f_Polynomial_getitem = true
  cmpo_Polynomial_getitem : CmpM K C_Polynomial "__getitem__" f_Polynomial_getitem
  bb_Polynomial_getitem : Binds K fd_Polynomial_getitem ["self", "at"] []
  m_L_asked : mg "_law_asked" = some (.ref f_L_asked)
  k_L_asked : PySem.W.keepIn K (.ref f_L_asked) = true
  kb_L_asked_2 : KB K fd_L_asked ["_law_p", "_law_pairs_here"] 2 [] (fun ds _ => ds)
  fnin_Polynomial_call : PySem.W.fnIn K f_Polynomial_call = true
  cmpo_Polynomial_call : CmpM K C_Polynomial "__call__" f_Polynomial_call
  bb_Polynomial_call : Binds K fd_Polynomial_call ["self", "x"] []
  m_L_value : mg "_law_value" = some (.ref f_L_value)
  k_L_value : PySem.W.keepIn K (.ref f_L_value) = true
  kb_L_value_2 : KB K fd_L_value ["_law_pairs_here", "_law_place"] 2 [] (fun ds _ => ds)
  i_gcd : mg "gcd" = some (.builtin "math.gcd")
  kb_Polynomial_init_1 : KB K fd_Polynomial_init ["self", "coefficients"] 1 [] (fun ds zs => match ds, zs with | [x0], [] => [x0, (eT0 ())] | _, _ => [])
  m_made : mg "_made" = some (.ref f_made)
  k_made : PySem.W.keepIn K (.ref f_made) = true
  kb_made_2 : KB K fd_made ["tops", "bottom"] 2 [] (fun ds _ => ds)
  cmpo_Polynomial_neg : CmpM K C_Polynomial "__neg__" f_Polynomial_neg
  bb_Polynomial_neg : Binds K fd_Polynomial_neg ["self"] []
  me_Polynomial_scaled : Meth K C_Polynomial "scaled" f_Polynomial_scaled
  kb_Polynomial_scaled_2 : KB K fd_Polynomial_scaled ["self", "number"] 2 [] (fun ds _ => ds)
  me_Polynomial_raised : Meth K C_Polynomial "raised" f_Polynomial_raised
  kb_Polynomial_raised_2 : KB K fd_Polynomial_raised ["self", "k"] 2 [] (fun ds _ => ds)
  sm_Polynomial_power : SMet K C_Polynomial "power" pp_Polynomial_power f_Polynomial_power
  kb_Polynomial_power_1 : KB K fd_Polynomial_power ["k"] 1 [] (fun ds _ => ds)
  cmpo_Polynomial_eq : CmpM K C_Polynomial "__eq__" f_Polynomial_eq
  bb_Polynomial_eq : Binds K fd_Polynomial_eq ["self", "other"] []
  er_BadFraction : ErT K mg "BadFraction" C_BadFraction
section
variable {P : Program} {w : World} {K : PySem.W.Frag} {mg : Str → Option Value} {base : Heap}
abbrev f_Polynomial (T : Tx P w K mg base) (r : R_Polynomial) : List (Str × D) := [("_bottom", iD r._bottom), ("_tops", (eL iD) r._tops)]
abbrev e_Polynomial (T : Tx P w K mg base) (r : R_Polynomial) : D := .obj T.C_Polynomial (f_Polynomial T r)
abbrev exC (T : Tx P w K mg base) : Exn → Value
  | .BadFraction => .ref T.C_BadFraction
abbrev exF (T : Tx P w K mg base) : Exn → List (Str × D)
  | .BadFraction => []
theorem ok_Fraction (T : Tx P w K mg base) : FnOk P w K mg base (L2.CX P w) 1 T.f_Fraction_init T.fd_Fraction_init ["self", "top", "bottom"] (spS K 3 (fun ds Ω Qd Rd => ∃ (q_self : Addr) (a b : Int) (Q : Rat → Prop) (X : Exn → Prop), ds = [rD q_self, iD a, iD b] ∧ Ω = [(q_self, Cell.ins T.C_Fraction [])] ∧ W_Fraction a b Q X ∧
    (∀ r, Q r → Qd (.v .non) [(q_self, Cell.ins T.C_Fraction [("top", iD r.num), ("bottom", iD (r.den : Int))])]) ∧ (∀ e, X e → Rd (exC T e) (exF T e) []))) := by
  refine fn_S0 T.F_Fraction_init sc_Fraction_init (by decide) fun cdv A outer s H E ds Ω Qd Rd hr hh => ?_
  obtain ⟨q, a, b, Q, X, rfl, rfl, ⟨hW1, hW2⟩, hQ, hX⟩ := hh
  show SS _ _ [some (rD q), some (iD a), some (iD b), none] [(q, Cell.ins T.C_Fraction [])] _
  by_cases h0 : b = 0
  · refine ss_if (tx_cmp op_eq (ex_var 2 rfl (ex_int (ox_eqI ⟨_, rfl, ⟨fun ht => ?_, fun ht => ?_⟩⟩))))
    · exact ss_raise0 rfl T.er_BadFraction (ph_ex (Rd := Rd) [] [] (Pick.d Pick.nil) (hX .BadFraction (hW2 h0)))
    · exact absurd h0 (of_decide_eq_false ht)
  · obtain ⟨hz, hq⟩ := hW1 h0
    have hcz : CDivZ a (cmn a b) := cdivZ_of (cmn_ne h0) (Nat.lt_of_le_of_lt (cmn_le h0) hz)
    refine ss_if (tx_cmp op_eq (ex_var 2 rfl (ex_int (ox_eqI ⟨_, rfl, ⟨fun ht => absurd (of_decide_eq_true ht) h0, fun ht => ?_⟩⟩))))
    refine ss_nil (seq_nx ?_)
    refine ss_asg 3 sc_Fraction_init.nd (ex_callBf cr_gcd T.i_gcd (ax_cons (ex_var 1 rfl (ax_cons (ex_var 2 rfl (ax_nil (cx_gcd ?_)))))))
    show SS _ _ [some (rD q), some (iD a), some (iD b), some (iD ((Nat.gcd a.natAbs b.natAbs : Nat) : Int))] [(q, Cell.ins T.C_Fraction [])] _
    refine ss_if (tx_cmp op_lt (ex_var 2 rfl (ex_int (ox_I0 ⟨_, rfl, ⟨fun ht => ?_, fun ht => ?_⟩⟩))))
    · refine ss_asg 3 sc_Fraction_init.nd (ex_un un_neg (ex_var 3 rfl (ux_neg (ss_nil (seq_nx ?_)))))
      have e : -((Nat.gcd a.natAbs b.natAbs : Nat) : Int) = cmn a b := by
        unfold cmn
        rw [if_pos (of_decide_eq_true ht)]
      rw [e]
      refine ss_attr T.cls_Fraction T.na_Fraction_top (ex_op op_fdivZ (ex_var 1 rfl (ex_var 3 rfl (ox_I hcz (ex_var 0 rfl ⟨0, _, _, rfl, rfl, Nat.le_of_ble_eq_true rfl, ?_⟩)))))
      refine ss_attr T.cls_Fraction T.na_Fraction_bottom (ex_op op_fdivZ (ex_var 2 rfl (ex_var 3 rfl (ox_I hcz (ex_var 0 rfl ⟨0, _, _, rfl, rfl, Nat.le_of_ble_eq_true rfl, ?_⟩)))))
      rw [top_eq h0, bottom_eq h0]
      exact ss_nil (ph_rt (Qd := Qd) _ [] (Pick.l Pick.nil) (hQ _ hq))
    · refine ss_nil (seq_nx ?_)
      have e : ((Nat.gcd a.natAbs b.natAbs : Nat) : Int) = cmn a b := by
        unfold cmn
        rw [if_neg (of_decide_eq_false ht)]
      rw [e]
      refine ss_attr T.cls_Fraction T.na_Fraction_top (ex_op op_fdivZ (ex_var 1 rfl (ex_var 3 rfl (ox_I hcz (ex_var 0 rfl ⟨0, _, _, rfl, rfl, Nat.le_of_ble_eq_true rfl, ?_⟩)))))
      refine ss_attr T.cls_Fraction T.na_Fraction_bottom (ex_op op_fdivZ (ex_var 2 rfl (ex_var 3 rfl (ox_I hcz (ex_var 0 rfl ⟨0, _, _, rfl, rfl, Nat.le_of_ble_eq_true rfl, ?_⟩)))))
      rw [top_eq h0, bottom_eq h0]
      exact ss_nil (ph_rt (Qd := Qd) _ [] (Pick.l Pick.nil) (hQ _ hq))
theorem ok_L_cell (T : Tx P w K mg base) : FnOk P w K mg base (L2.CX P w) 1 T.f_L_cell T.fd_L_cell ["_law_script", "_law_k"] (spS K 2 (fun ds Ω Qd Rd => ∃ (v_script : (List Int)) (v_k : Int) (Q : Int → Prop), ds = [D.scr v_script, iD v_k] ∧ Ω = [] ∧ W_L_cell v_script v_k Q ∧ (∀ r , Q r  → Qd (iD r) []))) := by
  refine fn_S T.F_L_cell sc_L_cell (by decide) fun cdv A outer s H E ds Ω Qd Rd hr hh => ?_
  obtain ⟨v_script, v_k, Q, rfl, rfl, hW, hQ⟩ := hh
  unfold W_L_cell at hW
  show SS _ _ [some (D.scr v_script), some (iD v_k)] [] _
  refine (ss_if (tx_cmp op_lt (ex_var 1 rfl (ex_callB call_len_seq T.z_len PySem.boot_len (ax_cons (ex_var 0 rfl (ax_nil (cx_lenC (ox_I0 ⟨_, rfl, ⟨fun ht4 => ?_, fun ht4 => ?_⟩⟩)))))))))
  · show SS _ _ [some (D.scr v_script), some (iD v_k)] [] _
    exact ss_ret (ex_ixC (ex_var 0 rfl (ex_var 1 rfl (Exists.elim (hW.1 ht4) fun v5 h6 => ⟨_, _, _, rfl, rfl, h6.1, (ph_rt (Qd := Qd) [] [] Pick.nil (hQ v5 h6.2))⟩))))
  · show SS _ _ [some (D.scr v_script), some (iD v_k)] [] _
    refine ss_nil (seq_nx ?_)
    show SS _ _ [some (D.scr v_script), some (iD v_k)] [] _
    exact ss_ret (ex_int (ph_rt (Qd := Qd) [] [] Pick.nil (hQ (0 : Int) (hW.2 ht4))))
theorem ok_L_row (T : Tx P w K mg base) : FnOk P w K mg base (L2.CX P w) 1 T.f_L_row T.fd_L_row ["_law_cell_here", "_law_span", "_law_many"] (spS K 3 (fun ds Ω Qd Rd => ∃ (v_cell_here : Int) (v_span : Int) (v_many : Int) (Q : (List Int) → Prop), ds = [iD v_cell_here, iD v_span, iD v_many] ∧ Ω = [] ∧ W_L_row v_cell_here v_span v_many Q ∧ (∀ r , Q r  → ∀ p : Addr, Qd (rD p) ((p, Cell.lst (List.map iD r)) :: [])))) := by
  refine fn_S T.F_L_row sc_L_row (by decide) fun cdv A outer s H E ds Ω Qd Rd hr hh => ?_
  obtain ⟨v_cell_here, v_span, v_many, Q, rfl, rfl, hW, hQ⟩ := hh
  unfold W_L_row at hW
  show SS _ _ [some (iD v_cell_here), some (iD v_span), some (iD v_many), none, none, none, none, none] [] _
  refine (ss_asg 3 sc_L_row.nd (ex_callB call_abs T.z_abs (by decide +kernel) (ax_cons (ex_callTy call_int1 T.z_int (by decide +kernel) (ax_cons (ex_var 0 rfl (ax_nil (cx_int (ax_nil (cx_abs ?_))))))))))
  show SS _ _ [some (iD v_cell_here), some (iD v_span), some (iD v_many), some (iD (v_cell_here.natAbs : Int)), none, none, none, none] [] _
  refine (ss_asg 4 sc_L_row.nd (ex_cmp op_ge (ex_var 3 rfl (ex_op op_powW (ex_int (ex_int (ox_I hW.1 (ox_I0 (ss_gen (fun x17 => [some (iD v_cell_here), some (iD v_span), some (iD v_many), some (iD (v_cell_here.natAbs : Int)), some (bD x17), none, none, none]) (fun x17 => []) hW.2 (fun x17 h18 => ?_))))))))))
  show SS _ _ [some (iD v_cell_here), some (iD v_span), some (iD v_many), some (iD (v_cell_here.natAbs : Int)), some (bD x17), none, none, none] [] _
  refine (ss_asg 5 sc_L_row.nd (ex_lst (ax_nil ⟨Nat.le_of_ble_eq_true rfl, fun p19 => ?_⟩)))
  show SS _ _ [some (iD v_cell_here), some (iD v_span), some (iD v_many), some (iD (v_cell_here.natAbs : Int)), some (bD x17), some (rD p19), none, none] [(p19, Cell.lst (List.map iD ([] : List Int)))] _
  refine (ss_forW iD rfl (pg_name (i := 6) sc_L_row.nd rfl (by first | exact Or.inl rfl | exact Or.inr rfl)) (fun (s22 : Int × List Int) Γ0 Ω0 => ∃ j20 : Option D, ∃ j21 : Option D, Γ0 = [some (iD v_cell_here), some (iD v_span), some (iD v_many), some (iD s22.1), some (bD x17), some (rD p19), j20, j21] ∧ Ω0 = [(p19, Cell.lst (List.map iD s22.2))]) (iw_rng1 T.z_range (ex_var 2 rfl ⟨_, rfl, h18.1.1, h18.1.2, ⟨_, _, _, h18.2, ⟨_, _, rfl, rfl⟩, (fun s Γ Ω ⟨_, _, e1, e2⟩ => e2 ▸ True.intro), ?_, ?_⟩⟩)))
  · intro x23 s22 Γ9 Ω9 nx24 i9 h25
    obtain ⟨j20, j21, rfl, rfl⟩ := i9
    refine ⟨_, _, (Tgt.name 6), ix_all rfl, ?_⟩
    show SS _ _ [some (iD v_cell_here), some (iD v_span), some (iD v_many), some (iD s22.1), some (bD x17), some (rD p19), some (iD x23), j21] [(p19, Cell.lst (List.map iD s22.2))] _
    refine (ss_ifK (fun (s30 : Int × List Int) Γ0 Ω0 => ∃ j29 : Option D, Γ0 = [some (iD v_cell_here), some (iD v_span), some (iD v_many), some (iD s30.1), some (bD x17), some (rD p19), some (iD x23), j29] ∧ Ω0 = [(p19, Cell.lst (List.map iD s30.2))]) h25 (fun h32 => (tx_val (ex_var 4 rfl ⟨_, rfl, ⟨fun ht34 => ?_, fun ht34 => ?_⟩⟩))) ?_)
    · show SS _ _ [some (iD v_cell_here), some (iD v_span), some (iD v_many), some (iD s22.1), some (bD x17), some (rD p19), some (iD x23), j21] [(p19, Cell.lst (List.map iD s22.2))] _
      refine (ss_expr (ex_appT (ex_var 5 rfl ⟨_, 0, _, rfl, rfl, (ex_op op_mod (ex_var 3 rfl (ex_var 1 rfl (ox_I (h32.1 ht34).1 ⟨iD, 0, s22.2, (s22.1 % v_span), rfl, rfl, (h32.1 ht34).2.1, ?_⟩))))⟩)))
      show SS _ _ [some (iD v_cell_here), some (iD v_span), some (iD v_many), some (iD s22.1), some (bD x17), some (rD p19), some (iD x23), j21] [(p19, Cell.lst (List.map iD (s22.2 ++ [(s22.1 % v_span)])))] _
      refine (ss_asg 3 sc_L_row.nd (ex_op op_fdivW (ex_var 3 rfl (ex_var 1 rfl (ox_I (h32.1 ht34).2.2.1 (ss_gen (fun x35 => [some (iD v_cell_here), some (iD v_span), some (iD v_many), some (iD x35), some (bD x17), some (rD p19), some (iD x23), j21]) (fun x35 => [(p19, Cell.lst (List.map iD (s22.2 ++ [(s22.1 % v_span)])))]) (h32.1 ht34).2.2.2 (fun x35 h36 => ?_)))))))
      show SS _ _ [some (iD v_cell_here), some (iD v_span), some (iD v_many), some (iD x35), some (bD x17), some (rD p19), some (iD x23), j21] [(p19, Cell.lst (List.map iD (s22.2 ++ [(s22.1 % v_span)])))] _
      exact ss_nil (Exists.intro (x35, (s22.2 ++ [(s22.1 % v_span)])) (And.intro ⟨_, rfl, rfl⟩ h36))
    · show SS _ _ [some (iD v_cell_here), some (iD v_span), some (iD v_many), some (iD s22.1), some (bD x17), some (rD p19), some (iD x23), j21] [(p19, Cell.lst (List.map iD s22.2))] _
      refine (ss_asg 7 sc_L_row.nd (ex_op op_mod (ex_op op_powW (ex_op op_add (ex_op op_add (ex_op op_mulW (ex_var 3 rfl (ex_int (ox_I (h32.2 ht34).1 (ex_op op_mulW (ex_var 6 rfl (ex_int (ox_I (h32.2 ht34).2.1 (ox_I0 (ex_int (ox_I0 (ex_int (ox_I (h32.2 ht34).2.2.1 (ex_int (ox_I (h32.2 ht34).2.2.2.1 (ss_gen (fun x37 => [some (iD v_cell_here), some (iD v_span), some (iD v_many), some (iD s22.1), some (bD x17), some (rD p19), some (iD x23), some (iD x37)]) (fun x37 => [(p19, Cell.lst (List.map iD s22.2))]) (h32.2 ht34).2.2.2.2 (fun x37 h38 => ?_))))))))))))))))))))))
      show SS _ _ [some (iD v_cell_here), some (iD v_span), some (iD v_many), some (iD s22.1), some (bD x17), some (rD p19), some (iD x23), some (iD x37)] [(p19, Cell.lst (List.map iD s22.2))] _
      refine (ss_asg 7 sc_L_row.nd (ex_op op_mod (ex_op op_powW (ex_op op_add (ex_op op_add (ex_op op_mulW (ex_var 7 rfl (ex_int (ox_I h38.1 (ex_var 3 rfl (ox_I0 (ex_op op_mulW (ex_var 6 rfl (ex_int (ox_I h38.2.1 (ox_I0 (ex_int (ox_I h38.2.2.1 (ex_int (ox_I h38.2.2.2.1 (ss_gen (fun x39 => [some (iD v_cell_here), some (iD v_span), some (iD v_many), some (iD s22.1), some (bD x17), some (rD p19), some (iD x23), some (iD x39)]) (fun x39 => [(p19, Cell.lst (List.map iD s22.2))]) h38.2.2.2.2 (fun x39 h40 => ?_))))))))))))))))))))))
      show SS _ _ [some (iD v_cell_here), some (iD v_span), some (iD v_many), some (iD s22.1), some (bD x17), some (rD p19), some (iD x23), some (iD x39)] [(p19, Cell.lst (List.map iD s22.2))] _
      refine (ss_expr (ex_appT (ex_var 5 rfl ⟨_, 0, _, rfl, rfl, (ex_op op_mod (ex_var 7 rfl (ex_var 1 rfl (ox_I h40.1 ⟨iD, 0, s22.2, (x39 % v_span), rfl, rfl, h40.2.1, ?_⟩))))⟩)))
      show SS _ _ [some (iD v_cell_here), some (iD v_span), some (iD v_many), some (iD s22.1), some (bD x17), some (rD p19), some (iD x23), some (iD x39)] [(p19, Cell.lst (List.map iD (s22.2 ++ [(x39 % v_span)])))] _
      exact ss_nil (Exists.intro (s22.1, (s22.2 ++ [(x39 % v_span)])) (And.intro ⟨_, rfl, rfl⟩ h40.2.2))
    · intro s30 Γ9 Ω9 i9 h33
      obtain ⟨j29, rfl, rfl⟩ := i9
      show SS _ _ [some (iD v_cell_here), some (iD v_span), some (iD v_many), some (iD s30.1), some (bD x17), some (rD p19), some (iD x23), j29] [(p19, Cell.lst (List.map iD s30.2))] _
      exact ss_nil (Exists.intro (s30.1, s30.2) (And.intro h33 ⟨_, _, rfl, rfl⟩))
  · intro s22 Γ9 Ω9 i9 h26
    obtain ⟨j20, j21, rfl, rfl⟩ := i9
    show SS _ _ [some (iD v_cell_here), some (iD v_span), some (iD v_many), some (iD s22.1), some (bD x17), some (rD p19), j20, j21] [(p19, Cell.lst (List.map iD s22.2))] _
    exact ss_ret (ex_var 5 rfl (ph_rt (Qd := Qd) [(p19, Cell.lst (List.map iD s22.2))] [] (Pick.l Pick.nil) (hQ s22.2 h26 _)))
theorem ok_L_top (T : Tx P w K mg base) : FnOk P w K mg base (L2.CX P w) 1 T.f_L_top T.fd_L_top ["_law_number"] (spS K 1 (fun ds Ω Qd Rd => ∃ (v_number : Int) (Q : Int → Prop), ds = [iD v_number] ∧ Ω = [] ∧ W_L_top v_number Q ∧ (∀ r , Q r  → Qd (iD r) []))) := by
  refine fn_S T.F_L_top sc_L_top (by decide) fun cdv A outer s H E ds Ω Qd Rd hr hh => ?_
  obtain ⟨v_number, Q, rfl, rfl, hW, hQ⟩ := hh
  unfold W_L_top at hW
  show SS _ _ [some (iD v_number)] [] _
  refine (ss_if (tx_cmp op_lt (ex_var 0 rfl (ex_int (ox_I0 ⟨_, rfl, ⟨fun ht75 => ?_, fun ht75 => ?_⟩⟩)))))
  · show SS _ _ [some (iD v_number)] [] _
    exact ss_ret (ex_int (ph_rt (Qd := Qd) [] [] Pick.nil (hQ (0 : Int) (hW.1 ht75))))
  · show SS _ _ [some (iD v_number)] [] _
    refine ss_nil (seq_nx ?_)
    show SS _ _ [some (iD v_number)] [] _
    refine (ss_if (tx_cmp op_lt (ex_var 0 rfl (ex_int (ox_I0 ⟨_, rfl, ⟨fun ht76 => ?_, fun ht76 => ?_⟩⟩)))))
    · show SS _ _ [some (iD v_number)] [] _
      exact ss_ret (ex_op op_sub (ex_var 0 rfl (ex_int (ox_I0 (ph_rt (Qd := Qd) [] [] Pick.nil (hQ (v_number - (10 : Int)) ((hW.2 ht75).1 ht76)))))))
    · show SS _ _ [some (iD v_number)] [] _
      refine ss_nil (seq_nx ?_)
      show SS _ _ [some (iD v_number)] [] _
      exact ss_ret (ex_op op_sub (ex_int (ex_var 0 rfl (ox_I0 (ph_rt (Qd := Qd) [] [] Pick.nil (hQ ((19 : Int) - v_number) ((hW.2 ht75).2 ht76)))))))
theorem ok_L_pairs (T : Tx P w K mg base) : FnOk P w K mg base (L2.CX P w) 2 T.f_L_pairs T.fd_L_pairs ["_law_script", "_law_at", "_law_many"] (spS K 3 (fun ds Ω Qd Rd => ∃ (v_script : (List Int)) (v_at : Int) (v_many : Int) (Q : (List (Int × Int)) → Prop), ds = [D.scr v_script, iD v_at, iD v_many] ∧ Ω = [] ∧ W_L_pairs v_script v_at v_many Q ∧ (∀ r , Q r  → ∀ p : Addr, Qd (rD p) ((p, Cell.lst (List.map (eT iD iD) r)) :: [])))) := by
  refine fn_S T.F_L_pairs sc_L_pairs (by decide) fun cdv A outer s H E ds Ω Qd Rd hr hh => ?_
  obtain ⟨v_script, v_at, v_many, Q, rfl, rfl, hW, hQ⟩ := hh
  unfold W_L_pairs at hW
  show SS _ _ [some (D.scr v_script), some (iD v_at), some (iD v_many), none, none, none] [] _
  refine (ss_asg 3 sc_L_pairs.nd (ex_frz (ex_call (ok_L_row T) (hr.mono (by decide)) T.m_L_row T.k_L_row T.kb_L_row_3 (ca_p (ax_cons (ex_call (ok_L_cell T) (hr.mono (by decide)) T.m_L_cell T.k_L_cell T.kb_L_cell_2 (ca_p (ax_cons (ex_var 0 rfl (ax_cons (ex_var 1 rfl (ax_nil ⟨[], _, rfl, rfl, rfl, rfl, ⟨v_script, v_at, _, rfl, rfl, hW, (fun r46 h47 => (ax_cons (ex_int (ax_cons (ex_var 2 rfl (ax_nil ⟨[], _, rfl, rfl, rfl, rfl, ⟨r46, (29 : Int), v_many, _, rfl, rfl, h47, (fun r48 h49 p50 => ⟨_, _, _, rfl, rfl, ?_⟩)⟩⟩))))))⟩⟩))))))))))))
  show SS _ _ [some (D.scr v_script), some (iD v_at), some (iD v_many), some ((eL iD) r48), none, none] [] _
  refine (ss_asg 4 sc_L_pairs.nd (ex_frz (ex_call (ok_L_row T) (hr.mono (by decide)) T.m_L_row T.k_L_row T.kb_L_row_3 (ca_p (ax_cons (ex_call (ok_L_cell T) (hr.mono (by decide)) T.m_L_cell T.k_L_cell T.kb_L_cell_2 (ca_p (ax_cons (ex_var 0 rfl (ax_cons (ex_op op_add (ex_var 1 rfl (ex_int (ox_I0 (ax_nil ⟨[], _, rfl, rfl, rfl, rfl, ⟨v_script, (v_at + (1 : Int)), _, rfl, rfl, h49, (fun r60 h61 => (ax_cons (ex_int (ax_cons (ex_var 2 rfl (ax_nil ⟨[], _, rfl, rfl, rfl, rfl, ⟨r60, (9 : Int), v_many, _, rfl, rfl, h61, (fun r62 h63 p64 => ⟨_, _, _, rfl, rfl, ?_⟩)⟩⟩))))))⟩⟩)))))))))))))))
  show SS _ _ [some (D.scr v_script), some (iD v_at), some (iD v_many), some ((eL iD) r48), some ((eL iD) r62), none] [] _
  exact ss_ret (ex_lc2 [("_law_k", 5)] rfl sc_L_pairs.nd rfl (show _ = defScope s_L_pairs from rfl) (by decide +kernel) (ixp rfl) (fun _ _ _ _ _ => (pg_name (i := 5) sc_L_pairs.nd rfl (by first | exact Or.inl rfl | exact Or.inr rfl) (by first | exact Or.inl rfl | exact Or.inr rfl))) (iw_lc (iw_rng1 T.z_range (ex_var 2 rfl ⟨_, rfl, h63.1.1, h63.1.2, (lcW (α := Int) (f := iD) (eT iD iD) (fun s66 : (Unit) => []) h63.2.1 h63.2.2 rfl (fun _ => True.intro) (fun x65 s66 nx67 h68 => ⟨_, (Tgt.name 5), fun _ _ _ _ _ => (ex_tup (ax_cons (ex_call (ok_L_top T) (hr.mono (by decide)) T.m_L_top T.k_L_top T.kb_L_top_1 (ca_p (ax_cons (ex_ix (ex_var 3 rfl (ex_var 5 rfl (Exists.elim h68 fun v79 h80 => ⟨_, _, _, (.fr _), rfl, at_map (f := iD) (xs := r48) h80.1, (ax_nil ⟨[], _, rfl, rfl, rfl, rfl, ⟨v79, _, rfl, rfl, h80.2, (fun r81 h82 => (ax_cons (ex_op op_add (ex_int (ex_ix (ex_var 4 rfl (ex_var 5 rfl (Exists.elim h82 fun v83 h84 => ⟨_, _, _, (.fr _), rfl, at_map (f := iD) (xs := r62) h84.1, (ox_I0 (ax_nil ⟨Nat.le_of_ble_eq_true rfl, ⟨(r81, ((1 : Int) + v83)), (), rfl, h84.2, rfl⟩⟩))⟩))))))))⟩⟩)⟩)))))))))⟩) (fun ys69 s66 h70 => fun p71 => (ph_rt (Qd := Qd) [(p71, Cell.lst (List.map (eT iD iD) ys69))] [] (Pick.l Pick.nil) (hQ ys69 h70 _))))⟩))))
theorem ok_L_handed (T : Tx P w K mg base) : FnOk P w K mg base (L2.CX P w) 3 T.f_L_handed T.fd_L_handed ["_law_pair", "_law_whole"] (spS K 2 (fun ds Ω Qd Rd => ∃ (v_pair : (Int × Int)) (v_whole : Bool) (Q : Num → Prop) (X : Exn → Prop), ds = [(eT iD iD) v_pair, bD v_whole] ∧ Ω = [] ∧ W_L_handed v_pair v_whole Q X ∧ (∀ r , Q r  → Qd ((eN T.C_Fraction) r) []) ∧ (∀ e, X e → Rd (exC T e) (exF T e) []))) := by
  refine fn_S T.F_L_handed sc_L_handed (by decide) fun cdv A outer s H E ds Ω Qd Rd hr hh => ?_
  obtain ⟨v_pair, v_whole, Q, X, rfl, rfl, hW, hQ, hX⟩ := hh
  unfold W_L_handed at hW
  show SS _ _ [some ((eT iD iD) v_pair), some (bD v_whole)] [] _
  refine (ss_if (tx_ofW (wx_andP (tx_val (ex_var 1 rfl ⟨_, rfl, ⟨rfl, rfl⟩⟩)) (fun ht107 => (wx_and1 (tx_cmp op_eq (ex_ixT (ex_var 0 rfl (ex_int ⟨_, _, _, rfl, rfl, rfl, (ex_int (ox_eqI ⟨_, rfl, ⟨rfl, rfl⟩⟩))⟩)))))) ⟨fun ht108 => ?_, fun ht108 => ?_⟩)))
  · show SS _ _ [some ((eT iD iD) v_pair), some (bD v_whole)] [] _
    exact ss_ret (ex_ixT (ex_var 0 rfl (ex_int ⟨_, _, _, rfl, rfl, rfl, (ph_rt (Qd := Qd) [] [] Pick.nil (hQ (Num.i v_pair.1) (hW.1 ht108)))⟩)))
  · show SS _ _ [some ((eT iD iD) v_pair), some (bD v_whole)] [] _
    refine ss_nil (seq_nx ?_)
    show SS _ _ [some ((eT iD iD) v_pair), some (bD v_whole)] [] _
    exact ss_ret (ex_frzO (ex_make T.mk_Fraction (ok_Fraction T) (hr.mono (by decide)) T.mg_Fraction T.kb_Fraction_init_3 (ca_p (ax_cons (ex_ixT (ex_var 0 rfl (ex_int ⟨_, _, _, rfl, rfl, rfl, (ax_cons (ex_ixT (ex_var 0 rfl (ex_int ⟨_, _, _, rfl, rfl, rfl, (ax_nil ⟨[], _, rfl, rfl, rfl, fun x114 => ⟨rfl, ⟨x114, v_pair.1, v_pair.2, _, _, rfl, rfl, (hW.2 ht108), (fun r112 h113 => ⟨rfl, ⟨_, _, _, _, rfl, rfl, (ph_rt (Qd := Qd) [] [] Pick.nil (hQ (Num.q r112) h113))⟩⟩), fun e he => (ph_ex (Rd := Rd) [] [] Pick.nil (hX e he))⟩⟩⟩)⟩))))⟩)))))))
theorem ok_as_fraction (T : Tx P w K mg base) : FnOk P w K mg base (L2.CX P w) 3 T.f_as_fraction T.fd_as_fraction ["number"] (spS K 1 (fun ds Ω Qd Rd => ∃ (v_number : Num) (Q : Rat → Prop) (X : Exn → Prop), ds = [(eN T.C_Fraction) v_number] ∧ Ω = [] ∧ W_as_fraction v_number Q X ∧ (∀ r , Q r  → Qd ((fr T.C_Fraction) r) []) ∧ (∀ e, X e → Rd (exC T e) (exF T e) []))) := by
  refine fn_S T.F_as_fraction sc_as_fraction (by decide) fun cdv A outer s H E ds Ω Qd Rd hr hh => ?_
  obtain ⟨v_number, Q, X, rfl, rfl, hW, hQ, hX⟩ := hh
  unfold W_as_fraction at hW
  show SS _ _ [some ((eN T.C_Fraction) v_number)] [] _
  rcases e132 : v_number with n133 | q134
  · show SS _ _ [some (iD n133)] [] _
    refine (ss_if (tx_val (ex_callB call_isi T.z_isinstance (by decide +kernel) (ax_cons (ex_var 0 rfl (ax_cons (ex_glob T.mg_Fraction (v := .ref T.C_Fraction) rfl (ax_nil (cx_isi (.own T.C_Fraction) (tyx_of (.int _)) (kit_sub T.icl T.ityp T.sub1 (ty_ne _ _)) ⟨_, rfl, ⟨fun ht135 => ?_, fun ht135 => ?_⟩⟩)))))))))
    · show SS _ _ [some (iD n133)] [] _
      exact absurd ht135 (by decide)
    · show SS _ _ [some (iD n133)] [] _
      refine ss_nil (seq_nx ?_)
      show SS _ _ [some (iD n133)] [] _
      exact ss_ret (ex_frzO (ex_make T.mk_Fraction (ok_Fraction T) (hr.mono (by decide)) T.mg_Fraction T.kb_Fraction_init_2 (ca_p (ax_cons (ex_var 0 rfl (ax_nil ⟨[], _, rfl, rfl, rfl, fun x141 => ⟨rfl, ⟨x141, n133, (1 : Int), _, _, rfl, rfl, ((hW.1 n133 e132).2 ht135), (fun r139 h140 => ⟨rfl, ⟨_, _, _, _, rfl, rfl, (ph_rt (Qd := Qd) [] [] Pick.nil (hQ r139 h140))⟩⟩), fun e he => (ph_ex (Rd := Rd) [] [] Pick.nil (hX e he))⟩⟩⟩))))))
  · show SS _ _ [some ((fr T.C_Fraction) q134)] [] _
    refine (ss_if (tx_val (ex_callB call_isi T.z_isinstance (by decide +kernel) (ax_cons (ex_var 0 rfl (ax_cons (ex_glob T.mg_Fraction (v := .ref T.C_Fraction) rfl (ax_nil (cx_isi (.own T.C_Fraction) (tyx_of (.ob T.cls_Fraction T.ca_Fraction T.cn T.ct T.cm_Fraction)) kit_self ⟨_, rfl, ⟨fun ht142 => ?_, fun ht142 => ?_⟩⟩)))))))))
    · show SS _ _ [some ((fr T.C_Fraction) q134)] [] _
      exact ss_ret (ex_var 0 rfl (ph_rt (Qd := Qd) [] [] Pick.nil (hQ q134 ((hW.2 q134 e132).1 ht142))))
    · show SS _ _ [some ((fr T.C_Fraction) q134)] [] _
      exact absurd ht142 (by decide)
theorem ok_Fraction_bool (T : Tx P w K mg base) : FnOk P w K mg base (L2.CX P w) 1 T.f_Fraction_bool T.fd_Fraction_bool ["self"] (spS K 1 (fun ds Ω Qd Rd => ∃ (v_self : Rat) (Q : Bool → Prop), ds = [(fr T.C_Fraction) v_self] ∧ Ω = [] ∧ W_Fraction_bool v_self Q ∧ (∀ r , Q r  → Qd (bD r) []))) := by
  refine fn_S T.F_Fraction_bool sc_Fraction_bool (by decide) fun cdv A outer s H E ds Ω Qd Rd hr hh => ?_
  obtain ⟨v_self, Q, rfl, rfl, hW, hQ⟩ := hh
  unfold W_Fraction_bool at hW
  show SS _ _ [some ((fr T.C_Fraction) v_self)] [] _
  exact ss_ret (ex_callTy call_bool1 T.z_bool (by decide +kernel) (ax_cons (ex_fld T.cls_Fraction T.na_Fraction_top (ex_var 0 rfl ⟨_, _, .fr _ _, rfl, (ax_nil (cx_bool (ph_rt (Qd := Qd) [] [] Pick.nil (hQ ((v_self).num != 0) hW))))⟩))))
theorem ok_common_bottom (T : Tx P w K mg base) : FnOk P w K mg base (L2.CX P w) 1 T.f_common_bottom T.fd_common_bottom ["numbers"] (spS K 1 (fun ds Ω Qd Rd => ∃ (q_numbers : Addr) (v_numbers : List Rat) (Q : Int → Prop), ds = [rD q_numbers] ∧ Ω = [(q_numbers, Cell.lst (List.map (fr T.C_Fraction) v_numbers))] ∧ W_common_bottom v_numbers Q ∧ (∀ r , Q r  → Qd (iD r) [(q_numbers, Cell.lst (List.map (fr T.C_Fraction) v_numbers))]))) := by
  refine fn_S T.F_common_bottom sc_common_bottom (by decide) fun cdv A outer s H E ds Ω Qd Rd hr hh => ?_
  obtain ⟨q_numbers, v_numbers, Q, rfl, rfl, hW, hQ⟩ := hh
  unfold W_common_bottom at hW
  show SS _ _ [some (rD q_numbers), none, none] [(q_numbers, Cell.lst (List.map (fr T.C_Fraction) v_numbers))] _
  refine (ss_asg 1 sc_common_bottom.nd (ex_int ?_))
  show SS _ _ [some (rD q_numbers), some (iD (1 : Int)), none] [(q_numbers, Cell.lst (List.map (fr T.C_Fraction) v_numbers))] _
  refine (ss_forW (fr T.C_Fraction) rfl (pg_name (i := 2) sc_common_bottom.nd rfl (by first | exact Or.inl rfl | exact Or.inr rfl)) (fun (s175 : Int) Γ0 Ω0 => ∃ j174 : Option D, Γ0 = [some (rD q_numbers), some (iD s175), j174] ∧ Ω0 = [(q_numbers, Cell.lst (List.map (fr T.C_Fraction) v_numbers))]) (iw_list (ex_var 0 rfl ⟨_, (.ow 0 rfl), ⟨_, _, _, hW, ⟨_, rfl, rfl⟩, (fun s Γ Ω ⟨_, e1, e2⟩ => e2 ▸ (.ow 0 rfl)), ?_, ?_⟩⟩)))
  · intro x176 s175 Γ9 Ω9 nx177 i9 h178
    obtain ⟨j174, rfl, rfl⟩ := i9
    refine ⟨_, _, (Tgt.name 2), ix_all rfl, ?_⟩
    show SS _ _ [some (rD q_numbers), some (iD s175), some ((fr T.C_Fraction) x176)] [(q_numbers, Cell.lst (List.map (fr T.C_Fraction) v_numbers))] _
    refine (ss_asg 1 sc_common_bottom.nd (ex_callBf cr_lcm T.i_lcm (ax_cons (ex_var 1 rfl (ax_cons (ex_fld T.cls_Fraction T.na_Fraction_bottom (ex_var 2 rfl ⟨_, _, .fr _ _, rfl, (ax_nil (cx_lcm h178.1.1 h178.1.2 (ss_gen (fun x182 => [some (rD q_numbers), some (iD x182), some ((fr T.C_Fraction) x176)]) (fun x182 => [(q_numbers, Cell.lst (List.map (fr T.C_Fraction) v_numbers))]) h178.2 (fun x182 h183 => ?_))))⟩)))))))
    show SS _ _ [some (rD q_numbers), some (iD x182), some ((fr T.C_Fraction) x176)] [(q_numbers, Cell.lst (List.map (fr T.C_Fraction) v_numbers))] _
    exact ss_nil (Exists.intro x182 (And.intro h183 ⟨_, rfl, rfl⟩))
  · intro s175 Γ9 Ω9 i9 h179
    obtain ⟨j174, rfl, rfl⟩ := i9
    show SS _ _ [some (rD q_numbers), some (iD s175), j174] [(q_numbers, Cell.lst (List.map (fr T.C_Fraction) v_numbers))] _
    exact ss_ret (ex_var 1 rfl (ph_rt (Qd := Qd) [] [(q_numbers, Cell.lst (List.map (fr T.C_Fraction) v_numbers))] (Pick.r Pick.nil) (hQ s175 h179)))
theorem ok_over_bottom (T : Tx P w K mg base) : FnOk P w K mg base (L2.CX P w) 1 T.f_over_bottom T.fd_over_bottom ["number", "bottom"] (spS K 2 (fun ds Ω Qd Rd => ∃ (v_number : Rat) (v_bottom : Int) (Q : Int → Prop), ds = [(fr T.C_Fraction) v_number, iD v_bottom] ∧ Ω = [] ∧ W_over_bottom v_number v_bottom Q ∧ (∀ r , Q r  → Qd (iD r) []))) := by
  refine fn_S T.F_over_bottom sc_over_bottom (by decide) fun cdv A outer s H E ds Ω Qd Rd hr hh => ?_
  obtain ⟨v_number, v_bottom, Q, rfl, rfl, hW, hQ⟩ := hh
  unfold W_over_bottom at hW
  show SS _ _ [some ((fr T.C_Fraction) v_number), some (iD v_bottom)] [] _
  exact ss_ret (ex_op op_mulW (ex_fld T.cls_Fraction T.na_Fraction_top (ex_var 0 rfl ⟨_, _, .fr _ _, rfl, (ex_op op_fdivW (ex_var 1 rfl (ex_fld T.cls_Fraction T.na_Fraction_bottom (ex_var 0 rfl ⟨_, _, .fr _ _, rfl, (ox_I hW.1 (ox_I hW.2.1 (ph_rt (Qd := Qd) [] [] Pick.nil (hQ ((v_number).num * (v_bottom / ((v_number).den : Int))) hW.2.2))))⟩))))⟩)))
theorem ok_Polynomial_init (T : Tx P w K mg base) : FnOk P w K mg base (L2.CX P w) 4 T.f_Polynomial_init T.fd_Polynomial_init ["self", "coefficients"] (spS K 2 (fun ds Ω Qd Rd => ∃ (q_self : Addr) (q_coefficients : Addr) (v_coefficients : List Num) (Q : R_Polynomial → Prop), ds = [rD q_self, rD q_coefficients] ∧ Ω = [(q_self, Cell.ins T.C_Polynomial []), (q_coefficients, Cell.lst (List.map (eN T.C_Fraction) v_coefficients))] ∧ W_Polynomial_init v_coefficients Q ∧ (∀ r , Q r  → Qd (.v .non) ((q_self, Cell.ins T.C_Polynomial (f_Polynomial T r)) :: [(q_coefficients, Cell.lst (List.map (eN T.C_Fraction) v_coefficients))])))) := by
  refine fn_S0 T.F_Polynomial_init sc_Polynomial_init (by decide) fun cdv A outer s H E ds Ω Qd Rd hr hh => ?_
  obtain ⟨q_self, q_coefficients, v_coefficients, Q, rfl, rfl, hW, hQ⟩ := hh
  unfold W_Polynomial_init at hW
  show SS _ _ [some (rD q_self), some (rD q_coefficients), none, none] [(q_self, Cell.ins T.C_Polynomial []), (q_coefficients, Cell.lst (List.map (eN T.C_Fraction) v_coefficients))] _
  refine (ss_lc2 2 [("number", 3)] rfl sc_Polynomial_init.nd rfl (show _ = defScope s_Polynomial_init from rfl) (by decide +kernel) (ixp rfl) (fun _ _ _ _ _ => (pg_name (i := 3) sc_Polynomial_init.nd rfl (by first | exact Or.inl rfl | exact Or.inr rfl) (by first | exact Or.inl rfl | exact Or.inr rfl))) (iw_lc (iw_list (ex_var 1 rfl ⟨_, (.ow 1 rfl), (lcW (α := Num) (f := (eN T.C_Fraction)) (fr T.C_Fraction) (fun s120 : (Unit) => [(q_self, Cell.ins T.C_Polynomial []), (q_coefficients, Cell.lst (List.map (eN T.C_Fraction) v_coefficients))]) hW.1 hW.2 rfl (fun _ => (.ow 1 rfl)) (fun x119 s120 nx121 h122 => ⟨_, (Tgt.name 3), fun _ _ _ _ _ => (ex_call (ok_as_fraction T) (hr.mono (by decide)) T.m_as_fraction T.k_as_fraction T.kb_as_fraction_1 (ca_p (ax_cons (ex_var 3 rfl (ax_nil ⟨[], _, rfl, rfl, rfl, rfl, ⟨x119, _, _, rfl, rfl, h122, (fun r145 h146 => ⟨r145, (), rfl, h146, rfl⟩), fun e he => False.elim he⟩⟩)))))⟩) (fun ys123 s120 h124 => fun p125 => ?_))⟩))))
  show SS _ _ [some (rD q_self), some (rD q_coefficients), some (rD p125), none] [(p125, Cell.lst (List.map (fr T.C_Fraction) ys123)), (q_self, Cell.ins T.C_Polynomial []), (q_coefficients, Cell.lst (List.map (eN T.C_Fraction) v_coefficients))] _
  refine (ss_whileW (fun (s147 : List Rat) Γ0 Ω0 => Γ0 = [some (rD q_self), some (rD q_coefficients), some (rD p125), none] ∧ Ω0 = [(p125, Cell.lst (List.map (fr T.C_Fraction) s147)), (q_self, Cell.ins T.C_Polynomial []), (q_coefficients, Cell.lst (List.map (eN T.C_Fraction) v_coefficients))]) h124 ⟨rfl, rfl⟩ ?_)
  intro s147 Γ9 Ω9 nx148 i9 h149
  obtain ⟨rfl, rfl⟩ := i9
  refine (tx_ofW (wx_andK [(p125, Cell.lst (List.map (fr T.C_Fraction) s147)), (q_self, Cell.ins T.C_Polynomial []), (q_coefficients, Cell.lst (List.map (eN T.C_Fraction) v_coefficients))] h149 (fun h151 => (tx_lstT (ex_var 2 rfl ⟨(fr T.C_Fraction), s147, (.ow 0 rfl), ⟨fun ht152 => (wx_and1 (tx_not (tx_ownB T.cmp_bool (ok_Fraction_bool T) (hr.mono (by decide)) T.bb_Fraction_bool (ex_ix (ex_var 2 rfl (ex_un un_neg (ex_int (ux_neg (Exists.elim (h151.1 ht152) fun v157 h158 => ⟨_, _, _, (.ow 0 rfl), rfl, at_map (f := (fr T.C_Fraction)) (xs := s147) h158.1, ⟨_, rfl, v157, _, rfl, rfl, h158.2, (fun r159 h160 => ⟨_, rfl, ⟨rfl, h160⟩⟩)⟩⟩))))))))), fun ht152 => ⟨rfl, h151.2 ht152⟩⟩⟩))) (fun b153 h154 => ⟨fun ht161 => ?_, fun ht161 => ?_⟩)))
  · show SS _ _ [some (rD q_self), some (rD q_coefficients), some (rD p125), none] [(p125, Cell.lst (List.map (fr T.C_Fraction) s147)), (q_self, Cell.ins T.C_Polynomial []), (q_coefficients, Cell.lst (List.map (eN T.C_Fraction) v_coefficients))] _
    refine (ss_expr (ex_popT (ex_var 2 rfl (Exists.elim (h154.1 ht161) fun v162 h163 => ⟨(fr T.C_Fraction), _, 0, s147, _, rfl, rfl, h163.1, ?_⟩))))
    show SS _ _ [some (rD q_self), some (rD q_coefficients), some (rD p125), none] [(p125, Cell.lst (List.map (fr T.C_Fraction) (List.dropLast s147))), (q_self, Cell.ins T.C_Polynomial []), (q_coefficients, Cell.lst (List.map (eN T.C_Fraction) v_coefficients))] _
    exact ss_nil (Exists.intro (List.dropLast s147) (And.intro h163.2 ⟨rfl, rfl⟩))
  · show SS _ _ [some (rD q_self), some (rD q_coefficients), some (rD p125), none] [(p125, Cell.lst (List.map (fr T.C_Fraction) s147)), (q_self, Cell.ins T.C_Polynomial []), (q_coefficients, Cell.lst (List.map (eN T.C_Fraction) v_coefficients))] _
    refine (ss_attr T.cls_Polynomial T.na_Polynomial__bottom (ex_call (ok_common_bottom T) (hr.mono (by decide)) T.m_common_bottom T.k_common_bottom T.kb_common_bottom_1 (ca_p (ax_cons (ex_var 2 rfl (ax_nil ⟨[_], _, rfl, rfl, rfl, rfl, ⟨p125, s147, _, rfl, rfl, (h154.2 ht161), (fun r186 h187 => (ex_var 0 rfl ⟨1, _, _, rfl, rfl, Nat.le_of_ble_eq_true rfl, ?_⟩))⟩⟩))))))
    show SS _ _ [some (rD q_self), some (rD q_coefficients), some (rD p125), none] [(p125, Cell.lst (List.map (fr T.C_Fraction) s147)), (q_self, Cell.ins T.C_Polynomial [("_bottom", iD r186)]), (q_coefficients, Cell.lst (List.map (eN T.C_Fraction) v_coefficients))] _
    refine (ss_attr T.cls_Polynomial T.na_Polynomial__tops (ex_frz (ex_lc2 [("number", 3)] rfl sc_Polynomial_init.nd rfl (show _ = defScope s_Polynomial_init from rfl) (by decide +kernel) (ixp rfl) (fun _ _ _ _ _ => (pg_name (i := 3) sc_Polynomial_init.nd rfl (by first | exact Or.inl rfl | exact Or.inr rfl) (by first | exact Or.inl rfl | exact Or.inr rfl))) (iw_lc (iw_list (ex_var 2 rfl ⟨_, (.ow 0 rfl), (lcW (α := Rat) (f := (fr T.C_Fraction)) iD (fun s189 : (Unit) => [(p125, Cell.lst (List.map (fr T.C_Fraction) s147)), (q_self, Cell.ins T.C_Polynomial [("_bottom", iD r186)]), (q_coefficients, Cell.lst (List.map (eN T.C_Fraction) v_coefficients))]) h187.1 h187.2 rfl (fun _ => (.ow 0 rfl)) (fun x188 s189 nx190 h191 => ⟨_, (Tgt.name 3), fun _ _ _ _ _ => (ex_call (ok_over_bottom T) (hr.mono (by decide)) T.m_over_bottom T.k_over_bottom T.kb_over_bottom_2 (ca_p (ax_cons (ex_var 3 rfl (ax_cons (ex_fld T.cls_Polynomial T.na_Polynomial__bottom (ex_var 0 rfl ⟨_, _, .ow 1 rfl, rfl, (ax_nil ⟨[], _, rfl, rfl, rfl, rfl, ⟨x188, r186, _, rfl, rfl, h191, (fun r197 h198 => ⟨r197, (), rfl, h198, rfl⟩)⟩⟩)⟩)))))))⟩) (fun ys192 s189 h193 => fun p194 => ⟨_, _, _, rfl, rfl, (ex_var 0 rfl ⟨1, _, _, rfl, rfl, Nat.le_of_ble_eq_true rfl, ?_⟩)⟩))⟩))))))
    show SS _ _ [some (rD q_self), some (rD q_coefficients), some (rD p125), none] [(p125, Cell.lst (List.map (fr T.C_Fraction) s147)), (q_self, Cell.ins T.C_Polynomial [("_bottom", iD r186), ("_tops", (eL iD) ys192)]), (q_coefficients, Cell.lst (List.map (eN T.C_Fraction) v_coefficients))] _
    exact ss_nil (ph_rt (Qd := Qd) [(q_self, Cell.ins T.C_Polynomial [("_bottom", iD r186), ("_tops", (eL iD) ys192)])] [(q_coefficients, Cell.lst (List.map (eN T.C_Fraction) v_coefficients))] (Pick.d (Pick.l (Pick.r Pick.nil))) (hQ ({ _bottom := r186, _tops := ys192 } : R_Polynomial) h193))
theorem ok_Polynomial_init_2 (T : Tx P w K mg base) : FnOk P w K mg base (L2.CX P w) 4 T.f_Polynomial_init T.fd_Polynomial_init ["self", "coefficients"] (spS K 2 (fun ds Ω Qd Rd => ∃ (q_self : Addr) (v_coefficients : (List Num)) (Q : R_Polynomial → Prop), ds = [rD q_self, (eTL (eN T.C_Fraction)) v_coefficients] ∧ Ω = [(q_self, Cell.ins T.C_Polynomial [])] ∧ W_Polynomial_init_2 v_coefficients Q ∧ (∀ r , Q r  → Qd (.v .non) ((q_self, Cell.ins T.C_Polynomial (f_Polynomial T r)) :: [])))) := by
  refine fn_S0 T.F_Polynomial_init sc_Polynomial_init (by decide) fun cdv A outer s H E ds Ω Qd Rd hr hh => ?_
  obtain ⟨q_self, v_coefficients, Q, rfl, rfl, hW, hQ⟩ := hh
  unfold W_Polynomial_init_2 at hW
  show SS _ _ [some (rD q_self), some ((eTL (eN T.C_Fraction)) v_coefficients), none, none] [(q_self, Cell.ins T.C_Polynomial [])] _
  refine (ss_lc2 2 [("number", 3)] rfl sc_Polynomial_init.nd rfl (show _ = defScope s_Polynomial_init from rfl) (by decide +kernel) (ixp rfl) (fun _ _ _ _ _ => (pg_name (i := 3) sc_Polynomial_init.nd rfl (by first | exact Or.inl rfl | exact Or.inr rfl) (by first | exact Or.inl rfl | exact Or.inr rfl))) (iw_lc (iw_tup (ex_var 1 rfl ⟨_, rfl, (lcW (α := Num) (f := (eN T.C_Fraction)) (fr T.C_Fraction) (fun s210 : (Unit) => [(q_self, Cell.ins T.C_Polynomial [])]) hW.1 hW.2 rfl (fun _ => True.intro) (fun x209 s210 nx211 h212 => ⟨_, (Tgt.name 3), fun _ _ _ _ _ => (ex_call (ok_as_fraction T) (hr.mono (by decide)) T.m_as_fraction T.k_as_fraction T.kb_as_fraction_1 (ca_p (ax_cons (ex_var 3 rfl (ax_nil ⟨[], _, rfl, rfl, rfl, rfl, ⟨x209, _, _, rfl, rfl, h212, (fun r218 h219 => ⟨r218, (), rfl, h219, rfl⟩), fun e he => False.elim he⟩⟩)))))⟩) (fun ys213 s210 h214 => fun p215 => ?_))⟩))))
  show SS _ _ [some (rD q_self), some ((eTL (eN T.C_Fraction)) v_coefficients), some (rD p215), none] [(p215, Cell.lst (List.map (fr T.C_Fraction) ys213)), (q_self, Cell.ins T.C_Polynomial [])] _
  refine (ss_whileW (fun (s220 : List Rat) Γ0 Ω0 => Γ0 = [some (rD q_self), some ((eTL (eN T.C_Fraction)) v_coefficients), some (rD p215), none] ∧ Ω0 = [(p215, Cell.lst (List.map (fr T.C_Fraction) s220)), (q_self, Cell.ins T.C_Polynomial [])]) h214 ⟨rfl, rfl⟩ ?_)
  intro s220 Γ9 Ω9 nx221 i9 h222
  obtain ⟨rfl, rfl⟩ := i9
  refine (tx_ofW (wx_andK [(p215, Cell.lst (List.map (fr T.C_Fraction) s220)), (q_self, Cell.ins T.C_Polynomial [])] h222 (fun h224 => (tx_lstT (ex_var 2 rfl ⟨(fr T.C_Fraction), s220, (.ow 0 rfl), ⟨fun ht225 => (wx_and1 (tx_not (tx_ownB T.cmp_bool (ok_Fraction_bool T) (hr.mono (by decide)) T.bb_Fraction_bool (ex_ix (ex_var 2 rfl (ex_un un_neg (ex_int (ux_neg (Exists.elim (h224.1 ht225) fun v230 h231 => ⟨_, _, _, (.ow 0 rfl), rfl, at_map (f := (fr T.C_Fraction)) (xs := s220) h231.1, ⟨_, rfl, v230, _, rfl, rfl, h231.2, (fun r232 h233 => ⟨_, rfl, ⟨rfl, h233⟩⟩)⟩⟩))))))))), fun ht225 => ⟨rfl, h224.2 ht225⟩⟩⟩))) (fun b226 h227 => ⟨fun ht234 => ?_, fun ht234 => ?_⟩)))
  · show SS _ _ [some (rD q_self), some ((eTL (eN T.C_Fraction)) v_coefficients), some (rD p215), none] [(p215, Cell.lst (List.map (fr T.C_Fraction) s220)), (q_self, Cell.ins T.C_Polynomial [])] _
    refine (ss_expr (ex_popT (ex_var 2 rfl (Exists.elim (h227.1 ht234) fun v235 h236 => ⟨(fr T.C_Fraction), _, 0, s220, _, rfl, rfl, h236.1, ?_⟩))))
    show SS _ _ [some (rD q_self), some ((eTL (eN T.C_Fraction)) v_coefficients), some (rD p215), none] [(p215, Cell.lst (List.map (fr T.C_Fraction) (List.dropLast s220))), (q_self, Cell.ins T.C_Polynomial [])] _
    exact ss_nil (Exists.intro (List.dropLast s220) (And.intro h236.2 ⟨rfl, rfl⟩))
  · show SS _ _ [some (rD q_self), some ((eTL (eN T.C_Fraction)) v_coefficients), some (rD p215), none] [(p215, Cell.lst (List.map (fr T.C_Fraction) s220)), (q_self, Cell.ins T.C_Polynomial [])] _
    refine (ss_attr T.cls_Polynomial T.na_Polynomial__bottom (ex_call (ok_common_bottom T) (hr.mono (by decide)) T.m_common_bottom T.k_common_bottom T.kb_common_bottom_1 (ca_p (ax_cons (ex_var 2 rfl (ax_nil ⟨[_], _, rfl, rfl, rfl, rfl, ⟨p215, s220, _, rfl, rfl, (h227.2 ht234), (fun r239 h240 => (ex_var 0 rfl ⟨1, _, _, rfl, rfl, Nat.le_of_ble_eq_true rfl, ?_⟩))⟩⟩))))))
    show SS _ _ [some (rD q_self), some ((eTL (eN T.C_Fraction)) v_coefficients), some (rD p215), none] [(p215, Cell.lst (List.map (fr T.C_Fraction) s220)), (q_self, Cell.ins T.C_Polynomial [("_bottom", iD r239)])] _
    refine (ss_attr T.cls_Polynomial T.na_Polynomial__tops (ex_frz (ex_lc2 [("number", 3)] rfl sc_Polynomial_init.nd rfl (show _ = defScope s_Polynomial_init from rfl) (by decide +kernel) (ixp rfl) (fun _ _ _ _ _ => (pg_name (i := 3) sc_Polynomial_init.nd rfl (by first | exact Or.inl rfl | exact Or.inr rfl) (by first | exact Or.inl rfl | exact Or.inr rfl))) (iw_lc (iw_list (ex_var 2 rfl ⟨_, (.ow 0 rfl), (lcW (α := Rat) (f := (fr T.C_Fraction)) iD (fun s242 : (Unit) => [(p215, Cell.lst (List.map (fr T.C_Fraction) s220)), (q_self, Cell.ins T.C_Polynomial [("_bottom", iD r239)])]) h240.1 h240.2 rfl (fun _ => (.ow 0 rfl)) (fun x241 s242 nx243 h244 => ⟨_, (Tgt.name 3), fun _ _ _ _ _ => (ex_call (ok_over_bottom T) (hr.mono (by decide)) T.m_over_bottom T.k_over_bottom T.kb_over_bottom_2 (ca_p (ax_cons (ex_var 3 rfl (ax_cons (ex_fld T.cls_Polynomial T.na_Polynomial__bottom (ex_var 0 rfl ⟨_, _, .ow 1 rfl, rfl, (ax_nil ⟨[], _, rfl, rfl, rfl, rfl, ⟨x241, r239, _, rfl, rfl, h244, (fun r250 h251 => ⟨r250, (), rfl, h251, rfl⟩)⟩⟩)⟩)))))))⟩) (fun ys245 s242 h246 => fun p247 => ⟨_, _, _, rfl, rfl, (ex_var 0 rfl ⟨1, _, _, rfl, rfl, Nat.le_of_ble_eq_true rfl, ?_⟩)⟩))⟩))))))
    show SS _ _ [some (rD q_self), some ((eTL (eN T.C_Fraction)) v_coefficients), some (rD p215), none] [(p215, Cell.lst (List.map (fr T.C_Fraction) s220)), (q_self, Cell.ins T.C_Polynomial [("_bottom", iD r239), ("_tops", (eL iD) ys245)])] _
    exact ss_nil (ph_rt (Qd := Qd) [(q_self, Cell.ins T.C_Polynomial [("_bottom", iD r239), ("_tops", (eL iD) ys245)])] [] (Pick.d (Pick.l Pick.nil)) (hQ ({ _bottom := r239, _tops := ys245 } : R_Polynomial) h246))
theorem ok_is_number (T : Tx P w K mg base) : FnOk P w K mg base (L2.CX P w) 1 T.f_is_number T.fd_is_number ["thing"] (spS K 1 (fun ds Ω Qd Rd => ∃ (v_thing : Int) (Q : Bool → Prop), ds = [iD v_thing] ∧ Ω = [] ∧ W_is_number v_thing Q ∧ (∀ r , Q r  → Qd (bD r) []))) := by
  refine fn_S T.F_is_number sc_is_number (by decide) fun cdv A outer s H E ds Ω Qd Rd hr hh => ?_
  obtain ⟨v_thing, Q, rfl, rfl, hW, hQ⟩ := hh
  unfold W_is_number at hW
  show SS _ _ [some (iD v_thing)] [] _
  exact ss_ret (ex_isi2 T.z_isinstance (pe_glob (v := .ref T.C_Fraction) rfl T.mg_Fraction rfl) (pe_bltn (v := .ty "int") rfl T.z_int (by decide +kernel) rfl) (.own T.C_Fraction) (.ty "int") (ex_var 0 rfl ⟨_, true, tyx_of (.int _), (kitAny_cons (kit_sub T.icl T.ityp T.sub1 (ty_ne _ _)) (fun _ => kitAny_cons kit_II (fun z => (by cases z)) fun _ => rfl) fun z => (by cases z)), (ph_rt (Qd := Qd) [] [] Pick.nil (hQ true hW))⟩))
theorem ok_as_fraction_2 (T : Tx P w K mg base) : FnOk P w K mg base (L2.CX P w) 3 T.f_as_fraction T.fd_as_fraction ["number"] (spS K 1 (fun ds Ω Qd Rd => ∃ (v_number : Int) (Q : Rat → Prop) (X : Exn → Prop), ds = [iD v_number] ∧ Ω = [] ∧ W_as_fraction_2 v_number Q X ∧ (∀ r , Q r  → Qd ((fr T.C_Fraction) r) []) ∧ (∀ e, X e → Rd (exC T e) (exF T e) []))) := by
  refine fn_S T.F_as_fraction sc_as_fraction (by decide) fun cdv A outer s H E ds Ω Qd Rd hr hh => ?_
  obtain ⟨v_number, Q, X, rfl, rfl, hW, hQ, hX⟩ := hh
  unfold W_as_fraction_2 at hW
  show SS _ _ [some (iD v_number)] [] _
  refine (ss_if (tx_val (ex_callB call_isi T.z_isinstance (by decide +kernel) (ax_cons (ex_var 0 rfl (ax_cons (ex_glob T.mg_Fraction (v := .ref T.C_Fraction) rfl (ax_nil (cx_isi (.own T.C_Fraction) (tyx_of (.int _)) (kit_sub T.icl T.ityp T.sub1 (ty_ne _ _)) ⟨_, rfl, ⟨fun ht288 => ?_, fun ht288 => ?_⟩⟩)))))))))
  · show SS _ _ [some (iD v_number)] [] _
    exact absurd ht288 (by decide)
  · show SS _ _ [some (iD v_number)] [] _
    refine ss_nil (seq_nx ?_)
    show SS _ _ [some (iD v_number)] [] _
    exact ss_ret (ex_frzO (ex_make T.mk_Fraction (ok_Fraction T) (hr.mono (by decide)) T.mg_Fraction T.kb_Fraction_init_2 (ca_p (ax_cons (ex_var 0 rfl (ax_nil ⟨[], _, rfl, rfl, rfl, fun x294 => ⟨rfl, ⟨x294, v_number, (1 : Int), _, _, rfl, rfl, (hW.2 ht288), (fun r292 h293 => ⟨rfl, ⟨_, _, _, _, rfl, rfl, (ph_rt (Qd := Qd) [] [] Pick.nil (hQ r292 h293))⟩⟩), fun e he => (ph_ex (Rd := Rd) [] [] Pick.nil (hX e he))⟩⟩⟩))))))
theorem ok_order (T : Tx P w K mg base) : FnOk P w K mg base (L2.CX P w) 4 T.f_order T.fd_order ["fraction", "number"] (spS K 2 (fun ds Ω Qd Rd => ∃ (v_fraction : Rat) (v_number : Int) (Q : Int → Prop) (X : Exn → Prop), ds = [(fr T.C_Fraction) v_fraction, iD v_number] ∧ Ω = [] ∧ W_order v_fraction v_number Q X ∧ (∀ r , Q r  → Qd (iD r) []) ∧ (∀ e, X e → Rd (exC T e) (exF T e) []))) := by
  refine fn_S T.F_order sc_order (by decide) fun cdv A outer s H E ds Ω Qd Rd hr hh => ?_
  obtain ⟨v_fraction, v_number, Q, X, rfl, rfl, hW, hQ, hX⟩ := hh
  unfold W_order at hW
  show SS _ _ [some ((fr T.C_Fraction) v_fraction), some (iD v_number), none] [] _
  refine (ss_asg 2 sc_order.nd (ex_call (ok_as_fraction_2 T) (hr.mono (by decide)) T.m_as_fraction T.k_as_fraction T.kb_as_fraction_1 (ca_p (ax_cons (ex_var 1 rfl (ax_nil ⟨[], _, rfl, rfl, rfl, rfl, ⟨v_number, _, _, rfl, rfl, hW, (fun r301 h302 => ?_), fun e he => (ph_ex (Rd := Rd) [] [] Pick.nil (hX e he))⟩⟩))))))
  show SS _ _ [some ((fr T.C_Fraction) v_fraction), some (iD v_number), some ((fr T.C_Fraction) r301)] [] _
  exact ss_ret (ex_op op_sub (ex_op op_mulW (ex_fld T.cls_Fraction T.na_Fraction_top (ex_var 0 rfl ⟨_, _, .fr _ _, rfl, (ex_fld T.cls_Fraction T.na_Fraction_bottom (ex_var 2 rfl ⟨_, _, .fr _ _, rfl, (ox_I h302.1 (ex_op op_mulW (ex_fld T.cls_Fraction T.na_Fraction_top (ex_var 2 rfl ⟨_, _, .fr _ _, rfl, (ex_fld T.cls_Fraction T.na_Fraction_bottom (ex_var 0 rfl ⟨_, _, .fr _ _, rfl, (ox_I h302.2.1 (ox_I0 (ph_rt (Qd := Qd) [] [] Pick.nil (hQ (((v_fraction).num * ((r301).den : Int)) - ((r301).num * ((v_fraction).den : Int))) h302.2.2))))⟩))⟩))))⟩))⟩))))
theorem ok_Fraction_eq (T : Tx P w K mg base) : FnOk P w K mg base (L2.CX P w) 5 T.f_Fraction_eq T.fd_Fraction_eq ["self", "other"] (spS K 2 (fun ds Ω Qd Rd => ∃ (v_self : Rat) (v_other : Int) (Q : Bool → Prop) (X : Exn → Prop), ds = [(fr T.C_Fraction) v_self, iD v_other] ∧ Ω = [] ∧ W_Fraction_eq v_self v_other Q X ∧ (∀ r , Q r  → Qd (bD r) []) ∧ (∀ e, X e → Rd (exC T e) (exF T e) []))) := by
  refine fn_S T.F_Fraction_eq sc_Fraction_eq (by decide) fun cdv A outer s H E ds Ω Qd Rd hr hh => ?_
  obtain ⟨v_self, v_other, Q, X, rfl, rfl, hW, hQ, hX⟩ := hh
  unfold W_Fraction_eq at hW
  show SS _ _ [some ((fr T.C_Fraction) v_self), some (iD v_other)] [] _
  refine (ss_if (tx_not (tx_val (ex_call (ok_is_number T) (hr.mono (by decide)) T.m_is_number T.k_is_number T.kb_is_number_1 (ca_p (ax_cons (ex_var 1 rfl (ax_nil ⟨[], _, rfl, rfl, rfl, rfl, ⟨v_other, _, rfl, rfl, hW, (fun r309 h310 => (h310.1.symm ▸ ⟨_, rfl, ⟨fun ht311 => ?_, fun ht311 => ?_⟩⟩))⟩⟩))))))))
  · show SS _ _ [some ((fr T.C_Fraction) v_self), some (iD v_other)] [] _
    exact absurd ht311 (by decide)
  · show SS _ _ [some ((fr T.C_Fraction) v_self), some (iD v_other)] [] _
    refine ss_nil (seq_nx ?_)
    show SS _ _ [some ((fr T.C_Fraction) v_self), some (iD v_other)] [] _
    exact ss_ret (ex_cmp op_eq (ex_call (ok_order T) (hr.mono (by decide)) T.m_order T.k_order T.kb_order_2 (ca_p (ax_cons (ex_var 0 rfl (ax_cons (ex_var 1 rfl (ax_nil ⟨[], _, rfl, rfl, rfl, rfl, ⟨v_self, v_other, _, _, rfl, rfl, (h310.2.2 ht311), (fun r314 h315 => (ex_int (ox_eqI (ph_rt (Qd := Qd) [] [] Pick.nil (hQ (decide (r314 = (0 : Int))) h315))))), fun e he => (ph_ex (Rd := Rd) [] [] Pick.nil (hX e he))⟩⟩))))))))
theorem ok_is_number_2 (T : Tx P w K mg base) : FnOk P w K mg base (L2.CX P w) 1 T.f_is_number T.fd_is_number ["thing"] (spS K 1 (fun ds Ω Qd Rd => ∃ (v_thing : Rat) (Q : Bool → Prop), ds = [(fr T.C_Fraction) v_thing] ∧ Ω = [] ∧ W_is_number_2 v_thing Q ∧ (∀ r , Q r  → Qd (bD r) []))) := by
  refine fn_S T.F_is_number sc_is_number (by decide) fun cdv A outer s H E ds Ω Qd Rd hr hh => ?_
  obtain ⟨v_thing, Q, rfl, rfl, hW, hQ⟩ := hh
  unfold W_is_number_2 at hW
  show SS _ _ [some ((fr T.C_Fraction) v_thing)] [] _
  exact ss_ret (ex_isi2 T.z_isinstance (pe_glob (v := .ref T.C_Fraction) rfl T.mg_Fraction rfl) (pe_bltn (v := .ty "int") rfl T.z_int (by decide +kernel) rfl) (.own T.C_Fraction) (.ty "int") (ex_var 0 rfl ⟨_, true, tyx_of (.ob T.cls_Fraction T.ca_Fraction T.cn T.ct T.cm_Fraction), (kitAny_cons kit_self (fun z => (by cases z)) fun _ => rfl), (ph_rt (Qd := Qd) [] [] Pick.nil (hQ true hW))⟩))
theorem ok_as_fraction_3 (T : Tx P w K mg base) : FnOk P w K mg base (L2.CX P w) 1 T.f_as_fraction T.fd_as_fraction ["number"] (spS K 1 (fun ds Ω Qd Rd => ∃ (v_number : Rat) (Q : Rat → Prop), ds = [(fr T.C_Fraction) v_number] ∧ Ω = [] ∧ W_as_fraction_3 v_number Q ∧ (∀ r , Q r  → Qd ((fr T.C_Fraction) r) []))) := by
  refine fn_S T.F_as_fraction sc_as_fraction (by decide) fun cdv A outer s H E ds Ω Qd Rd hr hh => ?_
  obtain ⟨v_number, Q, rfl, rfl, hW, hQ⟩ := hh
  unfold W_as_fraction_3 at hW
  show SS _ _ [some ((fr T.C_Fraction) v_number)] [] _
  refine (ss_if (tx_val (ex_callB call_isi T.z_isinstance (by decide +kernel) (ax_cons (ex_var 0 rfl (ax_cons (ex_glob T.mg_Fraction (v := .ref T.C_Fraction) rfl (ax_nil (cx_isi (.own T.C_Fraction) (tyx_of (.ob T.cls_Fraction T.ca_Fraction T.cn T.ct T.cm_Fraction)) kit_self ⟨_, rfl, ⟨fun ht335 => ?_, fun ht335 => ?_⟩⟩)))))))))
  · show SS _ _ [some ((fr T.C_Fraction) v_number)] [] _
    exact ss_ret (ex_var 0 rfl (ph_rt (Qd := Qd) [] [] Pick.nil (hQ v_number (hW.1 ht335))))
  · show SS _ _ [some ((fr T.C_Fraction) v_number)] [] _
    exact absurd ht335 (by decide)
theorem ok_order_2 (T : Tx P w K mg base) : FnOk P w K mg base (L2.CX P w) 2 T.f_order T.fd_order ["fraction", "number"] (spS K 2 (fun ds Ω Qd Rd => ∃ (v_fraction : Rat) (v_number : Rat) (Q : Int → Prop), ds = [(fr T.C_Fraction) v_fraction, (fr T.C_Fraction) v_number] ∧ Ω = [] ∧ W_order_2 v_fraction v_number Q ∧ (∀ r , Q r  → Qd (iD r) []))) := by
  refine fn_S T.F_order sc_order (by decide) fun cdv A outer s H E ds Ω Qd Rd hr hh => ?_
  obtain ⟨v_fraction, v_number, Q, rfl, rfl, hW, hQ⟩ := hh
  unfold W_order_2 at hW
  show SS _ _ [some ((fr T.C_Fraction) v_fraction), some ((fr T.C_Fraction) v_number), none] [] _
  refine (ss_asg 2 sc_order.nd (ex_call (ok_as_fraction_3 T) (hr.mono (by decide)) T.m_as_fraction T.k_as_fraction T.kb_as_fraction_1 (ca_p (ax_cons (ex_var 1 rfl (ax_nil ⟨[], _, rfl, rfl, rfl, rfl, ⟨v_number, _, rfl, rfl, hW, (fun r342 h343 => ?_)⟩⟩))))))
  show SS _ _ [some ((fr T.C_Fraction) v_fraction), some ((fr T.C_Fraction) v_number), some ((fr T.C_Fraction) r342)] [] _
  exact ss_ret (ex_op op_sub (ex_op op_mulW (ex_fld T.cls_Fraction T.na_Fraction_top (ex_var 0 rfl ⟨_, _, .fr _ _, rfl, (ex_fld T.cls_Fraction T.na_Fraction_bottom (ex_var 2 rfl ⟨_, _, .fr _ _, rfl, (ox_I h343.1 (ex_op op_mulW (ex_fld T.cls_Fraction T.na_Fraction_top (ex_var 2 rfl ⟨_, _, .fr _ _, rfl, (ex_fld T.cls_Fraction T.na_Fraction_bottom (ex_var 0 rfl ⟨_, _, .fr _ _, rfl, (ox_I h343.2.1 (ox_I0 (ph_rt (Qd := Qd) [] [] Pick.nil (hQ (((v_fraction).num * ((r342).den : Int)) - ((r342).num * ((v_fraction).den : Int))) h343.2.2))))⟩))⟩))))⟩))⟩))))
theorem ok_Fraction_eq_2 (T : Tx P w K mg base) : FnOk P w K mg base (L2.CX P w) 3 T.f_Fraction_eq T.fd_Fraction_eq ["self", "other"] (spS K 2 (fun ds Ω Qd Rd => ∃ (v_self : Rat) (v_other : Rat) (Q : Bool → Prop), ds = [(fr T.C_Fraction) v_self, (fr T.C_Fraction) v_other] ∧ Ω = [] ∧ W_Fraction_eq_2 v_self v_other Q ∧ (∀ r , Q r  → Qd (bD r) []))) := by
  refine fn_S T.F_Fraction_eq sc_Fraction_eq (by decide) fun cdv A outer s H E ds Ω Qd Rd hr hh => ?_
  obtain ⟨v_self, v_other, Q, rfl, rfl, hW, hQ⟩ := hh
  unfold W_Fraction_eq_2 at hW
  show SS _ _ [some ((fr T.C_Fraction) v_self), some ((fr T.C_Fraction) v_other)] [] _
  refine (ss_if (tx_not (tx_val (ex_call (ok_is_number_2 T) (hr.mono (by decide)) T.m_is_number T.k_is_number T.kb_is_number_1 (ca_p (ax_cons (ex_var 1 rfl (ax_nil ⟨[], _, rfl, rfl, rfl, rfl, ⟨v_other, _, rfl, rfl, hW, (fun r350 h351 => (h351.1.symm ▸ ⟨_, rfl, ⟨fun ht352 => ?_, fun ht352 => ?_⟩⟩))⟩⟩))))))))
  · show SS _ _ [some ((fr T.C_Fraction) v_self), some ((fr T.C_Fraction) v_other)] [] _
    exact absurd ht352 (by decide)
  · show SS _ _ [some ((fr T.C_Fraction) v_self), some ((fr T.C_Fraction) v_other)] [] _
    refine ss_nil (seq_nx ?_)
    show SS _ _ [some ((fr T.C_Fraction) v_self), some ((fr T.C_Fraction) v_other)] [] _
    exact ss_ret (ex_cmp op_eq (ex_call (ok_order_2 T) (hr.mono (by decide)) T.m_order T.k_order T.kb_order_2 (ca_p (ax_cons (ex_var 0 rfl (ax_cons (ex_var 1 rfl (ax_nil ⟨[], _, rfl, rfl, rfl, rfl, ⟨v_self, v_other, _, rfl, rfl, (h351.2.2 ht352), (fun r355 h356 => (ex_int (ox_eqI (ph_rt (Qd := Qd) [] [] Pick.nil (hQ (decide (r355 = (0 : Int))) h356)))))⟩⟩))))))))
theorem ok_L_cut (T : Tx P w K mg base) : FnOk P w K mg base (L2.CX P w) 1 T.f_L_cut T.fd_L_cut ["_law_pairs_here"] (spS K 1 (fun ds Ω Qd Rd => ∃ (v_pairs_here : (List (Int × Int))) (Q : (List (Int × Int)) → Prop), ds = [(eL (eT iD iD)) v_pairs_here] ∧ Ω = [] ∧ W_L_cut v_pairs_here Q ∧ (∀ r , Q r  → ∀ p : Addr, Qd (rD p) ((p, Cell.lst (List.map (eT iD iD) r)) :: [])))) := by
  refine fn_S T.F_L_cut sc_L_cut (by decide) fun cdv A outer s H E ds Ω Qd Rd hr hh => ?_
  obtain ⟨v_pairs_here, Q, rfl, rfl, hW, hQ⟩ := hh
  unfold W_L_cut at hW
  show SS _ _ [some ((eL (eT iD iD)) v_pairs_here), none] [] _
  refine (ss_asg 1 sc_L_cut.nd (ex_callB call_len_seq T.z_len PySem.boot_len (ax_cons (ex_var 0 rfl (ax_nil (cx_lenL (f := (eT iD iD)) (xs := v_pairs_here) (.fr _) ?_))))))
  show SS _ _ [some ((eL (eT iD iD)) v_pairs_here), some (iD (v_pairs_here.length : Int))] [] _
  refine (ss_whileW (fun (s427 : Int) Γ0 Ω0 => Γ0 = [some ((eL (eT iD iD)) v_pairs_here), some (iD s427)] ∧ Ω0 = []) hW ⟨rfl, rfl⟩ ?_)
  intro s427 Γ9 Ω9 nx428 i9 h429
  obtain ⟨rfl, rfl⟩ := i9
  refine (tx_ofW (wx_andK [] h429 (fun h431 => (tx_cmp op_gt (ex_var 1 rfl (ex_int (ox_I0 ⟨_, rfl, ⟨fun ht432 => (wx_and1 (tx_cmp op_eq (ex_ixT (ex_ix (ex_var 0 rfl (ex_op op_sub (ex_var 1 rfl (ex_int (ox_I0 (Exists.elim (h431.1 ht432) fun v435 h436 => ⟨_, _, _, (.fr _), rfl, at_map (f := (eT iD iD)) (xs := v_pairs_here) h436.1, (ex_int ⟨_, _, _, rfl, rfl, rfl, (ex_int (ox_eqI ⟨_, rfl, ⟨rfl, h436.2⟩⟩))⟩)⟩)))))))))), fun ht432 => ⟨rfl, h431.2 ht432⟩⟩⟩))))) (fun b433 h434 => ⟨fun ht437 => ?_, fun ht437 => ?_⟩)))
  · show SS _ _ [some ((eL (eT iD iD)) v_pairs_here), some (iD s427)] [] _
    refine (ss_asg 1 sc_L_cut.nd (ex_op op_sub (ex_var 1 rfl (ex_int (ox_I0 (ss_gen (fun x438 => [some ((eL (eT iD iD)) v_pairs_here), some (iD x438)]) (fun x438 => []) (h434.1 ht437) (fun x438 h439 => ?_)))))))
    show SS _ _ [some ((eL (eT iD iD)) v_pairs_here), some (iD x438)] [] _
    exact ss_nil (Exists.intro x438 (And.intro h439 ⟨rfl, rfl⟩))
  · show SS _ _ [some ((eL (eT iD iD)) v_pairs_here), some (iD s427)] [] _
    exact ss_ret (ex_sl01T (ex_var 0 rfl (ex_var 1 rfl ⟨(eT iD iD), v_pairs_here, _, (.fr _), rfl, fun p440 => (ph_rt (Qd := Qd) [(p440, Cell.lst (List.map (eT iD iD) (cutD v_pairs_here none (some s427))))] [] (Pick.l Pick.nil) (hQ (cutD v_pairs_here none (some s427)) (h434.2 ht437) _))⟩)))
theorem ok_Polynomial_coefficients (T : Tx P w K mg base) : FnOk P w K mg base (L2.CX P w) 3 T.f_Polynomial_coefficients T.fd_Polynomial_coefficients ["self"] (spS K 1 (fun ds Ω Qd Rd => ∃ (v_self : R_Polynomial) (Q : (List Rat) → Prop), ds = [(e_Polynomial T) v_self] ∧ Ω = [] ∧ W_Polynomial_coefficients v_self Q ∧ (∀ r , Q r  → ∀ p : Addr, Qd (rD p) ((p, Cell.lst (List.map (fr T.C_Fraction) r)) :: [])))) := by
  refine fn_S T.F_Polynomial_coefficients sc_Polynomial_coefficients (by decide) fun cdv A outer s H E ds Ω Qd Rd hr hh => ?_
  obtain ⟨v_self, Q, rfl, rfl, hW, hQ⟩ := hh
  unfold W_Polynomial_coefficients at hW
  show SS _ _ [some ((e_Polynomial T) v_self), none] [] _
  exact ss_ret (ex_lc2 [("top", 1)] rfl sc_Polynomial_coefficients.nd rfl (show _ = defScope s_Polynomial_coefficients from rfl) (by decide +kernel) (ixp rfl) (fun _ _ _ _ _ => (pg_name (i := 1) sc_Polynomial_coefficients.nd rfl (by first | exact Or.inl rfl | exact Or.inr rfl) (by first | exact Or.inl rfl | exact Or.inr rfl))) (iw_lc (iw_list (ex_fld T.cls_Polynomial T.na_Polynomial__tops (ex_var 0 rfl ⟨_, _, .fr _ _, rfl, ⟨_, (.fr _), (lcW (α := Int) (f := iD) (fr T.C_Fraction) (fun s448 : (Unit) => []) hW.1 hW.2 rfl (fun _ => (.fr _)) (fun x447 s448 nx449 h450 => ⟨_, (Tgt.name 1), fun _ _ _ _ _ => (ex_frzO (ex_make T.mk_Fraction (ok_Fraction T) (hr.mono (by decide)) T.mg_Fraction T.kb_Fraction_init_3 (ca_p (ax_cons (ex_var 1 rfl (ax_cons (ex_fld T.cls_Polynomial T.na_Polynomial__bottom (ex_var 0 rfl ⟨_, _, .fr _ _, rfl, (ax_nil ⟨[], _, rfl, rfl, rfl, fun x459 => ⟨rfl, ⟨x459, x447, v_self._bottom, _, _, rfl, rfl, h450, (fun r457 h458 => ⟨rfl, ⟨_, _, _, _, rfl, rfl, ⟨r457, (), rfl, h458, rfl⟩⟩⟩), fun e he => False.elim he⟩⟩⟩)⟩))))))))⟩) (fun ys451 s448 h452 => fun p453 => (ph_rt (Qd := Qd) [(p453, Cell.lst (List.map (fr T.C_Fraction) ys451))] [] (Pick.l Pick.nil) (hQ ys451 h452 _))))⟩⟩)))))
theorem ok_Polynomial_degree (T : Tx P w K mg base) : FnOk P w K mg base (L2.CX P w) 1 T.f_Polynomial_degree T.fd_Polynomial_degree ["self"] (spS K 1 (fun ds Ω Qd Rd => ∃ (v_self : R_Polynomial) (Q : Int → Prop), ds = [(e_Polynomial T) v_self] ∧ Ω = [] ∧ W_Polynomial_degree v_self Q ∧ (∀ r , Q r  → Qd (iD r) []))) := by
  refine fn_S T.F_Polynomial_degree sc_Polynomial_degree (by decide) fun cdv A outer s H E ds Ω Qd Rd hr hh => ?_
  obtain ⟨v_self, Q, rfl, rfl, hW, hQ⟩ := hh
  unfold W_Polynomial_degree at hW
  show SS _ _ [some ((e_Polynomial T) v_self)] [] _
  exact ss_ret (ex_op op_sub (ex_callB call_len_seq T.z_len PySem.boot_len (ax_cons (ex_fld T.cls_Polynomial T.na_Polynomial__tops (ex_var 0 rfl ⟨_, _, .fr _ _, rfl, (ax_nil (cx_lenL (f := iD) (xs := v_self._tops) (.fr _) (ex_int (ox_I0 (ph_rt (Qd := Qd) [] [] Pick.nil (hQ ((v_self._tops.length : Int) - (1 : Int)) hW))))))⟩)))))
theorem ok_Polynomial_len (T : Tx P w K mg base) : FnOk P w K mg base (L2.CX P w) 1 T.f_Polynomial_len T.fd_Polynomial_len ["self"] (spS K 1 (fun ds Ω Qd Rd => ∃ (v_self : R_Polynomial) (Q : Int → Prop), ds = [(e_Polynomial T) v_self] ∧ Ω = [] ∧ W_Polynomial_len v_self Q ∧ (∀ r , Q r  → Qd (iD r) []))) := by
  refine fn_S T.F_Polynomial_len sc_Polynomial_len (by decide) fun cdv A outer s H E ds Ω Qd Rd hr hh => ?_
  obtain ⟨v_self, Q, rfl, rfl, hW, hQ⟩ := hh
  unfold W_Polynomial_len at hW
  show SS _ _ [some ((e_Polynomial T) v_self)] [] _
  exact ss_ret (ex_callB call_len_seq T.z_len PySem.boot_len (ax_cons (ex_fld T.cls_Polynomial T.na_Polynomial__tops (ex_var 0 rfl ⟨_, _, .fr _ _, rfl, (ax_nil (cx_lenL (f := iD) (xs := v_self._tops) (.fr _) (ph_rt (Qd := Qd) [] [] Pick.nil (hQ (v_self._tops.length : Int) hW))))⟩))))
theorem ok_L_is (T : Tx P w K mg base) : FnOk P w K mg base (L2.CX P w) 1 T.f_L_is T.fd_L_is ["_law_got", "_law_pair"] (spS K 2 (fun ds Ω Qd Rd => ∃ (v_got : Rat) (v_pair : (Int × Int)) (Q : Bool → Prop), ds = [(fr T.C_Fraction) v_got, (eT iD iD) v_pair] ∧ Ω = [] ∧ W_L_is v_got v_pair Q ∧ (∀ r , Q r  → Qd (bD r) []))) := by
  refine fn_S T.F_L_is sc_L_is (by decide) fun cdv A outer s H E ds Ω Qd Rd hr hh => ?_
  obtain ⟨v_got, v_pair, Q, rfl, rfl, hW, hQ⟩ := hh
  unfold W_L_is at hW
  show SS _ _ [some ((fr T.C_Fraction) v_got), some ((eT iD iD) v_pair)] [] _
  exact ss_ret (ex_andK [] hW (fun h505 => (ex_callB call_isi T.z_isinstance (by decide +kernel) (ax_cons (ex_var 0 rfl (ax_cons (ex_glob T.mg_Fraction (v := .ref T.C_Fraction) rfl (ax_nil (cx_isi (.own T.C_Fraction) (tyx_of (.ob T.cls_Fraction T.ca_Fraction T.cn T.ct T.cm_Fraction)) kit_self ⟨_, rfl, fun ht506 => (ex_andK [] (h505.1 ht506) (fun h510 => (ex_cmp op_ge (ex_fld T.cls_Fraction T.na_Fraction_bottom (ex_var 0 rfl ⟨_, _, .fr _ _, rfl, (ex_int (ox_I0 ⟨_, rfl, fun ht511 => (ex_one (ex_cmp op_eq (ex_op op_mulW (ex_fld T.cls_Fraction T.na_Fraction_top (ex_var 0 rfl ⟨_, _, .fr _ _, rfl, (ex_ixT (ex_var 1 rfl (ex_int ⟨_, _, _, rfl, rfl, rfl, (ox_I (h510.1 ht511).1 (ex_op op_mulW (ex_ixT (ex_var 1 rfl (ex_int ⟨_, _, _, rfl, rfl, rfl, (ex_fld T.cls_Fraction T.na_Fraction_bottom (ex_var 0 rfl ⟨_, _, .fr _ _, rfl, (ox_I (h510.1 ht511).2.1 (ox_eqI ⟨_, rfl, rfl, (h510.1 ht511).2.2⟩))⟩))⟩)))))⟩)))⟩))))), fun ht511 => ⟨rfl, h510.2 ht511⟩⟩))⟩)))) (fun b512 h513 => ⟨_, rfl, rfl, h513⟩)), fun ht506 => ⟨rfl, h505.2 ht506⟩⟩)))))))) (fun b507 h508 => (ph_rt (Qd := Qd) [] [] Pick.nil (hQ b507 h508))))
theorem ok_L_list (T : Tx P w K mg base) : FnOk P w K mg base (L2.CX P w) 2 T.f_L_list T.fd_L_list ["_law_values", "_law_pairs_here"] (spS K 2 (fun ds Ω Qd Rd => ∃ (v_values : (List Rat)) (v_pairs_here : (List (Int × Int))) (Q : Bool → Prop), ds = [(eL (fr T.C_Fraction)) v_values, (eL (eT iD iD)) v_pairs_here] ∧ Ω = [] ∧ W_L_list v_values v_pairs_here Q ∧ (∀ r , Q r  → Qd (bD r) []))) := by
  refine fn_S T.F_L_list sc_L_list (by decide) fun cdv A outer s H E ds Ω Qd Rd hr hh => ?_
  obtain ⟨v_values, v_pairs_here, Q, rfl, rfl, hW, hQ⟩ := hh
  unfold W_L_list at hW
  show SS _ _ [some ((eL (fr T.C_Fraction)) v_values), some ((eL (eT iD iD)) v_pairs_here), none] [] _
  refine (ss_if (tx_ofW (wx_orP (tx_not (tx_val (ex_callB call_isi T.z_isinstance (by decide +kernel) (ax_cons (ex_var 0 rfl (ax_cons (ex_bltn T.z_list (by decide +kernel) (v := .ty "list") (u := .type "list") rfl (ax_nil (cx_isi (.ty "list") (tyx_L rfl) kit_LL ⟨_, rfl, ⟨rfl, rfl⟩⟩))))))))) (fun ht490 => (wx_or1 (tx_cmp op_ne (ex_callB call_len_seq T.z_len PySem.boot_len (ax_cons (ex_var 0 rfl (ax_nil (cx_lenL (f := (fr T.C_Fraction)) (xs := v_values) (.fr _) (ex_callB call_len_seq T.z_len PySem.boot_len (ax_cons (ex_var 1 rfl (ax_nil (cx_lenL (f := (eT iD iD)) (xs := v_pairs_here) (.fr _) (ox_neI ⟨_, rfl, ⟨rfl, rfl⟩⟩)))))))))))))) ⟨fun ht491 => ?_, fun ht491 => ?_⟩)))
  · show SS _ _ [some ((eL (fr T.C_Fraction)) v_values), some ((eL (eT iD iD)) v_pairs_here), none] [] _
    exact ss_ret (ex_bl (ph_rt (Qd := Qd) [] [] Pick.nil (hQ false (hW.1 ht491))))
  · show SS _ _ [some ((eL (fr T.C_Fraction)) v_values), some ((eL (eT iD iD)) v_pairs_here), none] [] _
    refine ss_nil (seq_nx ?_)
    show SS _ _ [some ((eL (fr T.C_Fraction)) v_values), some ((eL (eT iD iD)) v_pairs_here), none] [] _
    refine (ss_forW iD rfl (pg_name (i := 2) sc_L_list.nd rfl (by first | exact Or.inl rfl | exact Or.inr rfl)) (fun (s493 : Unit) Γ0 Ω0 => ∃ j492 : Option D, Γ0 = [some ((eL (fr T.C_Fraction)) v_values), some ((eL (eT iD iD)) v_pairs_here), j492] ∧ Ω0 = []) (iw_rng1 T.z_range (ex_callB call_len_seq T.z_len PySem.boot_len (ax_cons (ex_var 1 rfl (ax_nil (cx_lenL (f := (eT iD iD)) (xs := v_pairs_here) (.fr _) ⟨_, rfl, (hW.2 ht491).1.1, (hW.2 ht491).1.2, ⟨_, _, _, (hW.2 ht491).2, ⟨_, rfl, rfl⟩, (fun s Γ Ω ⟨_, e1, e2⟩ => e2 ▸ True.intro), ?_, ?_⟩⟩)))))))
    · intro x494 s493 Γ9 Ω9 nx495 i9 h496
      obtain ⟨j492, rfl, rfl⟩ := i9
      refine ⟨_, _, (Tgt.name 2), ix_all rfl, ?_⟩
      show SS _ _ [some ((eL (fr T.C_Fraction)) v_values), some ((eL (eT iD iD)) v_pairs_here), some (iD x494)] [] _
      refine (ss_if (tx_not (tx_val (ex_call (ok_L_is T) (hr.mono (by decide)) T.m_L_is T.k_L_is T.kb_L_is_2 (ca_p (ax_cons (ex_ix (ex_var 0 rfl (ex_var 2 rfl (Exists.elim h496 fun v506 h507 => ⟨_, _, _, (.fr _), rfl, at_map (f := (fr T.C_Fraction)) (xs := v_values) h507.1, (ax_cons (ex_ix (ex_var 1 rfl (ex_var 2 rfl (Exists.elim h507.2 fun v508 h509 => ⟨_, _, _, (.fr _), rfl, at_map (f := (eT iD iD)) (xs := v_pairs_here) h509.1, (ax_nil ⟨[], _, rfl, rfl, rfl, rfl, ⟨v506, v508, _, rfl, rfl, h509.2, (fun r510 h511 => ⟨_, rfl, ⟨fun ht512 => ?_, fun ht512 => ?_⟩⟩)⟩⟩)⟩)))))⟩))))))))))
      · show SS _ _ [some ((eL (fr T.C_Fraction)) v_values), some ((eL (eT iD iD)) v_pairs_here), some (iD x494)] [] _
        exact ss_ret (ex_bl (ph_rt (Qd := Qd) [] [] Pick.nil (hQ false (h511.1 ht512))))
      · show SS _ _ [some ((eL (fr T.C_Fraction)) v_values), some ((eL (eT iD iD)) v_pairs_here), some (iD x494)] [] _
        refine ss_nil (seq_nx ?_)
        show SS _ _ [some ((eL (fr T.C_Fraction)) v_values), some ((eL (eT iD iD)) v_pairs_here), some (iD x494)] [] _
        exact ss_nil (Exists.intro () (And.intro (h511.2 ht512) ⟨_, rfl, rfl⟩))
    · intro s493 Γ9 Ω9 i9 h497
      obtain ⟨j492, rfl, rfl⟩ := i9
      show SS _ _ [some ((eL (fr T.C_Fraction)) v_values), some ((eL (eT iD iD)) v_pairs_here), j492] [] _
      exact ss_ret (ex_bl (ph_rt (Qd := Qd) [] [] Pick.nil (hQ true h497)))
theorem ok_Polynomial_getitem (T : Tx P w K mg base) : FnOk P w K mg base (L2.CX P w) 3 T.f_Polynomial_getitem T.fd_Polynomial_getitem ["self", "at"] (spS K 2 (fun ds Ω Qd Rd => ∃ (v_self : R_Polynomial) (v_at : Int) (Q : Rat → Prop) (X : Exn → Prop), ds = [(e_Polynomial T) v_self, iD v_at] ∧ Ω = [] ∧ W_Polynomial_getitem v_self v_at Q X ∧ (∀ r , Q r  → Qd ((fr T.C_Fraction) r) []) ∧ (∀ e, X e → Rd (exC T e) (exF T e) []))) := by
  refine fn_S T.F_Polynomial_getitem sc_Polynomial_getitem (by decide) fun cdv A outer s H E ds Ω Qd Rd hr hh => ?_
  obtain ⟨v_self, v_at, Q, X, rfl, rfl, hW, hQ, hX⟩ := hh
  unfold W_Polynomial_getitem at hW
  show SS _ _ [some ((e_Polynomial T) v_self), some (iD v_at)] [] _
  refine (ss_if (tx_cmp op_lt (ex_var 1 rfl (ex_callB call_len_seq T.z_len PySem.boot_len (ax_cons (ex_fld T.cls_Polynomial T.na_Polynomial__tops (ex_var 0 rfl ⟨_, _, .fr _ _, rfl, (ax_nil (cx_lenL (f := iD) (xs := v_self._tops) (.fr _) (ox_I0 ⟨_, rfl, ⟨fun ht524 => ?_, fun ht524 => ?_⟩⟩)))⟩)))))))
  · show SS _ _ [some ((e_Polynomial T) v_self), some (iD v_at)] [] _
    exact ss_ret (ex_frzO (ex_make T.mk_Fraction (ok_Fraction T) (hr.mono (by decide)) T.mg_Fraction T.kb_Fraction_init_3 (ca_p (ax_cons (ex_ix (ex_fld T.cls_Polynomial T.na_Polynomial__tops (ex_var 0 rfl ⟨_, _, .fr _ _, rfl, (ex_var 1 rfl (Exists.elim (hW.1 ht524) fun v530 h531 => ⟨_, _, _, (.fr _), rfl, at_map (f := iD) (xs := v_self._tops) h531.1, (ax_cons (ex_fld T.cls_Polynomial T.na_Polynomial__bottom (ex_var 0 rfl ⟨_, _, .fr _ _, rfl, (ax_nil ⟨[], _, rfl, rfl, rfl, fun x534 => ⟨rfl, ⟨x534, v530, v_self._bottom, _, _, rfl, rfl, h531.2, (fun r532 h533 => ⟨rfl, ⟨_, _, _, _, rfl, rfl, (ph_rt (Qd := Qd) [] [] Pick.nil (hQ r532 h533))⟩⟩), fun e he => (ph_ex (Rd := Rd) [] [] Pick.nil (hX e he))⟩⟩⟩)⟩)))⟩))⟩)))))))
  · show SS _ _ [some ((e_Polynomial T) v_self), some (iD v_at)] [] _
    refine ss_nil (seq_nx ?_)
    show SS _ _ [some ((e_Polynomial T) v_self), some (iD v_at)] [] _
    exact ss_ret (ex_frzO (ex_make T.mk_Fraction (ok_Fraction T) (hr.mono (by decide)) T.mg_Fraction T.kb_Fraction_init_2 (ca_p (ax_cons (ex_int (ax_nil ⟨[], _, rfl, rfl, rfl, fun x540 => ⟨rfl, ⟨x540, (0 : Int), (1 : Int), _, _, rfl, rfl, (hW.2 ht524), (fun r538 h539 => ⟨rfl, ⟨_, _, _, _, rfl, rfl, (ph_rt (Qd := Qd) [] [] Pick.nil (hQ r538 h539))⟩⟩), fun e he => (ph_ex (Rd := Rd) [] [] Pick.nil (hX e he))⟩⟩⟩))))))
theorem ok_L_asked (T : Tx P w K mg base) : FnOk P w K mg base (L2.CX P w) 5 T.f_L_asked T.fd_L_asked ["_law_p", "_law_pairs_here"] (spS K 2 (fun ds Ω Qd Rd => ∃ (v_p : R_Polynomial) (v_pairs_here : (List (Int × Int))) (Q : Bool → Prop), ds = [(e_Polynomial T) v_p, (eL (eT iD iD)) v_pairs_here] ∧ Ω = [] ∧ W_L_asked v_p v_pairs_here Q ∧ (∀ r , Q r  → Qd (bD r) []))) := by
  refine fn_S T.F_L_asked sc_L_asked (by decide) fun cdv A outer s H E ds Ω Qd Rd hr hh => ?_
  obtain ⟨v_p, v_pairs_here, Q, rfl, rfl, hW, hQ⟩ := hh
  unfold W_L_asked at hW
  show SS _ _ [some ((e_Polynomial T) v_p), some ((eL (eT iD iD)) v_pairs_here), none, none] [] _
  refine (ss_if (tx_ofW (wx_orK [] hW (fun h469 => (tx_cmp op_ne (ex_prop T.cls_Polynomial T.pf_Polynomial_degree (ok_Polynomial_degree T) (hr.mono (by decide)) T.bb_Polynomial_degree (ex_var 0 rfl ⟨_, [], _, rfl, .fr _ _, ⟨v_p, _, rfl, rfl, h469, fun r473 h474 => (ex_op op_sub (ex_callB call_len_seq T.z_len PySem.boot_len (ax_cons (ex_var 1 rfl (ax_nil (cx_lenL (f := (eT iD iD)) (xs := v_pairs_here) (.fr _) (ex_int (ox_I0 (ox_neI ⟨_, rfl, ⟨fun ht470 => ⟨rfl, h474.1 ht470⟩, fun ht470 => (wx_orK [] (h474.2 ht470) (fun h476 => (tx_cmp op_ne (ex_lenO T.cmpo_Polynomial_len (ok_Polynomial_len T) (hr.mono (by decide)) T.bb_Polynomial_len T.z_len (ex_var 0 rfl ⟨_, rfl, v_p, _, rfl, rfl, h476, (fun r482 h483 => ⟨_, rfl, h483.1, (ex_callB call_len_seq T.z_len PySem.boot_len (ax_cons (ex_var 1 rfl (ax_nil (cx_lenL (f := (eT iD iD)) (xs := v_pairs_here) (.fr _) (ox_neI ⟨_, rfl, ⟨fun ht477 => ⟨rfl, h483.2.1 ht477⟩, fun ht477 => (wx_or1 (tx_not (tx_val (ex_call (ok_L_list T) (hr.mono (by decide)) T.m_L_list T.k_L_list T.kb_L_list_2 (ca_p (ax_cons (ex_frz (ex_meth T.cls_Polynomial T.me_Polynomial_coefficients (ok_Polynomial_coefficients T) (hr.mono (by decide)) T.kb_Polynomial_coefficients_1 (ex_var 0 rfl ⟨_, .fr _ _, rfl, (ca_0 ⟨[], _, rfl, rfl, rfl, rfl, ⟨v_p, _, rfl, rfl, (h483.2.2 ht477), (fun r495 h496 p497 => ⟨_, _, _, rfl, rfl, (ax_cons (ex_var 1 rfl (ax_nil ⟨[], _, rfl, rfl, rfl, rfl, ⟨r495, v_pairs_here, _, rfl, rfl, h496, (fun r498 h499 => ⟨_, rfl, ⟨rfl, h499⟩⟩)⟩⟩)))⟩)⟩⟩)⟩)))))))))⟩⟩))))))⟩)⟩)))) (fun b478 h479 => ⟨rfl, h479⟩))⟩⟩)))))))))⟩⟩)))) (fun b471 h472 => ⟨fun ht500 => ?_, fun ht500 => ?_⟩))))
  · show SS _ _ [some ((e_Polynomial T) v_p), some ((eL (eT iD iD)) v_pairs_here), none, none] [] _
    exact ss_ret (ex_bl (ph_rt (Qd := Qd) [] [] Pick.nil (hQ false (h472.1 ht500))))
  · show SS _ _ [some ((e_Polynomial T) v_p), some ((eL (eT iD iD)) v_pairs_here), none, none] [] _
    refine ss_nil (seq_nx ?_)
    show SS _ _ [some ((e_Polynomial T) v_p), some ((eL (eT iD iD)) v_pairs_here), none, none] [] _
    refine (ss_forW iD rfl (pg_name (i := 2) sc_L_asked.nd rfl (by first | exact Or.inl rfl | exact Or.inr rfl)) (fun (s503 : Unit) Γ0 Ω0 => ∃ j501 : Option D, ∃ j502 : Option D, Γ0 = [some ((e_Polynomial T) v_p), some ((eL (eT iD iD)) v_pairs_here), j501, j502] ∧ Ω0 = []) (iw_rng1 T.z_range (ex_op op_add (ex_callB call_len_seq T.z_len PySem.boot_len (ax_cons (ex_var 1 rfl (ax_nil (cx_lenL (f := (eT iD iD)) (xs := v_pairs_here) (.fr _) (ex_int (ox_I0 ⟨_, rfl, (h472.2 ht500).1.1, (h472.2 ht500).1.2, ⟨_, _, _, (h472.2 ht500).2, ⟨_, _, rfl, rfl⟩, (fun s Γ Ω ⟨_, _, e1, e2⟩ => e2 ▸ True.intro), ?_, ?_⟩⟩))))))))))
    · intro x504 s503 Γ9 Ω9 nx505 i9 h506
      obtain ⟨j501, j502, rfl, rfl⟩ := i9
      refine ⟨_, _, (Tgt.name 2), ix_all rfl, ?_⟩
      show SS _ _ [some ((e_Polynomial T) v_p), some ((eL (eT iD iD)) v_pairs_here), some (iD x504), j502] [] _
      refine (ss_asg 3 sc_L_asked.nd (ex_tup (ax_cons (ex_int (ax_cons (ex_int (ax_nil ⟨Nat.le_of_ble_eq_true rfl, (ss_gen (fun x510 => [some ((e_Polynomial T) v_p), some ((eL (eT iD iD)) v_pairs_here), some (iD x504), some ((eT iD iD) x510)]) (fun x510 => []) h506 (fun x510 h511 => ?_))⟩)))))))
      show SS _ _ [some ((e_Polynomial T) v_p), some ((eL (eT iD iD)) v_pairs_here), some (iD x504), some ((eT iD iD) x510)] [] _
      refine (ss_ifK (fun (s512 : (Int × Int)) Γ0 Ω0 => Γ0 = [some ((e_Polynomial T) v_p), some ((eL (eT iD iD)) v_pairs_here), some (iD x504), some ((eT iD iD) s512)] ∧ Ω0 = []) h511 (fun h514 => (tx_cmp op_lt (ex_var 2 rfl (ex_callB call_len_seq T.z_len PySem.boot_len (ax_cons (ex_var 1 rfl (ax_nil (cx_lenL (f := (eT iD iD)) (xs := v_pairs_here) (.fr _) (ox_I0 ⟨_, rfl, ⟨fun ht516 => ?_, fun ht516 => ?_⟩⟩))))))))) ?_)
      · show SS _ _ [some ((e_Polynomial T) v_p), some ((eL (eT iD iD)) v_pairs_here), some (iD x504), some ((eT iD iD) x510)] [] _
        refine (ss_asg 3 sc_L_asked.nd (ex_ix (ex_var 1 rfl (ex_var 2 rfl (Exists.elim (h514.1 ht516) fun v517 h518 => ⟨_, _, _, (.fr _), rfl, at_map (f := (eT iD iD)) (xs := v_pairs_here) h518.1, ?_⟩)))))
        show SS _ _ [some ((e_Polynomial T) v_p), some ((eL (eT iD iD)) v_pairs_here), some (iD x504), some ((eT iD iD) v517)] [] _
        exact ss_nil (Exists.intro v517 (And.intro ⟨rfl, rfl⟩ h518.2))
      · show SS _ _ [some ((e_Polynomial T) v_p), some ((eL (eT iD iD)) v_pairs_here), some (iD x504), some ((eT iD iD) x510)] [] _
        exact ss_nil (Exists.intro x510 (And.intro ⟨rfl, rfl⟩ (h514.2 ht516)))
      · intro s512 Γ9 Ω9 i9 h515
        obtain ⟨rfl, rfl⟩ := i9
        show SS _ _ [some ((e_Polynomial T) v_p), some ((eL (eT iD iD)) v_pairs_here), some (iD x504), some ((eT iD iD) s512)] [] _
        refine (ss_if (tx_not (tx_val (ex_call (ok_L_is T) (hr.mono (by decide)) T.m_L_is T.k_L_is T.kb_L_is_2 (ca_p (ax_cons (ex_subO T.cmpo_Polynomial_getitem T.fnin_Polynomial_getitem (ok_Polynomial_getitem T) (hr.mono (by decide)) T.bb_Polynomial_getitem (ex_var 0 rfl (ex_var 2 rfl ⟨_, _, rfl, rfl, v_p, x504, _, _, rfl, rfl, h515, (fun r523 h524 => (ax_cons (ex_var 3 rfl (ax_nil ⟨[], _, rfl, rfl, rfl, rfl, ⟨r523, s512, _, rfl, rfl, h524, (fun r525 h526 => ⟨_, rfl, ⟨fun ht527 => ?_, fun ht527 => ?_⟩⟩)⟩⟩)))), fun e he => False.elim he⟩)))))))))
        · show SS _ _ [some ((e_Polynomial T) v_p), some ((eL (eT iD iD)) v_pairs_here), some (iD x504), some ((eT iD iD) s512)] [] _
          exact ss_ret (ex_bl (ph_rt (Qd := Qd) [] [] Pick.nil (hQ false (h526.1 ht527))))
        · show SS _ _ [some ((e_Polynomial T) v_p), some ((eL (eT iD iD)) v_pairs_here), some (iD x504), some ((eT iD iD) s512)] [] _
          refine ss_nil (seq_nx ?_)
          show SS _ _ [some ((e_Polynomial T) v_p), some ((eL (eT iD iD)) v_pairs_here), some (iD x504), some ((eT iD iD) s512)] [] _
          exact ss_nil (Exists.intro () (And.intro (h526.2 ht527) ⟨_, _, rfl, rfl⟩))
    · intro s503 Γ9 Ω9 i9 h507
      obtain ⟨j501, j502, rfl, rfl⟩ := i9
      show SS _ _ [some ((e_Polynomial T) v_p), some ((eL (eT iD iD)) v_pairs_here), j501, j502] [] _
      exact ss_ret (ex_bl (ph_rt (Qd := Qd) [] [] Pick.nil (hQ true h507)))
theorem ok_Polynomial_call (T : Tx P w K mg base) : FnOk P w K mg base (L2.CX P w) 3 T.f_Polynomial_call T.fd_Polynomial_call ["self", "x"] (spS K 2 (fun ds Ω Qd Rd => ∃ (v_self : R_Polynomial) (v_x : Rat) (Q : Rat → Prop) (X : Exn → Prop), ds = [(e_Polynomial T) v_self, (fr T.C_Fraction) v_x] ∧ Ω = [] ∧ W_Polynomial_call v_self v_x Q X ∧ (∀ r , Q r  → Qd ((fr T.C_Fraction) r) []) ∧ (∀ e, X e → Rd (exC T e) (exF T e) []))) := by
  refine fn_S T.F_Polynomial_call sc_Polynomial_call (by decide) fun cdv A outer s H E ds Ω Qd Rd hr hh => ?_
  obtain ⟨v_self, v_x, Q, X, rfl, rfl, hW, hQ, hX⟩ := hh
  unfold W_Polynomial_call at hW
  show SS _ _ [some ((e_Polynomial T) v_self), some ((fr T.C_Fraction) v_x), none, none, none, none] [] _
  refine (ss_asg 2 sc_Polynomial_call.nd (ex_call (ok_as_fraction_3 T) (hr.mono (by decide)) T.m_as_fraction T.k_as_fraction T.kb_as_fraction_1 (ca_p (ax_cons (ex_var 1 rfl (ax_nil ⟨[], _, rfl, rfl, rfl, rfl, ⟨v_x, _, rfl, rfl, hW, (fun r501 h502 => ?_)⟩⟩))))))
  show SS _ _ [some ((e_Polynomial T) v_self), some ((fr T.C_Fraction) v_x), some ((fr T.C_Fraction) r501), none, none, none] [] _
  refine (ss_asg 3 sc_Polynomial_call.nd (ex_int ?_))
  show SS _ _ [some ((e_Polynomial T) v_self), some ((fr T.C_Fraction) v_x), some ((fr T.C_Fraction) r501), some (iD (0 : Int)), none, none] [] _
  refine (ss_asg 4 sc_Polynomial_call.nd (ex_int ?_))
  show SS _ _ [some ((e_Polynomial T) v_self), some ((fr T.C_Fraction) v_x), some ((fr T.C_Fraction) r501), some (iD (0 : Int)), some (iD (1 : Int)), none] [] _
  refine (ss_forW iD rfl (pg_name (i := 5) sc_Polynomial_call.nd rfl (by first | exact Or.inl rfl | exact Or.inr rfl)) (fun (s505 : Int × Int) Γ0 Ω0 => ∃ j504 : Option D, Γ0 = [some ((e_Polynomial T) v_self), some ((fr T.C_Fraction) v_x), some ((fr T.C_Fraction) r501), some (iD s505.1), some (iD s505.2), j504] ∧ Ω0 = []) (iw_list (ex_frz (ex_revT (ex_fld T.cls_Polynomial T.na_Polynomial__tops (ex_var 0 rfl ⟨_, _, .fr _ _, rfl, ⟨iD, v_self._tops, (.fr _), fun p503 => ⟨_, _, _, rfl, rfl, ⟨_, (.fr _), ⟨_, _, _, h502, ⟨_, rfl, rfl⟩, (fun s Γ Ω ⟨_, e1, e2⟩ => e2 ▸ (.fr _)), ?_, ?_⟩⟩⟩⟩⟩))))))
  · intro x506 s505 Γ9 Ω9 nx507 i9 h508
    obtain ⟨j504, rfl, rfl⟩ := i9
    refine ⟨_, _, (Tgt.name 5), ix_all rfl, ?_⟩
    show SS _ _ [some ((e_Polynomial T) v_self), some ((fr T.C_Fraction) v_x), some ((fr T.C_Fraction) r501), some (iD s505.1), some (iD s505.2), some (iD x506)] [] _
    refine (ss_asg 3 sc_Polynomial_call.nd (ex_op op_add (ex_op op_mulW (ex_var 3 rfl (ex_fld T.cls_Fraction T.na_Fraction_top (ex_var 2 rfl ⟨_, _, .fr _ _, rfl, (ox_I h508.1 (ex_op op_mulW (ex_var 5 rfl (ex_var 4 rfl (ox_I h508.2.1 (ox_I0 (ss_gen (fun x512 => [some ((e_Polynomial T) v_self), some ((fr T.C_Fraction) v_x), some ((fr T.C_Fraction) r501), some (iD x512), some (iD s505.2), some (iD x506)]) (fun x512 => []) h508.2.2 (fun x512 h513 => ?_))))))))⟩))))))
    show SS _ _ [some ((e_Polynomial T) v_self), some ((fr T.C_Fraction) v_x), some ((fr T.C_Fraction) r501), some (iD x512), some (iD s505.2), some (iD x506)] [] _
    refine (ss_asg 4 sc_Polynomial_call.nd (ex_op op_mulW (ex_var 4 rfl (ex_fld T.cls_Fraction T.na_Fraction_bottom (ex_var 2 rfl ⟨_, _, .fr _ _, rfl, (ox_I h513.1 (ss_gen (fun x514 => [some ((e_Polynomial T) v_self), some ((fr T.C_Fraction) v_x), some ((fr T.C_Fraction) r501), some (iD x512), some (iD x514), some (iD x506)]) (fun x514 => []) h513.2 (fun x514 h515 => ?_)))⟩)))))
    show SS _ _ [some ((e_Polynomial T) v_self), some ((fr T.C_Fraction) v_x), some ((fr T.C_Fraction) r501), some (iD x512), some (iD x514), some (iD x506)] [] _
    exact ss_nil (Exists.intro (x512, x514) (And.intro h515 ⟨_, rfl, rfl⟩))
  · intro s505 Γ9 Ω9 i9 h509
    obtain ⟨j504, rfl, rfl⟩ := i9
    show SS _ _ [some ((e_Polynomial T) v_self), some ((fr T.C_Fraction) v_x), some ((fr T.C_Fraction) r501), some (iD s505.1), some (iD s505.2), j504] [] _
    exact ss_ret (ex_frzO (ex_make T.mk_Fraction (ok_Fraction T) (hr.mono (by decide)) T.mg_Fraction T.kb_Fraction_init_3 (ca_p (ax_cons (ex_op op_mulW (ex_var 3 rfl (ex_fld T.cls_Fraction T.na_Fraction_bottom (ex_var 2 rfl ⟨_, _, .fr _ _, rfl, (ox_I h509.1 (ax_cons (ex_op op_mulW (ex_var 4 rfl (ex_fld T.cls_Polynomial T.na_Polynomial__bottom (ex_var 0 rfl ⟨_, _, .fr _ _, rfl, (ox_I h509.2.1 (ax_nil ⟨[], _, rfl, rfl, rfl, fun x521 => ⟨rfl, ⟨x521, (s505.1 * ((r501).den : Int)), (s505.2 * v_self._bottom), _, _, rfl, rfl, h509.2.2, (fun r519 h520 => ⟨rfl, ⟨_, _, _, _, rfl, rfl, (ph_rt (Qd := Qd) [] [] Pick.nil (hQ r519 h520))⟩⟩), fun e he => (ph_ex (Rd := Rd) [] [] Pick.nil (hX e he))⟩⟩⟩))⟩))))))⟩))))))))
theorem ok_L_value (T : Tx P w K mg base) : FnOk P w K mg base (L2.CX P w) 1 T.f_L_value T.fd_L_value ["_law_pairs_here", "_law_place"] (spS K 2 (fun ds Ω Qd Rd => ∃ (v_pairs_here : (List (Int × Int))) (v_place : (Int × Int)) (Q : (Int × Int) → Prop), ds = [(eL (eT iD iD)) v_pairs_here, (eT iD iD) v_place] ∧ Ω = [] ∧ W_L_value v_pairs_here v_place Q ∧ (∀ r , Q r  → Qd ((eT iD iD) r) []))) := by
  refine fn_S T.F_L_value sc_L_value (by decide) fun cdv A outer s H E ds Ω Qd Rd hr hh => ?_
  obtain ⟨v_pairs_here, v_place, Q, rfl, rfl, hW, hQ⟩ := hh
  unfold W_L_value at hW
  show SS _ _ [some ((eL (eT iD iD)) v_pairs_here), some ((eT iD iD) v_place), none, none, none, none] [] _
  refine (ss_asg 2 sc_L_value.nd (ex_int ?_))
  show SS _ _ [some ((eL (eT iD iD)) v_pairs_here), some ((eT iD iD) v_place), some (iD (0 : Int)), none, none, none] [] _
  refine (ss_asg 3 sc_L_value.nd (ex_int ?_))
  show SS _ _ [some ((eL (eT iD iD)) v_pairs_here), some ((eT iD iD) v_place), some (iD (0 : Int)), some (iD (1 : Int)), none, none] [] _
  refine (ss_forW iD rfl (pg_name (i := 4) sc_L_value.nd rfl (by first | exact Or.inl rfl | exact Or.inr rfl)) (fun (s534 : Int × Int) Γ0 Ω0 => ∃ j532 : Option D, ∃ j533 : Option D, Γ0 = [some ((eL (eT iD iD)) v_pairs_here), some ((eT iD iD) v_place), some (iD s534.1), some (iD s534.2), j532, j533] ∧ Ω0 = []) (iw_rng1 T.z_range (ex_callB call_len_seq T.z_len PySem.boot_len (ax_cons (ex_var 0 rfl (ax_nil (cx_lenL (f := (eT iD iD)) (xs := v_pairs_here) (.fr _) ⟨_, rfl, hW.1.1, hW.1.2, ⟨_, _, _, hW.2, ⟨_, _, rfl, rfl⟩, (fun s Γ Ω ⟨_, _, e1, e2⟩ => e2 ▸ True.intro), ?_, ?_⟩⟩)))))))
  · intro x535 s534 Γ9 Ω9 nx536 i9 h537
    obtain ⟨j532, j533, rfl, rfl⟩ := i9
    refine ⟨_, _, (Tgt.name 4), ix_all rfl, ?_⟩
    show SS _ _ [some ((eL (eT iD iD)) v_pairs_here), some ((eT iD iD) v_place), some (iD s534.1), some (iD s534.2), some (iD x535), j533] [] _
    refine (ss_asg 5 sc_L_value.nd (ex_ix (ex_var 0 rfl (ex_op op_sub (ex_op op_sub (ex_callB call_len_seq T.z_len PySem.boot_len (ax_cons (ex_var 0 rfl (ax_nil (cx_lenL (f := (eT iD iD)) (xs := v_pairs_here) (.fr _) (ex_int (ox_I0 (ex_var 4 rfl (ox_I0 (Exists.elim h537 fun v541 h542 => ⟨_, _, _, (.fr _), rfl, at_map (f := (eT iD iD)) (xs := v_pairs_here) h542.1, ?_⟩)))))))))))))))
    show SS _ _ [some ((eL (eT iD iD)) v_pairs_here), some ((eT iD iD) v_place), some (iD s534.1), some (iD s534.2), some (iD x535), some ((eT iD iD) v541)] [] _
    refine (ss_asg 2 sc_L_value.nd (ex_op op_add (ex_op op_mulW (ex_op op_mulW (ex_var 2 rfl (ex_ixT (ex_var 1 rfl (ex_int ⟨_, _, _, rfl, rfl, rfl, (ox_I h542.2.1 (ex_ixT (ex_var 5 rfl (ex_int ⟨_, _, _, rfl, rfl, rfl, (ox_I h542.2.2.1 (ex_op op_mulW (ex_op op_mulW (ex_ixT (ex_var 5 rfl (ex_int ⟨_, _, _, rfl, rfl, rfl, (ex_var 3 rfl (ox_I h542.2.2.2.1 (ex_ixT (ex_var 1 rfl (ex_int ⟨_, _, _, rfl, rfl, rfl, (ox_I h542.2.2.2.2.1 (ox_I0 (ss_gen (fun x543 => [some ((eL (eT iD iD)) v_pairs_here), some ((eT iD iD) v_place), some (iD x543), some (iD s534.2), some (iD x535), some ((eT iD iD) v541)]) (fun x543 => []) h542.2.2.2.2.2 (fun x543 h544 => ?_))))⟩)))))⟩))))))⟩))))⟩))))))))
    show SS _ _ [some ((eL (eT iD iD)) v_pairs_here), some ((eT iD iD) v_place), some (iD x543), some (iD s534.2), some (iD x535), some ((eT iD iD) v541)] [] _
    refine (ss_asg 3 sc_L_value.nd (ex_op op_mulW (ex_op op_mulW (ex_var 3 rfl (ex_ixT (ex_var 1 rfl (ex_int ⟨_, _, _, rfl, rfl, rfl, (ox_I h544.1 (ex_ixT (ex_var 5 rfl (ex_int ⟨_, _, _, rfl, rfl, rfl, (ox_I h544.2.1 (ss_gen (fun x545 => [some ((eL (eT iD iD)) v_pairs_here), some ((eT iD iD) v_place), some (iD x543), some (iD x545), some (iD x535), some ((eT iD iD) v541)]) (fun x545 => []) h544.2.2 (fun x545 h546 => ?_)))⟩))))⟩)))))))
    show SS _ _ [some ((eL (eT iD iD)) v_pairs_here), some ((eT iD iD) v_place), some (iD x543), some (iD x545), some (iD x535), some ((eT iD iD) v541)] [] _
    exact ss_nil (Exists.intro (x543, x545) (And.intro h546 ⟨_, _, rfl, rfl⟩))
  · intro s534 Γ9 Ω9 i9 h538
    obtain ⟨j532, j533, rfl, rfl⟩ := i9
    show SS _ _ [some ((eL (eT iD iD)) v_pairs_here), some ((eT iD iD) v_place), some (iD s534.1), some (iD s534.2), j532, j533] [] _
    exact ss_ret (ex_tup (ax_cons (ex_var 2 rfl (ax_cons (ex_var 3 rfl (ax_nil ⟨Nat.le_of_ble_eq_true rfl, (ph_rt (Qd := Qd) [] [] Pick.nil (hQ (s534.1, s534.2) h538))⟩))))))
theorem ok_Polynomial_call_2 (T : Tx P w K mg base) : FnOk P w K mg base (L2.CX P w) 4 T.f_Polynomial_call T.fd_Polynomial_call ["self", "x"] (spS K 2 (fun ds Ω Qd Rd => ∃ (v_self : R_Polynomial) (v_x : Int) (Q : Rat → Prop) (X : Exn → Prop), ds = [(e_Polynomial T) v_self, iD v_x] ∧ Ω = [] ∧ W_Polynomial_call_2 v_self v_x Q X ∧ (∀ r , Q r  → Qd ((fr T.C_Fraction) r) []) ∧ (∀ e, X e → Rd (exC T e) (exF T e) []))) := by
  refine fn_S T.F_Polynomial_call sc_Polynomial_call (by decide) fun cdv A outer s H E ds Ω Qd Rd hr hh => ?_
  obtain ⟨v_self, v_x, Q, X, rfl, rfl, hW, hQ, hX⟩ := hh
  unfold W_Polynomial_call_2 at hW
  show SS _ _ [some ((e_Polynomial T) v_self), some (iD v_x), none, none, none, none] [] _
  refine (ss_asg 2 sc_Polynomial_call.nd (ex_call (ok_as_fraction_2 T) (hr.mono (by decide)) T.m_as_fraction T.k_as_fraction T.kb_as_fraction_1 (ca_p (ax_cons (ex_var 1 rfl (ax_nil ⟨[], _, rfl, rfl, rfl, rfl, ⟨v_x, _, _, rfl, rfl, hW, (fun r540 h541 => ?_), fun e he => (ph_ex (Rd := Rd) [] [] Pick.nil (hX e he))⟩⟩))))))
  show SS _ _ [some ((e_Polynomial T) v_self), some (iD v_x), some ((fr T.C_Fraction) r540), none, none, none] [] _
  refine (ss_asg 3 sc_Polynomial_call.nd (ex_int ?_))
  show SS _ _ [some ((e_Polynomial T) v_self), some (iD v_x), some ((fr T.C_Fraction) r540), some (iD (0 : Int)), none, none] [] _
  refine (ss_asg 4 sc_Polynomial_call.nd (ex_int ?_))
  show SS _ _ [some ((e_Polynomial T) v_self), some (iD v_x), some ((fr T.C_Fraction) r540), some (iD (0 : Int)), some (iD (1 : Int)), none] [] _
  refine (ss_forW iD rfl (pg_name (i := 5) sc_Polynomial_call.nd rfl (by first | exact Or.inl rfl | exact Or.inr rfl)) (fun (s544 : Int × Int) Γ0 Ω0 => ∃ j543 : Option D, Γ0 = [some ((e_Polynomial T) v_self), some (iD v_x), some ((fr T.C_Fraction) r540), some (iD s544.1), some (iD s544.2), j543] ∧ Ω0 = []) (iw_list (ex_frz (ex_revT (ex_fld T.cls_Polynomial T.na_Polynomial__tops (ex_var 0 rfl ⟨_, _, .fr _ _, rfl, ⟨iD, v_self._tops, (.fr _), fun p542 => ⟨_, _, _, rfl, rfl, ⟨_, (.fr _), ⟨_, _, _, h541, ⟨_, rfl, rfl⟩, (fun s Γ Ω ⟨_, e1, e2⟩ => e2 ▸ (.fr _)), ?_, ?_⟩⟩⟩⟩⟩))))))
  · intro x545 s544 Γ9 Ω9 nx546 i9 h547
    obtain ⟨j543, rfl, rfl⟩ := i9
    refine ⟨_, _, (Tgt.name 5), ix_all rfl, ?_⟩
    show SS _ _ [some ((e_Polynomial T) v_self), some (iD v_x), some ((fr T.C_Fraction) r540), some (iD s544.1), some (iD s544.2), some (iD x545)] [] _
    refine (ss_asg 3 sc_Polynomial_call.nd (ex_op op_add (ex_op op_mulW (ex_var 3 rfl (ex_fld T.cls_Fraction T.na_Fraction_top (ex_var 2 rfl ⟨_, _, .fr _ _, rfl, (ox_I h547.1 (ex_op op_mulW (ex_var 5 rfl (ex_var 4 rfl (ox_I h547.2.1 (ox_I0 (ss_gen (fun x551 => [some ((e_Polynomial T) v_self), some (iD v_x), some ((fr T.C_Fraction) r540), some (iD x551), some (iD s544.2), some (iD x545)]) (fun x551 => []) h547.2.2 (fun x551 h552 => ?_))))))))⟩))))))
    show SS _ _ [some ((e_Polynomial T) v_self), some (iD v_x), some ((fr T.C_Fraction) r540), some (iD x551), some (iD s544.2), some (iD x545)] [] _
    refine (ss_asg 4 sc_Polynomial_call.nd (ex_op op_mulW (ex_var 4 rfl (ex_fld T.cls_Fraction T.na_Fraction_bottom (ex_var 2 rfl ⟨_, _, .fr _ _, rfl, (ox_I h552.1 (ss_gen (fun x553 => [some ((e_Polynomial T) v_self), some (iD v_x), some ((fr T.C_Fraction) r540), some (iD x551), some (iD x553), some (iD x545)]) (fun x553 => []) h552.2 (fun x553 h554 => ?_)))⟩)))))
    show SS _ _ [some ((e_Polynomial T) v_self), some (iD v_x), some ((fr T.C_Fraction) r540), some (iD x551), some (iD x553), some (iD x545)] [] _
    exact ss_nil (Exists.intro (x551, x553) (And.intro h554 ⟨_, rfl, rfl⟩))
  · intro s544 Γ9 Ω9 i9 h548
    obtain ⟨j543, rfl, rfl⟩ := i9
    show SS _ _ [some ((e_Polynomial T) v_self), some (iD v_x), some ((fr T.C_Fraction) r540), some (iD s544.1), some (iD s544.2), j543] [] _
    exact ss_ret (ex_frzO (ex_make T.mk_Fraction (ok_Fraction T) (hr.mono (by decide)) T.mg_Fraction T.kb_Fraction_init_3 (ca_p (ax_cons (ex_op op_mulW (ex_var 3 rfl (ex_fld T.cls_Fraction T.na_Fraction_bottom (ex_var 2 rfl ⟨_, _, .fr _ _, rfl, (ox_I h548.1 (ax_cons (ex_op op_mulW (ex_var 4 rfl (ex_fld T.cls_Polynomial T.na_Polynomial__bottom (ex_var 0 rfl ⟨_, _, .fr _ _, rfl, (ox_I h548.2.1 (ax_nil ⟨[], _, rfl, rfl, rfl, fun x560 => ⟨rfl, ⟨x560, (s544.1 * ((r540).den : Int)), (s544.2 * v_self._bottom), _, _, rfl, rfl, h548.2.2, (fun r558 h559 => ⟨rfl, ⟨_, _, _, _, rfl, rfl, (ph_rt (Qd := Qd) [] [] Pick.nil (hQ r558 h559))⟩⟩), fun e he => (ph_ex (Rd := Rd) [] [] Pick.nil (hX e he))⟩⟩⟩))⟩))))))⟩))))))))
theorem ok_Polynomial_init_3 (T : Tx P w K mg base) : FnOk P w K mg base (L2.CX P w) 4 T.f_Polynomial_init T.fd_Polynomial_init ["self", "coefficients"] (spS K 2 (fun ds Ω Qd Rd => ∃ (q_self : Addr) (v_coefficients : Unit) (Q : R_Polynomial → Prop), ds = [rD q_self, eT0 v_coefficients] ∧ Ω = [(q_self, Cell.ins T.C_Polynomial [])] ∧ W_Polynomial_init_3 v_coefficients Q ∧ (∀ r , Q r  → Qd (.v .non) ((q_self, Cell.ins T.C_Polynomial (f_Polynomial T r)) :: [])))) := by
  refine fn_S0 T.F_Polynomial_init sc_Polynomial_init (by decide) fun cdv A outer s H E ds Ω Qd Rd hr hh => ?_
  obtain ⟨q_self, v_coefficients, Q, rfl, rfl, hW, hQ⟩ := hh
  unfold W_Polynomial_init_3 at hW
  show SS _ _ [some (rD q_self), some (eT0 v_coefficients), none, none] [(q_self, Cell.ins T.C_Polynomial [])] _
  refine (ss_lc2 2 [("number", 3)] rfl sc_Polynomial_init.nd rfl (show _ = defScope s_Polynomial_init from rfl) (by decide +kernel) (ixp rfl) (fun _ _ _ _ _ => (pg_name (i := 3) sc_Polynomial_init.nd rfl (by first | exact Or.inl rfl | exact Or.inr rfl) (by first | exact Or.inl rfl | exact Or.inr rfl))) (iw_lc (iw_tup (ex_var 1 rfl ⟨([] : List Num), rfl, (lcW (α := Num) (f := (eN T.C_Fraction)) (fr T.C_Fraction) (fun s578 : (Unit) => [(q_self, Cell.ins T.C_Polynomial [])]) hW.1 hW.2 rfl (fun _ => True.intro) (fun x577 s578 nx579 h580 => ⟨_, (Tgt.name 3), fun _ _ _ _ _ => (ex_call (ok_as_fraction T) (hr.mono (by decide)) T.m_as_fraction T.k_as_fraction T.kb_as_fraction_1 (ca_p (ax_cons (ex_var 3 rfl (ax_nil ⟨[], _, rfl, rfl, rfl, rfl, ⟨x577, _, _, rfl, rfl, h580, (fun r586 h587 => ⟨r586, (), rfl, h587, rfl⟩), fun e he => False.elim he⟩⟩)))))⟩) (fun ys581 s578 h582 => fun p583 => ?_))⟩))))
  show SS _ _ [some (rD q_self), some (eT0 v_coefficients), some (rD p583), none] [(p583, Cell.lst (List.map (fr T.C_Fraction) ys581)), (q_self, Cell.ins T.C_Polynomial [])] _
  refine (ss_whileW (fun (s588 : List Rat) Γ0 Ω0 => Γ0 = [some (rD q_self), some (eT0 v_coefficients), some (rD p583), none] ∧ Ω0 = [(p583, Cell.lst (List.map (fr T.C_Fraction) s588)), (q_self, Cell.ins T.C_Polynomial [])]) h582 ⟨rfl, rfl⟩ ?_)
  intro s588 Γ9 Ω9 nx589 i9 h590
  obtain ⟨rfl, rfl⟩ := i9
  refine (tx_ofW (wx_andK [(p583, Cell.lst (List.map (fr T.C_Fraction) s588)), (q_self, Cell.ins T.C_Polynomial [])] h590 (fun h592 => (tx_lstT (ex_var 2 rfl ⟨(fr T.C_Fraction), s588, (.ow 0 rfl), ⟨fun ht593 => (wx_and1 (tx_not (tx_ownB T.cmp_bool (ok_Fraction_bool T) (hr.mono (by decide)) T.bb_Fraction_bool (ex_ix (ex_var 2 rfl (ex_un un_neg (ex_int (ux_neg (Exists.elim (h592.1 ht593) fun v598 h599 => ⟨_, _, _, (.ow 0 rfl), rfl, at_map (f := (fr T.C_Fraction)) (xs := s588) h599.1, ⟨_, rfl, v598, _, rfl, rfl, h599.2, (fun r600 h601 => ⟨_, rfl, ⟨rfl, h601⟩⟩)⟩⟩))))))))), fun ht593 => ⟨rfl, h592.2 ht593⟩⟩⟩))) (fun b594 h595 => ⟨fun ht602 => ?_, fun ht602 => ?_⟩)))
  · show SS _ _ [some (rD q_self), some (eT0 v_coefficients), some (rD p583), none] [(p583, Cell.lst (List.map (fr T.C_Fraction) s588)), (q_self, Cell.ins T.C_Polynomial [])] _
    refine (ss_expr (ex_popT (ex_var 2 rfl (Exists.elim (h595.1 ht602) fun v603 h604 => ⟨(fr T.C_Fraction), _, 0, s588, _, rfl, rfl, h604.1, ?_⟩))))
    show SS _ _ [some (rD q_self), some (eT0 v_coefficients), some (rD p583), none] [(p583, Cell.lst (List.map (fr T.C_Fraction) (List.dropLast s588))), (q_self, Cell.ins T.C_Polynomial [])] _
    exact ss_nil (Exists.intro (List.dropLast s588) (And.intro h604.2 ⟨rfl, rfl⟩))
  · show SS _ _ [some (rD q_self), some (eT0 v_coefficients), some (rD p583), none] [(p583, Cell.lst (List.map (fr T.C_Fraction) s588)), (q_self, Cell.ins T.C_Polynomial [])] _
    refine (ss_attr T.cls_Polynomial T.na_Polynomial__bottom (ex_call (ok_common_bottom T) (hr.mono (by decide)) T.m_common_bottom T.k_common_bottom T.kb_common_bottom_1 (ca_p (ax_cons (ex_var 2 rfl (ax_nil ⟨[_], _, rfl, rfl, rfl, rfl, ⟨p583, s588, _, rfl, rfl, (h595.2 ht602), (fun r607 h608 => (ex_var 0 rfl ⟨1, _, _, rfl, rfl, Nat.le_of_ble_eq_true rfl, ?_⟩))⟩⟩))))))
    show SS _ _ [some (rD q_self), some (eT0 v_coefficients), some (rD p583), none] [(p583, Cell.lst (List.map (fr T.C_Fraction) s588)), (q_self, Cell.ins T.C_Polynomial [("_bottom", iD r607)])] _
    refine (ss_attr T.cls_Polynomial T.na_Polynomial__tops (ex_frz (ex_lc2 [("number", 3)] rfl sc_Polynomial_init.nd rfl (show _ = defScope s_Polynomial_init from rfl) (by decide +kernel) (ixp rfl) (fun _ _ _ _ _ => (pg_name (i := 3) sc_Polynomial_init.nd rfl (by first | exact Or.inl rfl | exact Or.inr rfl) (by first | exact Or.inl rfl | exact Or.inr rfl))) (iw_lc (iw_list (ex_var 2 rfl ⟨_, (.ow 0 rfl), (lcW (α := Rat) (f := (fr T.C_Fraction)) iD (fun s610 : (Unit) => [(p583, Cell.lst (List.map (fr T.C_Fraction) s588)), (q_self, Cell.ins T.C_Polynomial [("_bottom", iD r607)])]) h608.1 h608.2 rfl (fun _ => (.ow 0 rfl)) (fun x609 s610 nx611 h612 => ⟨_, (Tgt.name 3), fun _ _ _ _ _ => (ex_call (ok_over_bottom T) (hr.mono (by decide)) T.m_over_bottom T.k_over_bottom T.kb_over_bottom_2 (ca_p (ax_cons (ex_var 3 rfl (ax_cons (ex_fld T.cls_Polynomial T.na_Polynomial__bottom (ex_var 0 rfl ⟨_, _, .ow 1 rfl, rfl, (ax_nil ⟨[], _, rfl, rfl, rfl, rfl, ⟨x609, r607, _, rfl, rfl, h612, (fun r618 h619 => ⟨r618, (), rfl, h619, rfl⟩)⟩⟩)⟩)))))))⟩) (fun ys613 s610 h614 => fun p615 => ⟨_, _, _, rfl, rfl, (ex_var 0 rfl ⟨1, _, _, rfl, rfl, Nat.le_of_ble_eq_true rfl, ?_⟩)⟩))⟩))))))
    show SS _ _ [some (rD q_self), some (eT0 v_coefficients), some (rD p583), none] [(p583, Cell.lst (List.map (fr T.C_Fraction) s588)), (q_self, Cell.ins T.C_Polynomial [("_bottom", iD r607), ("_tops", (eL iD) ys613)])] _
    exact ss_nil (ph_rt (Qd := Qd) [(q_self, Cell.ins T.C_Polynomial [("_bottom", iD r607), ("_tops", (eL iD) ys613)])] [] (Pick.d (Pick.l Pick.nil)) (hQ ({ _bottom := r607, _tops := ys613 } : R_Polynomial) h614))
theorem ok_made (T : Tx P w K mg base) : FnOk P w K mg base (L2.CX P w) 6 T.f_made T.fd_made ["tops", "bottom"] (spS K 2 (fun ds Ω Qd Rd => ∃ (v_tops : (List Int)) (v_bottom : Int) (Q : R_Polynomial → Prop), ds = [(eL iD) v_tops, iD v_bottom] ∧ Ω = [] ∧ W_made v_tops v_bottom Q ∧ (∀ r , Q r  → Qd ((e_Polynomial T) r) []))) := by
  refine fn_S T.F_made sc_made (by decide) fun cdv A outer s H E ds Ω Qd Rd hr hh => ?_
  obtain ⟨v_tops, v_bottom, Q, rfl, rfl, hW, hQ⟩ := hh
  unfold W_made at hW
  show SS _ _ [some ((eL iD) v_tops), some (iD v_bottom), none, none, none, none] [] _
  refine (ss_asg 2 sc_made.nd (ex_callTy call_list_of T.z_list (by decide +kernel) (ax_cons (ex_var 0 rfl (ax_nil (cx_listL (f := iD) (xs := v_tops) (.fr _) fun p632 => ?_))))))
  show SS _ _ [some ((eL iD) v_tops), some (iD v_bottom), some (rD p632), none, none, none] [(p632, Cell.lst (List.map iD v_tops))] _
  refine (ss_whileW (fun (s633 : List Int) Γ0 Ω0 => Γ0 = [some ((eL iD) v_tops), some (iD v_bottom), some (rD p632), none, none, none] ∧ Ω0 = [(p632, Cell.lst (List.map iD s633))]) hW ⟨rfl, rfl⟩ ?_)
  intro s633 Γ9 Ω9 nx634 i9 h635
  obtain ⟨rfl, rfl⟩ := i9
  refine (tx_ofW (wx_andK [(p632, Cell.lst (List.map iD s633))] h635 (fun h637 => (tx_lstT (ex_var 2 rfl ⟨iD, s633, (.ow 0 rfl), ⟨fun ht638 => (wx_and1 (tx_cmp op_eq (ex_ix (ex_var 2 rfl (ex_un un_neg (ex_int (ux_neg (Exists.elim (h637.1 ht638) fun v641 h642 => ⟨_, _, _, (.ow 0 rfl), rfl, at_map (f := iD) (xs := s633) h642.1, (ex_int (ox_eqI ⟨_, rfl, ⟨rfl, h642.2⟩⟩))⟩)))))))), fun ht638 => ⟨rfl, h637.2 ht638⟩⟩⟩))) (fun b639 h640 => ⟨fun ht643 => ?_, fun ht643 => ?_⟩)))
  · show SS _ _ [some ((eL iD) v_tops), some (iD v_bottom), some (rD p632), none, none, none] [(p632, Cell.lst (List.map iD s633))] _
    refine (ss_expr (ex_popT (ex_var 2 rfl (Exists.elim (h640.1 ht643) fun v644 h645 => ⟨iD, _, 0, s633, _, rfl, rfl, h645.1, ?_⟩))))
    show SS _ _ [some ((eL iD) v_tops), some (iD v_bottom), some (rD p632), none, none, none] [(p632, Cell.lst (List.map iD (List.dropLast s633)))] _
    exact ss_nil (Exists.intro (List.dropLast s633) (And.intro h645.2 ⟨rfl, rfl⟩))
  · show SS _ _ [some ((eL iD) v_tops), some (iD v_bottom), some (rD p632), none, none, none] [(p632, Cell.lst (List.map iD s633))] _
    refine (ss_asg 3 sc_made.nd (ex_callB call_abs T.z_abs (by decide +kernel) (ax_cons (ex_var 1 rfl (ax_nil (cx_abs ?_))))))
    show SS _ _ [some ((eL iD) v_tops), some (iD v_bottom), some (rD p632), some (iD (v_bottom.natAbs : Int)), none, none] [(p632, Cell.lst (List.map iD s633))] _
    refine (ss_forB iD rfl (pg_name (i := 4) sc_made.nd rfl (by first | exact Or.inl rfl | exact Or.inr rfl)) (fun (s647 : Int) Γ0 Ω0 => ∃ j646 : Option D, Γ0 = [some ((eL iD) v_tops), some (iD v_bottom), some (rD p632), some (iD s647), j646, none] ∧ Ω0 = [(p632, Cell.lst (List.map iD s633))]) (iw_list (ex_var 2 rfl ⟨_, (.ow 0 rfl), ⟨_, _, _, (h640.2 ht643), ⟨_, rfl, rfl⟩, (fun s Γ Ω ⟨_, e1, e2⟩ => e2 ▸ (.ow 0 rfl)), ?_, ?_⟩⟩)))
    · intro s647 Γ9 Ω9 i9 h651
      obtain ⟨j646, rfl, rfl⟩ := i9
      show SS _ _ [some ((eL iD) v_tops), some (iD v_bottom), some (rD p632), some (iD s647), j646, none] [(p632, Cell.lst (List.map iD s633))] _
      refine (ss_ifK (fun (s657 : Int) Γ0 Ω0 => Γ0 = [some ((eL iD) v_tops), some (iD v_bottom), some (rD p632), some (iD s657), j646, none] ∧ Ω0 = [(p632, Cell.lst (List.map iD s633))]) h651 (fun h659 => (tx_cmp op_lt (ex_var 1 rfl (ex_int (ox_I0 ⟨_, rfl, ⟨fun ht661 => ?_, fun ht661 => ?_⟩⟩))))) ?_)
      · show SS _ _ [some ((eL iD) v_tops), some (iD v_bottom), some (rD p632), some (iD s647), j646, none] [(p632, Cell.lst (List.map iD s633))] _
        refine (ss_asg 3 sc_made.nd (ex_un un_neg (ex_var 3 rfl (ux_neg ?_))))
        show SS _ _ [some ((eL iD) v_tops), some (iD v_bottom), some (rD p632), some (iD (-s647)), j646, none] [(p632, Cell.lst (List.map iD s633))] _
        exact ss_nil (Exists.intro (-s647) (And.intro ⟨rfl, rfl⟩ (h659.1 ht661)))
      · show SS _ _ [some ((eL iD) v_tops), some (iD v_bottom), some (rD p632), some (iD s647), j646, none] [(p632, Cell.lst (List.map iD s633))] _
        exact ss_nil (Exists.intro s647 (And.intro ⟨rfl, rfl⟩ (h659.2 ht661)))
      · intro s657 Γ9 Ω9 i9 h660
        obtain ⟨rfl, rfl⟩ := i9
        show SS _ _ [some ((eL iD) v_tops), some (iD v_bottom), some (rD p632), some (iD s657), j646, none] [(p632, Cell.lst (List.map iD s633))] _
        refine (ss_asg 5 sc_made.nd (ex_make T.mk_Polynomial (ok_Polynomial_init_3 T) (hr.mono (by decide)) T.mg_Polynomial T.kb_Polynomial_init_1 (ca_0 ⟨[], _, rfl, rfl, rfl, fun x662 => ⟨rfl, ⟨x662, (), _, rfl, rfl, h660, (fun r663 h664 => ⟨rfl, ?_⟩)⟩⟩⟩)))
        show SS _ _ [some ((eL iD) v_tops), some (iD v_bottom), some (rD p632), some (iD s657), j646, some (rD x662)] [(x662, Cell.ins T.C_Polynomial [("_bottom", iD r663._bottom), ("_tops", (eL iD) r663._tops)]), (p632, Cell.lst (List.map iD s633))] _
        refine (ss_attr T.cls_Polynomial T.na_Polynomial__tops (ex_frz (ex_lc2 [("top", 4)] rfl sc_made.nd rfl (show _ = defScope s_made from rfl) (by decide +kernel) (ixp rfl) (fun _ _ _ _ _ => (pg_name (i := 4) sc_made.nd rfl (by first | exact Or.inl rfl | exact Or.inr rfl) (by first | exact Or.inl rfl | exact Or.inr rfl))) (iw_lc (iw_list (ex_var 2 rfl ⟨_, (.ow 1 rfl), (lcW (α := Int) (f := iD) iD (fun s666 : (Unit) => [(x662, Cell.ins T.C_Polynomial [("_bottom", iD r663._bottom), ("_tops", (eL iD) r663._tops)]), (p632, Cell.lst (List.map iD s633))]) h664.1 h664.2 rfl (fun _ => (.ow 1 rfl)) (fun x665 s666 nx667 h668 => ⟨_, (Tgt.name 4), fun _ _ _ _ _ => (ex_op op_fdivW (ex_var 4 rfl (ex_var 3 rfl (ox_I h668.1 ⟨(x665 / s657), (), rfl, h668.2, rfl⟩))))⟩) (fun ys669 s666 h670 => fun p671 => ⟨_, _, _, rfl, rfl, (ex_var 5 rfl ⟨0, _, _, rfl, rfl, Nat.le_of_ble_eq_true rfl, ?_⟩)⟩))⟩))))))
        show SS _ _ [some ((eL iD) v_tops), some (iD v_bottom), some (rD p632), some (iD s657), j646, some (rD x662)] [(x662, Cell.ins T.C_Polynomial [("_bottom", iD r663._bottom), ("_tops", (eL iD) ys669)]), (p632, Cell.lst (List.map iD s633))] _
        refine (ss_attr T.cls_Polynomial T.na_Polynomial__bottom (ex_op op_fdivW (ex_var 1 rfl (ex_var 3 rfl (ox_I h670.1 (ex_var 5 rfl ⟨0, _, _, rfl, rfl, Nat.le_of_ble_eq_true rfl, ss_gen (fun x672 => [some ((eL iD) v_tops), some (iD v_bottom), some (rD p632), some (iD s657), j646, some (rD x662)]) (fun x672 => [(x662, Cell.ins T.C_Polynomial [("_bottom", iD x672), ("_tops", (eL iD) ys669)]), (p632, Cell.lst (List.map iD s633))]) h670.2 (fun x672 h673 => ?_)⟩))))))
        show SS _ _ [some ((eL iD) v_tops), some (iD v_bottom), some (rD p632), some (iD s657), j646, some (rD x662)] [(x662, Cell.ins T.C_Polynomial [("_bottom", iD x672), ("_tops", (eL iD) ys669)]), (p632, Cell.lst (List.map iD s633))] _
        refine ss_frzI 5 rfl ?_
        show SS _ _ [some ((eL iD) v_tops), some (iD v_bottom), some (rD p632), some (iD s657), j646, some ((e_Polynomial T) ({ _bottom := x672, _tops := ys669 } : R_Polynomial))] [(p632, Cell.lst (List.map iD s633))] _
        exact ss_ret (ex_var 5 rfl (ph_rt (Qd := Qd) [] [] (Pick.d Pick.nil) (hQ ({ _bottom := x672, _tops := ys669 } : R_Polynomial) h673)))
    · intro hB653 x648 s647 Γ9 Ω9 nx649 i9 h650
      obtain ⟨j646, rfl, rfl⟩ := i9
      refine ⟨_, _, (Tgt.name 4), ix_all rfl, ?_⟩
      show SS _ _ [some ((eL iD) v_tops), some (iD v_bottom), some (rD p632), some (iD s647), some (iD x648), none] [(p632, Cell.lst (List.map iD s633))] _
      refine (ss_if (tx_cmp op_eq (ex_var 3 rfl (ex_int (ox_eqI ⟨_, rfl, ⟨fun ht654 => ?_, fun ht654 => ?_⟩⟩)))))
      · show SS _ _ [some ((eL iD) v_tops), some (iD v_bottom), some (rD p632), some (iD s647), some (iD x648), none] [(p632, Cell.lst (List.map iD s633))] _
        exact ss_break (hB653 s647 _ _ ⟨_, rfl, rfl⟩ (h650.1 ht654))
      · show SS _ _ [some ((eL iD) v_tops), some (iD v_bottom), some (rD p632), some (iD s647), some (iD x648), none] [(p632, Cell.lst (List.map iD s633))] _
        refine ss_nil (seq_nx ?_)
        show SS _ _ [some ((eL iD) v_tops), some (iD v_bottom), some (rD p632), some (iD s647), some (iD x648), none] [(p632, Cell.lst (List.map iD s633))] _
        refine (ss_asg 3 sc_made.nd (ex_callBf cr_gcd T.i_gcd (ax_cons (ex_var 3 rfl (ax_cons (ex_var 4 rfl (ax_nil (cx_gcd (ss_gen (fun x655 => [some ((eL iD) v_tops), some (iD v_bottom), some (rD p632), some (iD x655), some (iD x648), none]) (fun x655 => [(p632, Cell.lst (List.map iD s633))]) (h650.2 ht654) (fun x655 h656 => ?_))))))))))
        show SS _ _ [some ((eL iD) v_tops), some (iD v_bottom), some (rD p632), some (iD x655), some (iD x648), none] [(p632, Cell.lst (List.map iD s633))] _
        exact ss_nil (Exists.intro x655 (And.intro h656 ⟨_, rfl, rfl⟩))
theorem ok_Polynomial_neg (T : Tx P w K mg base) : FnOk P w K mg base (L2.CX P w) 7 T.f_Polynomial_neg T.fd_Polynomial_neg ["self"] (spS K 1 (fun ds Ω Qd Rd => ∃ (v_self : R_Polynomial) (Q : R_Polynomial → Prop), ds = [(e_Polynomial T) v_self] ∧ Ω = [] ∧ W_Polynomial_neg v_self Q ∧ (∀ r , Q r  → Qd ((e_Polynomial T) r) []))) := by
  refine fn_S T.F_Polynomial_neg sc_Polynomial_neg (by decide) fun cdv A outer s H E ds Ω Qd Rd hr hh => ?_
  obtain ⟨v_self, Q, rfl, rfl, hW, hQ⟩ := hh
  unfold W_Polynomial_neg at hW
  show SS _ _ [some ((e_Polynomial T) v_self), none] [] _
  exact ss_ret (ex_call (ok_made T) (hr.mono (by decide)) T.m_made T.k_made T.kb_made_2 (ca_p (ax_cons (ex_frz (ex_lc2 [("top", 1)] rfl sc_Polynomial_neg.nd rfl (show _ = defScope s_Polynomial_neg from rfl) (by decide +kernel) (ixp rfl) (fun _ _ _ _ _ => (pg_name (i := 1) sc_Polynomial_neg.nd rfl (by first | exact Or.inl rfl | exact Or.inr rfl) (by first | exact Or.inl rfl | exact Or.inr rfl))) (iw_lc (iw_list (ex_fld T.cls_Polynomial T.na_Polynomial__tops (ex_var 0 rfl ⟨_, _, .fr _ _, rfl, ⟨_, (.fr _), (lcW (α := Int) (f := iD) iD (fun s686 : (Unit) => []) hW.1 hW.2 rfl (fun _ => (.fr _)) (fun x685 s686 nx687 h688 => ⟨_, (Tgt.name 1), fun _ _ _ _ _ => (ex_un un_neg (ex_var 1 rfl (ux_neg ⟨(-x685), (), rfl, h688, rfl⟩)))⟩) (fun ys689 s686 h690 => fun p691 => ⟨_, _, _, rfl, rfl, (ax_cons (ex_fld T.cls_Polynomial T.na_Polynomial__bottom (ex_var 0 rfl ⟨_, _, .fr _ _, rfl, (ax_nil ⟨[], _, rfl, rfl, rfl, rfl, ⟨ys689, v_self._bottom, _, rfl, rfl, h690, (fun r692 h693 => (ph_rt (Qd := Qd) [] [] Pick.nil (hQ r692 h693)))⟩⟩)⟩)))⟩))⟩⟩)))))))))
theorem ok_Polynomial_scaled (T : Tx P w K mg base) : FnOk P w K mg base (L2.CX P w) 7 T.f_Polynomial_scaled T.fd_Polynomial_scaled ["self", "number"] (spS K 2 (fun ds Ω Qd Rd => ∃ (v_self : R_Polynomial) (v_number : Rat) (Q : R_Polynomial → Prop), ds = [(e_Polynomial T) v_self, (fr T.C_Fraction) v_number] ∧ Ω = [] ∧ W_Polynomial_scaled v_self v_number Q ∧ (∀ r , Q r  → Qd ((e_Polynomial T) r) []))) := by
  refine fn_S T.F_Polynomial_scaled sc_Polynomial_scaled (by decide) fun cdv A outer s H E ds Ω Qd Rd hr hh => ?_
  obtain ⟨v_self, v_number, Q, rfl, rfl, hW, hQ⟩ := hh
  unfold W_Polynomial_scaled at hW
  show SS _ _ [some ((e_Polynomial T) v_self), some ((fr T.C_Fraction) v_number), none, none] [] _
  refine (ss_asg 2 sc_Polynomial_scaled.nd (ex_call (ok_as_fraction_3 T) (hr.mono (by decide)) T.m_as_fraction T.k_as_fraction T.kb_as_fraction_1 (ca_p (ax_cons (ex_var 1 rfl (ax_nil ⟨[], _, rfl, rfl, rfl, rfl, ⟨v_number, _, rfl, rfl, hW, (fun r590 h591 => ?_)⟩⟩))))))
  show SS _ _ [some ((e_Polynomial T) v_self), some ((fr T.C_Fraction) v_number), some ((fr T.C_Fraction) r590), none] [] _
  exact ss_ret (ex_call (ok_made T) (hr.mono (by decide)) T.m_made T.k_made T.kb_made_2 (ca_p (ax_cons (ex_frz (ex_lc2 [("top", 3)] rfl sc_Polynomial_scaled.nd rfl (show _ = defScope s_Polynomial_scaled from rfl) (by decide +kernel) (ixp rfl) (fun _ _ _ _ _ => (pg_name (i := 3) sc_Polynomial_scaled.nd rfl (by first | exact Or.inl rfl | exact Or.inr rfl) (by first | exact Or.inl rfl | exact Or.inr rfl))) (iw_lc (iw_list (ex_fld T.cls_Polynomial T.na_Polynomial__tops (ex_var 0 rfl ⟨_, _, .fr _ _, rfl, ⟨_, (.fr _), (lcW (α := Int) (f := iD) iD (fun s602 : (Unit) => []) h591.1 h591.2 rfl (fun _ => (.fr _)) (fun x601 s602 nx603 h604 => ⟨_, (Tgt.name 3), fun _ _ _ _ _ => (ex_op op_mulW (ex_var 3 rfl (ex_fld T.cls_Fraction T.na_Fraction_top (ex_var 2 rfl ⟨_, _, .fr _ _, rfl, (ox_I h604.1 ⟨(x601 * (r590).num), (), rfl, h604.2, rfl⟩)⟩))))⟩) (fun ys605 s602 h606 => fun p607 => ⟨_, _, _, rfl, rfl, (ax_cons (ex_op op_mulW (ex_fld T.cls_Polynomial T.na_Polynomial__bottom (ex_var 0 rfl ⟨_, _, .fr _ _, rfl, (ex_fld T.cls_Fraction T.na_Fraction_bottom (ex_var 2 rfl ⟨_, _, .fr _ _, rfl, (ox_I h606.1 (ax_nil ⟨[], _, rfl, rfl, rfl, rfl, ⟨ys605, (v_self._bottom * ((r590).den : Int)), _, rfl, rfl, h606.2, (fun r608 h609 => (ph_rt (Qd := Qd) [] [] Pick.nil (hQ r608 h609)))⟩⟩))⟩))⟩))))⟩))⟩⟩)))))))))
theorem ok_Polynomial_raised (T : Tx P w K mg base) : FnOk P w K mg base (L2.CX P w) 7 T.f_Polynomial_raised T.fd_Polynomial_raised ["self", "k"] (spS K 2 (fun ds Ω Qd Rd => ∃ (v_self : R_Polynomial) (v_k : Int) (Q : R_Polynomial → Prop), ds = [(e_Polynomial T) v_self, iD v_k] ∧ Ω = [] ∧ W_Polynomial_raised v_self v_k Q ∧ (∀ r , Q r  → Qd ((e_Polynomial T) r) []))) := by
  refine fn_S T.F_Polynomial_raised sc_Polynomial_raised (by decide) fun cdv A outer s H E ds Ω Qd Rd hr hh => ?_
  obtain ⟨v_self, v_k, Q, rfl, rfl, hW, hQ⟩ := hh
  unfold W_Polynomial_raised at hW
  show SS _ _ [some ((e_Polynomial T) v_self), some (iD v_k)] [] _
  exact ss_ret (ex_call (ok_made T) (hr.mono (by decide)) T.m_made T.k_made T.kb_made_2 (ca_p (ax_cons (ex_frz (ex_op op_cat (ex_frz (ex_repT (ex_int (ex_var 1 rfl ⟨iD, (0 : Int), _, rfl, rfl, hW.1.2, hW.1.1, fun p637 => ⟨_, _, _, rfl, rfl, (ex_fld T.cls_Polynomial T.na_Polynomial__tops (ex_var 0 rfl ⟨_, _, .fr _ _, rfl, (ox_catT (f := iD) (.fr _) (.fr _) hW.2.1 fun p638 => ⟨_, _, _, rfl, rfl, (ax_cons (ex_fld T.cls_Polynomial T.na_Polynomial__bottom (ex_var 0 rfl ⟨_, _, .fr _ _, rfl, (ax_nil ⟨[], _, rfl, rfl, rfl, rfl, ⟨((List.replicate v_k.toNat (0 : Int)) ++ v_self._tops), v_self._bottom, _, rfl, rfl, hW.2.2, (fun r639 h640 => (ph_rt (Qd := Qd) [] [] Pick.nil (hQ r639 h640)))⟩⟩)⟩)))⟩)⟩))⟩⟩)))))))))
theorem ok_Polynomial_scaled_2 (T : Tx P w K mg base) : FnOk P w K mg base (L2.CX P w) 7 T.f_Polynomial_scaled T.fd_Polynomial_scaled ["self", "number"] (spS K 2 (fun ds Ω Qd Rd => ∃ (v_self : R_Polynomial) (v_number : Int) (Q : R_Polynomial → Prop) (X : Exn → Prop), ds = [(e_Polynomial T) v_self, iD v_number] ∧ Ω = [] ∧ W_Polynomial_scaled_2 v_self v_number Q X ∧ (∀ r , Q r  → Qd ((e_Polynomial T) r) []) ∧ (∀ e, X e → Rd (exC T e) (exF T e) []))) := by
  refine fn_S T.F_Polynomial_scaled sc_Polynomial_scaled (by decide) fun cdv A outer s H E ds Ω Qd Rd hr hh => ?_
  obtain ⟨v_self, v_number, Q, X, rfl, rfl, hW, hQ, hX⟩ := hh
  unfold W_Polynomial_scaled_2 at hW
  show SS _ _ [some ((e_Polynomial T) v_self), some (iD v_number), none, none] [] _
  refine (ss_asg 2 sc_Polynomial_scaled.nd (ex_call (ok_as_fraction_2 T) (hr.mono (by decide)) T.m_as_fraction T.k_as_fraction T.kb_as_fraction_1 (ca_p (ax_cons (ex_var 1 rfl (ax_nil ⟨[], _, rfl, rfl, rfl, rfl, ⟨v_number, _, _, rfl, rfl, hW, (fun r684 h685 => ?_), fun e he => (ph_ex (Rd := Rd) [] [] Pick.nil (hX e he))⟩⟩))))))
  show SS _ _ [some ((e_Polynomial T) v_self), some (iD v_number), some ((fr T.C_Fraction) r684), none] [] _
  exact ss_ret (ex_call (ok_made T) (hr.mono (by decide)) T.m_made T.k_made T.kb_made_2 (ca_p (ax_cons (ex_frz (ex_lc2 [("top", 3)] rfl sc_Polynomial_scaled.nd rfl (show _ = defScope s_Polynomial_scaled from rfl) (by decide +kernel) (ixp rfl) (fun _ _ _ _ _ => (pg_name (i := 3) sc_Polynomial_scaled.nd rfl (by first | exact Or.inl rfl | exact Or.inr rfl) (by first | exact Or.inl rfl | exact Or.inr rfl))) (iw_lc (iw_list (ex_fld T.cls_Polynomial T.na_Polynomial__tops (ex_var 0 rfl ⟨_, _, .fr _ _, rfl, ⟨_, (.fr _), (lcW (α := Int) (f := iD) iD (fun s696 : (Unit) => []) h685.1 h685.2 rfl (fun _ => (.fr _)) (fun x695 s696 nx697 h698 => ⟨_, (Tgt.name 3), fun _ _ _ _ _ => (ex_op op_mulW (ex_var 3 rfl (ex_fld T.cls_Fraction T.na_Fraction_top (ex_var 2 rfl ⟨_, _, .fr _ _, rfl, (ox_I h698.1 ⟨(x695 * (r684).num), (), rfl, h698.2, rfl⟩)⟩))))⟩) (fun ys699 s696 h700 => fun p701 => ⟨_, _, _, rfl, rfl, (ax_cons (ex_op op_mulW (ex_fld T.cls_Polynomial T.na_Polynomial__bottom (ex_var 0 rfl ⟨_, _, .fr _ _, rfl, (ex_fld T.cls_Fraction T.na_Fraction_bottom (ex_var 2 rfl ⟨_, _, .fr _ _, rfl, (ox_I h700.1 (ax_nil ⟨[], _, rfl, rfl, rfl, rfl, ⟨ys699, (v_self._bottom * ((r684).den : Int)), _, rfl, rfl, h700.2, (fun r702 h703 => (ph_rt (Qd := Qd) [] [] Pick.nil (hQ r702 h703)))⟩⟩))⟩))⟩))))⟩))⟩⟩)))))))))
theorem ok_Polynomial_init_4 (T : Tx P w K mg base) : FnOk P w K mg base (L2.CX P w) 4 T.f_Polynomial_init T.fd_Polynomial_init ["self", "coefficients"] (spS K 2 (fun ds Ω Qd Rd => ∃ (q_self : Addr) (v_coefficients : (List Int)) (Q : R_Polynomial → Prop), ds = [rD q_self, (eL iD) v_coefficients] ∧ Ω = [(q_self, Cell.ins T.C_Polynomial [])] ∧ W_Polynomial_init_4 v_coefficients Q ∧ (∀ r , Q r  → Qd (.v .non) ((q_self, Cell.ins T.C_Polynomial (f_Polynomial T r)) :: [])))) := by
  refine fn_S0 T.F_Polynomial_init sc_Polynomial_init (by decide) fun cdv A outer s H E ds Ω Qd Rd hr hh => ?_
  obtain ⟨q_self, v_coefficients, Q, rfl, rfl, hW, hQ⟩ := hh
  unfold W_Polynomial_init_4 at hW
  show SS _ _ [some (rD q_self), some ((eL iD) v_coefficients), none, none] [(q_self, Cell.ins T.C_Polynomial [])] _
  refine (ss_lc2 2 [("number", 3)] rfl sc_Polynomial_init.nd rfl (show _ = defScope s_Polynomial_init from rfl) (by decide +kernel) (ixp rfl) (fun _ _ _ _ _ => (pg_name (i := 3) sc_Polynomial_init.nd rfl (by first | exact Or.inl rfl | exact Or.inr rfl) (by first | exact Or.inl rfl | exact Or.inr rfl))) (iw_lc (iw_list (ex_var 1 rfl ⟨_, (.fr _), (lcW (α := Int) (f := iD) (fr T.C_Fraction) (fun s698 : (Unit) => [(q_self, Cell.ins T.C_Polynomial [])]) hW.1 hW.2 rfl (fun _ => (.fr _)) (fun x697 s698 nx699 h700 => ⟨_, (Tgt.name 3), fun _ _ _ _ _ => (ex_call (ok_as_fraction_2 T) (hr.mono (by decide)) T.m_as_fraction T.k_as_fraction T.kb_as_fraction_1 (ca_p (ax_cons (ex_var 3 rfl (ax_nil ⟨[], _, rfl, rfl, rfl, rfl, ⟨x697, _, _, rfl, rfl, h700, (fun r706 h707 => ⟨r706, (), rfl, h707, rfl⟩), fun e he => False.elim he⟩⟩)))))⟩) (fun ys701 s698 h702 => fun p703 => ?_))⟩))))
  show SS _ _ [some (rD q_self), some ((eL iD) v_coefficients), some (rD p703), none] [(p703, Cell.lst (List.map (fr T.C_Fraction) ys701)), (q_self, Cell.ins T.C_Polynomial [])] _
  refine (ss_whileW (fun (s708 : List Rat) Γ0 Ω0 => Γ0 = [some (rD q_self), some ((eL iD) v_coefficients), some (rD p703), none] ∧ Ω0 = [(p703, Cell.lst (List.map (fr T.C_Fraction) s708)), (q_self, Cell.ins T.C_Polynomial [])]) h702 ⟨rfl, rfl⟩ ?_)
  intro s708 Γ9 Ω9 nx709 i9 h710
  obtain ⟨rfl, rfl⟩ := i9
  refine (tx_ofW (wx_andK [(p703, Cell.lst (List.map (fr T.C_Fraction) s708)), (q_self, Cell.ins T.C_Polynomial [])] h710 (fun h712 => (tx_lstT (ex_var 2 rfl ⟨(fr T.C_Fraction), s708, (.ow 0 rfl), ⟨fun ht713 => (wx_and1 (tx_not (tx_ownB T.cmp_bool (ok_Fraction_bool T) (hr.mono (by decide)) T.bb_Fraction_bool (ex_ix (ex_var 2 rfl (ex_un un_neg (ex_int (ux_neg (Exists.elim (h712.1 ht713) fun v718 h719 => ⟨_, _, _, (.ow 0 rfl), rfl, at_map (f := (fr T.C_Fraction)) (xs := s708) h719.1, ⟨_, rfl, v718, _, rfl, rfl, h719.2, (fun r720 h721 => ⟨_, rfl, ⟨rfl, h721⟩⟩)⟩⟩))))))))), fun ht713 => ⟨rfl, h712.2 ht713⟩⟩⟩))) (fun b714 h715 => ⟨fun ht722 => ?_, fun ht722 => ?_⟩)))
  · show SS _ _ [some (rD q_self), some ((eL iD) v_coefficients), some (rD p703), none] [(p703, Cell.lst (List.map (fr T.C_Fraction) s708)), (q_self, Cell.ins T.C_Polynomial [])] _
    refine (ss_expr (ex_popT (ex_var 2 rfl (Exists.elim (h715.1 ht722) fun v723 h724 => ⟨(fr T.C_Fraction), _, 0, s708, _, rfl, rfl, h724.1, ?_⟩))))
    show SS _ _ [some (rD q_self), some ((eL iD) v_coefficients), some (rD p703), none] [(p703, Cell.lst (List.map (fr T.C_Fraction) (List.dropLast s708))), (q_self, Cell.ins T.C_Polynomial [])] _
    exact ss_nil (Exists.intro (List.dropLast s708) (And.intro h724.2 ⟨rfl, rfl⟩))
  · show SS _ _ [some (rD q_self), some ((eL iD) v_coefficients), some (rD p703), none] [(p703, Cell.lst (List.map (fr T.C_Fraction) s708)), (q_self, Cell.ins T.C_Polynomial [])] _
    refine (ss_attr T.cls_Polynomial T.na_Polynomial__bottom (ex_call (ok_common_bottom T) (hr.mono (by decide)) T.m_common_bottom T.k_common_bottom T.kb_common_bottom_1 (ca_p (ax_cons (ex_var 2 rfl (ax_nil ⟨[_], _, rfl, rfl, rfl, rfl, ⟨p703, s708, _, rfl, rfl, (h715.2 ht722), (fun r727 h728 => (ex_var 0 rfl ⟨1, _, _, rfl, rfl, Nat.le_of_ble_eq_true rfl, ?_⟩))⟩⟩))))))
    show SS _ _ [some (rD q_self), some ((eL iD) v_coefficients), some (rD p703), none] [(p703, Cell.lst (List.map (fr T.C_Fraction) s708)), (q_self, Cell.ins T.C_Polynomial [("_bottom", iD r727)])] _
    refine (ss_attr T.cls_Polynomial T.na_Polynomial__tops (ex_frz (ex_lc2 [("number", 3)] rfl sc_Polynomial_init.nd rfl (show _ = defScope s_Polynomial_init from rfl) (by decide +kernel) (ixp rfl) (fun _ _ _ _ _ => (pg_name (i := 3) sc_Polynomial_init.nd rfl (by first | exact Or.inl rfl | exact Or.inr rfl) (by first | exact Or.inl rfl | exact Or.inr rfl))) (iw_lc (iw_list (ex_var 2 rfl ⟨_, (.ow 0 rfl), (lcW (α := Rat) (f := (fr T.C_Fraction)) iD (fun s730 : (Unit) => [(p703, Cell.lst (List.map (fr T.C_Fraction) s708)), (q_self, Cell.ins T.C_Polynomial [("_bottom", iD r727)])]) h728.1 h728.2 rfl (fun _ => (.ow 0 rfl)) (fun x729 s730 nx731 h732 => ⟨_, (Tgt.name 3), fun _ _ _ _ _ => (ex_call (ok_over_bottom T) (hr.mono (by decide)) T.m_over_bottom T.k_over_bottom T.kb_over_bottom_2 (ca_p (ax_cons (ex_var 3 rfl (ax_cons (ex_fld T.cls_Polynomial T.na_Polynomial__bottom (ex_var 0 rfl ⟨_, _, .ow 1 rfl, rfl, (ax_nil ⟨[], _, rfl, rfl, rfl, rfl, ⟨x729, r727, _, rfl, rfl, h732, (fun r738 h739 => ⟨r738, (), rfl, h739, rfl⟩)⟩⟩)⟩)))))))⟩) (fun ys733 s730 h734 => fun p735 => ⟨_, _, _, rfl, rfl, (ex_var 0 rfl ⟨1, _, _, rfl, rfl, Nat.le_of_ble_eq_true rfl, ?_⟩)⟩))⟩))))))
    show SS _ _ [some (rD q_self), some ((eL iD) v_coefficients), some (rD p703), none] [(p703, Cell.lst (List.map (fr T.C_Fraction) s708)), (q_self, Cell.ins T.C_Polynomial [("_bottom", iD r727), ("_tops", (eL iD) ys733)])] _
    exact ss_nil (ph_rt (Qd := Qd) [(q_self, Cell.ins T.C_Polynomial [("_bottom", iD r727), ("_tops", (eL iD) ys733)])] [] (Pick.d (Pick.l Pick.nil)) (hQ ({ _bottom := r727, _tops := ys733 } : R_Polynomial) h734))
theorem ok_Polynomial_power (T : Tx P w K mg base) : FnOk P w K mg base (L2.CX P w) 6 T.f_Polynomial_power T.fd_Polynomial_power ["k"] (spS K 1 (fun ds Ω Qd Rd => ∃ (v_k : Int) (Q : R_Polynomial → Prop), ds = [iD v_k] ∧ Ω = [] ∧ W_Polynomial_power v_k Q ∧ (∀ r , Q r  → Qd ((e_Polynomial T) r) []))) := by
  refine fn_S T.F_Polynomial_power sc_Polynomial_power (by decide) fun cdv A outer s H E ds Ω Qd Rd hr hh => ?_
  obtain ⟨v_k, Q, rfl, rfl, hW, hQ⟩ := hh
  unfold W_Polynomial_power at hW
  show SS _ _ [some (iD v_k)] [] _
  exact ss_ret (ex_frzO (ex_make T.mk_Polynomial (ok_Polynomial_init_4 T) (hr.mono (by decide)) T.mg_Polynomial T.kb_Polynomial_init_2 (ca_p (ax_cons (ex_frz (ex_op op_cat (ex_frz (ex_repT (ex_int (ex_var 0 rfl ⟨iD, (0 : Int), _, rfl, rfl, hW.1.2, hW.1.1, fun p748 => ⟨_, _, _, rfl, rfl, (ex_frz (ex_lst (ax_cons (ex_int (ax_nil ⟨Nat.le_of_ble_eq_true rfl, fun p749 => ⟨_, _, _, rfl, rfl, (ox_catT (f := iD) (.fr _) (.fr _) hW.2.1 fun p750 => ⟨_, _, _, rfl, rfl, (ax_nil ⟨[], _, rfl, rfl, rfl, fun x753 => ⟨rfl, ⟨x753, ((List.replicate v_k.toNat (0 : Int)) ++ ([(1 : Int)] : List Int)), _, rfl, rfl, hW.2.2, (fun r751 h752 => ⟨rfl, ⟨_, _, _, _, rfl, rfl, (ph_rt (Qd := Qd) [] [] Pick.nil (hQ r751 h752))⟩⟩)⟩⟩⟩)⟩)⟩⟩)))))⟩⟩))))))))))
theorem ok_Polynomial_init_5 (T : Tx P w K mg base) : FnOk P w K mg base (L2.CX P w) 4 T.f_Polynomial_init T.fd_Polynomial_init ["self", "coefficients"] (spS K 2 (fun ds Ω Qd Rd => ∃ (q_self : Addr) (v_coefficients : (List Num)) (Q : R_Polynomial → Prop), ds = [rD q_self, (eL (eN T.C_Fraction)) v_coefficients] ∧ Ω = [(q_self, Cell.ins T.C_Polynomial [])] ∧ W_Polynomial_init_5 v_coefficients Q ∧ (∀ r , Q r  → Qd (.v .non) ((q_self, Cell.ins T.C_Polynomial (f_Polynomial T r)) :: [])))) := by
  refine fn_S0 T.F_Polynomial_init sc_Polynomial_init (by decide) fun cdv A outer s H E ds Ω Qd Rd hr hh => ?_
  obtain ⟨q_self, v_coefficients, Q, rfl, rfl, hW, hQ⟩ := hh
  unfold W_Polynomial_init_5 at hW
  show SS _ _ [some (rD q_self), some ((eL (eN T.C_Fraction)) v_coefficients), none, none] [(q_self, Cell.ins T.C_Polynomial [])] _
  refine (ss_lc2 2 [("number", 3)] rfl sc_Polynomial_init.nd rfl (show _ = defScope s_Polynomial_init from rfl) (by decide +kernel) (ixp rfl) (fun _ _ _ _ _ => (pg_name (i := 3) sc_Polynomial_init.nd rfl (by first | exact Or.inl rfl | exact Or.inr rfl) (by first | exact Or.inl rfl | exact Or.inr rfl))) (iw_lc (iw_list (ex_var 1 rfl ⟨_, (.fr _), (lcW (α := Num) (f := (eN T.C_Fraction)) (fr T.C_Fraction) (fun s736 : (Unit) => [(q_self, Cell.ins T.C_Polynomial [])]) hW.1 hW.2 rfl (fun _ => (.fr _)) (fun x735 s736 nx737 h738 => ⟨_, (Tgt.name 3), fun _ _ _ _ _ => (ex_call (ok_as_fraction T) (hr.mono (by decide)) T.m_as_fraction T.k_as_fraction T.kb_as_fraction_1 (ca_p (ax_cons (ex_var 3 rfl (ax_nil ⟨[], _, rfl, rfl, rfl, rfl, ⟨x735, _, _, rfl, rfl, h738, (fun r744 h745 => ⟨r744, (), rfl, h745, rfl⟩), fun e he => False.elim he⟩⟩)))))⟩) (fun ys739 s736 h740 => fun p741 => ?_))⟩))))
  show SS _ _ [some (rD q_self), some ((eL (eN T.C_Fraction)) v_coefficients), some (rD p741), none] [(p741, Cell.lst (List.map (fr T.C_Fraction) ys739)), (q_self, Cell.ins T.C_Polynomial [])] _
  refine (ss_whileW (fun (s746 : List Rat) Γ0 Ω0 => Γ0 = [some (rD q_self), some ((eL (eN T.C_Fraction)) v_coefficients), some (rD p741), none] ∧ Ω0 = [(p741, Cell.lst (List.map (fr T.C_Fraction) s746)), (q_self, Cell.ins T.C_Polynomial [])]) h740 ⟨rfl, rfl⟩ ?_)
  intro s746 Γ9 Ω9 nx747 i9 h748
  obtain ⟨rfl, rfl⟩ := i9
  refine (tx_ofW (wx_andK [(p741, Cell.lst (List.map (fr T.C_Fraction) s746)), (q_self, Cell.ins T.C_Polynomial [])] h748 (fun h750 => (tx_lstT (ex_var 2 rfl ⟨(fr T.C_Fraction), s746, (.ow 0 rfl), ⟨fun ht751 => (wx_and1 (tx_not (tx_ownB T.cmp_bool (ok_Fraction_bool T) (hr.mono (by decide)) T.bb_Fraction_bool (ex_ix (ex_var 2 rfl (ex_un un_neg (ex_int (ux_neg (Exists.elim (h750.1 ht751) fun v756 h757 => ⟨_, _, _, (.ow 0 rfl), rfl, at_map (f := (fr T.C_Fraction)) (xs := s746) h757.1, ⟨_, rfl, v756, _, rfl, rfl, h757.2, (fun r758 h759 => ⟨_, rfl, ⟨rfl, h759⟩⟩)⟩⟩))))))))), fun ht751 => ⟨rfl, h750.2 ht751⟩⟩⟩))) (fun b752 h753 => ⟨fun ht760 => ?_, fun ht760 => ?_⟩)))
  · show SS _ _ [some (rD q_self), some ((eL (eN T.C_Fraction)) v_coefficients), some (rD p741), none] [(p741, Cell.lst (List.map (fr T.C_Fraction) s746)), (q_self, Cell.ins T.C_Polynomial [])] _
    refine (ss_expr (ex_popT (ex_var 2 rfl (Exists.elim (h753.1 ht760) fun v761 h762 => ⟨(fr T.C_Fraction), _, 0, s746, _, rfl, rfl, h762.1, ?_⟩))))
    show SS _ _ [some (rD q_self), some ((eL (eN T.C_Fraction)) v_coefficients), some (rD p741), none] [(p741, Cell.lst (List.map (fr T.C_Fraction) (List.dropLast s746))), (q_self, Cell.ins T.C_Polynomial [])] _
    exact ss_nil (Exists.intro (List.dropLast s746) (And.intro h762.2 ⟨rfl, rfl⟩))
  · show SS _ _ [some (rD q_self), some ((eL (eN T.C_Fraction)) v_coefficients), some (rD p741), none] [(p741, Cell.lst (List.map (fr T.C_Fraction) s746)), (q_self, Cell.ins T.C_Polynomial [])] _
    refine (ss_attr T.cls_Polynomial T.na_Polynomial__bottom (ex_call (ok_common_bottom T) (hr.mono (by decide)) T.m_common_bottom T.k_common_bottom T.kb_common_bottom_1 (ca_p (ax_cons (ex_var 2 rfl (ax_nil ⟨[_], _, rfl, rfl, rfl, rfl, ⟨p741, s746, _, rfl, rfl, (h753.2 ht760), (fun r765 h766 => (ex_var 0 rfl ⟨1, _, _, rfl, rfl, Nat.le_of_ble_eq_true rfl, ?_⟩))⟩⟩))))))
    show SS _ _ [some (rD q_self), some ((eL (eN T.C_Fraction)) v_coefficients), some (rD p741), none] [(p741, Cell.lst (List.map (fr T.C_Fraction) s746)), (q_self, Cell.ins T.C_Polynomial [("_bottom", iD r765)])] _
    refine (ss_attr T.cls_Polynomial T.na_Polynomial__tops (ex_frz (ex_lc2 [("number", 3)] rfl sc_Polynomial_init.nd rfl (show _ = defScope s_Polynomial_init from rfl) (by decide +kernel) (ixp rfl) (fun _ _ _ _ _ => (pg_name (i := 3) sc_Polynomial_init.nd rfl (by first | exact Or.inl rfl | exact Or.inr rfl) (by first | exact Or.inl rfl | exact Or.inr rfl))) (iw_lc (iw_list (ex_var 2 rfl ⟨_, (.ow 0 rfl), (lcW (α := Rat) (f := (fr T.C_Fraction)) iD (fun s768 : (Unit) => [(p741, Cell.lst (List.map (fr T.C_Fraction) s746)), (q_self, Cell.ins T.C_Polynomial [("_bottom", iD r765)])]) h766.1 h766.2 rfl (fun _ => (.ow 0 rfl)) (fun x767 s768 nx769 h770 => ⟨_, (Tgt.name 3), fun _ _ _ _ _ => (ex_call (ok_over_bottom T) (hr.mono (by decide)) T.m_over_bottom T.k_over_bottom T.kb_over_bottom_2 (ca_p (ax_cons (ex_var 3 rfl (ax_cons (ex_fld T.cls_Polynomial T.na_Polynomial__bottom (ex_var 0 rfl ⟨_, _, .ow 1 rfl, rfl, (ax_nil ⟨[], _, rfl, rfl, rfl, rfl, ⟨x767, r765, _, rfl, rfl, h770, (fun r776 h777 => ⟨r776, (), rfl, h777, rfl⟩)⟩⟩)⟩)))))))⟩) (fun ys771 s768 h772 => fun p773 => ⟨_, _, _, rfl, rfl, (ex_var 0 rfl ⟨1, _, _, rfl, rfl, Nat.le_of_ble_eq_true rfl, ?_⟩)⟩))⟩))))))
    show SS _ _ [some (rD q_self), some ((eL (eN T.C_Fraction)) v_coefficients), some (rD p741), none] [(p741, Cell.lst (List.map (fr T.C_Fraction) s746)), (q_self, Cell.ins T.C_Polynomial [("_bottom", iD r765), ("_tops", (eL iD) ys771)])] _
    exact ss_nil (ph_rt (Qd := Qd) [(q_self, Cell.ins T.C_Polynomial [("_bottom", iD r765), ("_tops", (eL iD) ys771)])] [] (Pick.d (Pick.l Pick.nil)) (hQ ({ _bottom := r765, _tops := ys771 } : R_Polynomial) h772))
theorem ok_Polynomial_eq (T : Tx P w K mg base) : FnOk P w K mg base (L2.CX P w) 2 T.f_Polynomial_eq T.fd_Polynomial_eq ["self", "other"] (spS K 2 (fun ds Ω Qd Rd => ∃ (v_self : R_Polynomial) (v_other : R_Polynomial) (Q : Bool → Prop), ds = [(e_Polynomial T) v_self, (e_Polynomial T) v_other] ∧ Ω = [] ∧ W_Polynomial_eq v_self v_other Q ∧ (∀ r , Q r  → Qd (bD r) []))) := by
  refine fn_S T.F_Polynomial_eq sc_Polynomial_eq (by decide) fun cdv A outer s H E ds Ω Qd Rd hr hh => ?_
  obtain ⟨v_self, v_other, Q, rfl, rfl, hW, hQ⟩ := hh
  unfold W_Polynomial_eq at hW
  show SS _ _ [some ((e_Polynomial T) v_self), some ((e_Polynomial T) v_other)] [] _
  refine (ss_if (tx_not (tx_val (ex_callB call_isi T.z_isinstance (by decide +kernel) (ax_cons (ex_var 1 rfl (ax_cons (ex_glob T.mg_Polynomial (v := .ref T.C_Polynomial) rfl (ax_nil (cx_isi (.own T.C_Polynomial) (tyx_of (.ob T.cls_Polynomial T.ca_Polynomial T.cn T.ct T.cm_Polynomial)) kit_self ⟨_, rfl, ⟨fun ht791 => ?_, fun ht791 => ?_⟩⟩))))))))))
  · show SS _ _ [some ((e_Polynomial T) v_self), some ((e_Polynomial T) v_other)] [] _
    exact absurd ht791 (by decide)
  · show SS _ _ [some ((e_Polynomial T) v_self), some ((e_Polynomial T) v_other)] [] _
    refine ss_nil (seq_nx ?_)
    show SS _ _ [some ((e_Polynomial T) v_self), some ((e_Polynomial T) v_other)] [] _
    exact ss_ret (ex_andK [] (hW.2 ht791) (fun h793 => (ex_cmp (op_eqLI (hr.mono (by decide))) (ex_fld T.cls_Polynomial T.na_Polynomial__tops (ex_var 0 rfl ⟨_, _, .fr _ _, rfl, (ex_fld T.cls_Polynomial T.na_Polynomial__tops (ex_var 1 rfl ⟨_, _, .fr _ _, rfl, (ox_eqLI (xs := v_self._tops) (ys := v_other._tops) (.fr _) (.fr _) ⟨_, rfl, fun ht794 => (ex_one (ex_cmp op_eq (ex_fld T.cls_Polynomial T.na_Polynomial__bottom (ex_var 0 rfl ⟨_, _, .fr _ _, rfl, (ex_fld T.cls_Polynomial T.na_Polynomial__bottom (ex_var 1 rfl ⟨_, _, .fr _ _, rfl, (ox_eqI ⟨_, rfl, rfl, (h793.1 ht794)⟩)⟩))⟩)))), fun ht794 => ⟨rfl, h793.2 ht794⟩⟩)⟩))⟩)))) (fun b795 h796 => (ph_rt (Qd := Qd) [] [] Pick.nil (hQ b795 h796))))
theorem ok_law (T : Tx P w K mg base) (hall : ∀ ns : List Int, ns.length ≤ 63 → W_law ns (fun r => r = true) (fun _ => False)) : FnOk P w K mg base CX0 8 T.f_law T.fd_law ["_law_script"] (spD K 1 R_law) := by
  refine fn_L T.F_law sc_law (by decide) rfl fun cdv A outer s H E v_script hr hl => ?_
  have hW := hall v_script hl
  clear hall
  unfold W_law at hW
  show SS _ _ [some (D.scr v_script), none, none, none, none, none, none, none, none, none, none, none, none] [] _
  refine (ss_asg 1 sc_law.nd (ex_op op_mod (ex_callTy call_int1 T.z_int (by decide +kernel) (ax_cons (ex_call (ok_L_cell T) (hr.mono (by decide)) T.m_L_cell T.k_L_cell T.kb_L_cell_2 (ca_p (ax_cons (ex_var 0 rfl (ax_cons (ex_int (ax_nil ⟨[], _, rfl, rfl, rfl, rfl, ⟨v_script, (0 : Int), _, rfl, rfl, hW, (fun r9 h10 => (ax_nil (cx_int (ex_op op_powW (ex_int (ex_int (ox_I h10.1 (ox_I h10.2.1 (ss_gen (fun x11 => [some (D.scr v_script), some (iD x11), none, none, none, none, none, none, none, none, none, none, none]) (fun x11 => []) h10.2.2 (fun x11 h12 => ?_))))))))))⟩⟩)))))))))))
  show SS _ _ [some (D.scr v_script), some (iD x11), none, none, none, none, none, none, none, none, none, none, none] [] _
  refine (ss_asg 2 sc_law.nd (ex_frz (ex_call (ok_L_pairs T) (hr.mono (by decide)) T.m_L_pairs T.k_L_pairs T.kb_L_pairs_3 (ca_p (ax_cons (ex_var 0 rfl (ax_cons (ex_int (ax_cons (ex_op op_mod (ex_var 1 rfl (ex_int (ox_I h12.1 (ax_nil ⟨[], _, rfl, rfl, rfl, rfl, ⟨v_script, (1 : Int), (x11 % (8 : Int)), _, rfl, rfl, h12.2, (fun r88 h89 p90 => ⟨_, _, _, rfl, rfl, ?_⟩)⟩⟩))))))))))))))
  show SS _ _ [some (D.scr v_script), some (iD x11), some ((eL (eT iD iD)) r88), none, none, none, none, none, none, none, none, none, none] [] _
  refine (ss_asg 3 sc_law.nd (ex_lc2 [("_law_pair", 11)] rfl sc_law.nd rfl (show _ = defScope s_law from rfl) (by decide +kernel) (ixp rfl) (fun _ _ _ _ _ => (pg_name (i := 11) sc_law.nd rfl (by first | exact Or.inl rfl | exact Or.inr rfl) (by first | exact Or.inl rfl | exact Or.inr rfl))) (iw_lc (iw_list (ex_var 2 rfl ⟨_, (.fr _), (lcW (α := (Int × Int)) (f := (eT iD iD)) (eN T.C_Fraction) (fun s92 : (Unit) => []) h89.1 h89.2 rfl (fun _ => (.fr _)) (fun x91 s92 nx93 h94 => ⟨_, (Tgt.name 11), fun _ _ _ _ _ => (ex_call (ok_L_handed T) (hr.mono (by decide)) T.m_L_handed T.k_L_handed T.kb_L_handed_2 (ca_p (ax_cons (ex_var 11 rfl (ax_cons (ex_cmp op_eq (ex_op op_mod (ex_op op_fdivW (ex_var 1 rfl (ex_int (ox_I h94.1 (ex_int (ox_I h94.2.1 (ex_int (ox_eqI (ax_nil ⟨[], _, rfl, rfl, rfl, rfl, ⟨x91, (decide (((x11 / (8 : Int)) % (2 : Int)) = (1 : Int))), _, _, rfl, rfl, h94.2.2, (fun r117 h118 => ⟨r117, (), rfl, h118, rfl⟩), fun e he => False.elim he⟩⟩))))))))))))))))⟩) (fun ys95 s92 h96 => fun p97 => ?_))⟩)))))
  show SS _ _ [some (D.scr v_script), some (iD x11), some ((eL (eT iD iD)) r88), some (rD p97), none, none, none, none, none, none, none, none, none] [(p97, Cell.lst (List.map (eN T.C_Fraction) ys95))] _
  refine (ss_asg 4 sc_law.nd (ex_frzO (ex_make T.mk_Polynomial (ok_Polynomial_init T) (hr.mono (by decide)) T.mg_Polynomial T.kb_Polynomial_init_2 (ca_p (ax_cons (ex_var 3 rfl (ax_nil ⟨[_], _, rfl, rfl, rfl, fun x806 => ⟨rfl, ⟨x806, p97, ys95, _, rfl, rfl, h96, (fun r202 h203 => ⟨rfl, ⟨_, _, _, _, rfl, rfl, ?_⟩⟩)⟩⟩⟩)))))))
  show SS _ _ [some (D.scr v_script), some (iD x11), some ((eL (eT iD iD)) r88), some (rD p97), some ((e_Polynomial T) r202), none, none, none, none, none, none, none, none] [(p97, Cell.lst (List.map (eN T.C_Fraction) ys95))] _
  refine (ss_ifK (fun (s204 : R_Polynomial) Γ0 Ω0 => Γ0 = [some (D.scr v_script), some (iD x11), some ((eL (eT iD iD)) r88), some (rD p97), some ((e_Polynomial T) s204), none, none, none, none, none, none, none, none] ∧ Ω0 = [(p97, Cell.lst (List.map (eN T.C_Fraction) ys95))]) h203 (fun h206 => (tx_cmp op_eq (ex_op op_mod (ex_op op_fdivW (ex_var 1 rfl (ex_int (ox_I h206.1 (ex_int (ox_I h206.2.1 (ex_int (ox_eqI ⟨_, rfl, ⟨fun ht208 => ?_, fun ht208 => ?_⟩⟩))))))))))) ?_)
  · show SS _ _ [some (D.scr v_script), some (iD x11), some ((eL (eT iD iD)) r88), some (rD p97), some ((e_Polynomial T) r202), none, none, none, none, none, none, none, none] [(p97, Cell.lst (List.map (eN T.C_Fraction) ys95))] _
    refine (ss_asg 4 sc_law.nd (ex_frzO (ex_make T.mk_Polynomial (ok_Polynomial_init_2 T) (hr.mono (by decide)) T.mg_Polynomial T.kb_Polynomial_init_1_coefficients (ca_k (kx_cons (ex_callTy call_tuple_of T.z_tuple (by decide +kernel) (ax_cons (ex_var 3 rfl (ax_nil (cx_tupL (f := (eN T.C_Fraction)) (xs := ys95) (.ow 0 rfl) (kx_nil ⟨[], _, rfl, rfl, rfl, fun x257 => ⟨rfl, ⟨x257, ys95, _, rfl, rfl, (h206.2.2.1 ht208), (fun r255 h256 => ⟨rfl, ⟨_, _, _, _, rfl, rfl, ?_⟩⟩)⟩⟩⟩)))))))))))
    show SS _ _ [some (D.scr v_script), some (iD x11), some ((eL (eT iD iD)) r88), some (rD p97), some ((e_Polynomial T) r255), none, none, none, none, none, none, none, none] [(p97, Cell.lst (List.map (eN T.C_Fraction) ys95))] _
    exact ss_nil (Exists.intro r255 (And.intro ⟨rfl, rfl⟩ h256))
  · show SS _ _ [some (D.scr v_script), some (iD x11), some ((eL (eT iD iD)) r88), some (rD p97), some ((e_Polynomial T) r202), none, none, none, none, none, none, none, none] [(p97, Cell.lst (List.map (eN T.C_Fraction) ys95))] _
    exact ss_nil (Exists.intro r202 (And.intro ⟨rfl, rfl⟩ (h206.2.2.2 ht208)))
  · intro s204 Γ9 Ω9 i9 h207
    obtain ⟨rfl, rfl⟩ := i9
    show SS _ _ [some (D.scr v_script), some (iD x11), some ((eL (eT iD iD)) r88), some (rD p97), some ((e_Polynomial T) s204), none, none, none, none, none, none, none, none] [(p97, Cell.lst (List.map (eN T.C_Fraction) ys95))] _
    refine (ss_asg 5 sc_law.nd (ex_frz (ex_lc2 [("_law_pair", 11)] rfl sc_law.nd rfl (show _ = defScope s_law from rfl) (by decide +kernel) (ixp rfl) (fun _ _ _ _ _ => (pg_name (i := 11) sc_law.nd rfl (by first | exact Or.inl rfl | exact Or.inr rfl) (by first | exact Or.inl rfl | exact Or.inr rfl))) (iw_lc (iw_list (ex_var 2 rfl ⟨_, (.fr _), (lcW (α := (Int × Int)) (f := (eT iD iD)) (eN T.C_Fraction) (fun s259 : (Unit) => [(p97, Cell.lst (List.map (eN T.C_Fraction) ys95))]) h207.1 h207.2 rfl (fun _ => (.fr _)) (fun x258 s259 nx260 h261 => ⟨_, (Tgt.name 11), fun _ _ _ _ _ => (ex_call (ok_L_handed T) (hr.mono (by decide)) T.m_L_handed T.k_L_handed T.kb_L_handed_2 (ca_p (ax_cons (ex_var 11 rfl (ax_cons (ex_cmp op_eq (ex_op op_mod (ex_op op_fdivW (ex_var 1 rfl (ex_int (ox_I h261.1 (ex_int (ox_I h261.2.1 (ex_int (ox_eqI (ax_nil ⟨[], _, rfl, rfl, rfl, rfl, ⟨x258, (decide (((x11 / (8 : Int)) % (2 : Int)) = (1 : Int))), _, _, rfl, rfl, h261.2.2, (fun r267 h268 => ⟨r267, (), rfl, h268, rfl⟩), fun e he => False.elim he⟩⟩))))))))))))))))⟩) (fun ys262 s259 h263 => fun p264 => ⟨_, _, _, rfl, rfl, ?_⟩))⟩))))))
    show SS _ _ [some (D.scr v_script), some (iD x11), some ((eL (eT iD iD)) r88), some (rD p97), some ((e_Polynomial T) s204), some ((eL (eN T.C_Fraction)) ys262), none, none, none, none, none, none, none] [(p97, Cell.lst (List.map (eN T.C_Fraction) ys95))] _
    refine (ss_if (tx_ofW (wx_orK [(p97, Cell.lst (List.map (eN T.C_Fraction) ys95))] h263 (fun h270 => (tx_cmp op_ne (ex_callB call_len_seq T.z_len PySem.boot_len (ax_cons (ex_var 3 rfl (ax_nil (cx_lenL (f := (eN T.C_Fraction)) (xs := ys95) (.ow 0 rfl) (ex_callB call_len_seq T.z_len PySem.boot_len (ax_cons (ex_var 5 rfl (ax_nil (cx_lenL (f := (eN T.C_Fraction)) (xs := ys262) (.fr _) (ox_neI ⟨_, rfl, ⟨fun ht271 => ⟨rfl, h270.1 ht271⟩, fun ht271 => (wx_or1 (tx_not (tx_val (ex_callB (cr_all rfl) T.z_all (by decide +kernel) (ax_cons (ex_frz (ex_lc2 [("_law_k", 12)] rfl sc_law.nd rfl (show _ = defScope s_law from rfl) (by decide +kernel) (ixp rfl) (fun _ _ _ _ _ => (pg_name (i := 12) sc_law.nd rfl (by first | exact Or.inl rfl | exact Or.inr rfl) (by first | exact Or.inl rfl | exact Or.inr rfl))) (iw_lc (iw_rng1 T.z_range (ex_callB call_len_seq T.z_len PySem.boot_len (ax_cons (ex_var 3 rfl (ax_nil (cx_lenL (f := (eN T.C_Fraction)) (xs := ys95) (.ow 0 rfl) ⟨_, rfl, (h270.2 ht271).1.1, (h270.2 ht271).1.2, (lcW (α := Int) (f := iD) bD (fun s345 : (Unit) => [(p97, Cell.lst (List.map (eN T.C_Fraction) ys95))]) (h270.2 ht271).2.1 (h270.2 ht271).2.2 rfl (fun _ => True.intro) (fun x344 s345 nx346 h347 => ⟨_, (Tgt.name 12), fun _ _ _ _ _ => (ex_cmp (op_alt (op_alt op_eq (cmp_iown (fun _ _ => rfl) cEq T.cmp_eq T.sub2 (ok_Fraction_eq T) (hr.mono (by decide)) T.bb_Fraction_eq passF)) (op_alt (cmp_ownI (fun _ _ => rfl) T.cmp_eq T.sub1 (ok_Fraction_eq T) (hr.mono (by decide)) T.bb_Fraction_eq passF) (cmp_own (fun _ _ => rfl) T.cmp_eq (ok_Fraction_eq_2 T) (hr.mono (by decide)) T.bb_Fraction_eq passF))) (ex_ix (ex_var 3 rfl (ex_var 12 rfl (Exists.elim h347 fun v351 h352 => ⟨_, _, _, (.ow 0 rfl), rfl, at_map (f := (eN T.C_Fraction)) (xs := ys95) h352.1, (ex_ix (ex_var 5 rfl (ex_var 12 rfl (Exists.elim h352.2 fun v353 h354 => ⟨_, _, _, (.fr _), rfl, at_map (f := (eN T.C_Fraction)) (xs := ys262) h354.1, (ox_join bD h354.2 (fun h382 => ox_numL (fun n383 e385 => ox_altL (ox_join bD (h382.1 n383 e385) (fun h391 => ox_numR (fun n392 e394 => ox_altL (ox_eqI ⟨(decide (n383 = n392)), rfl, rfl, (h391.1 n392 e394)⟩)) (fun q393 e394 => ox_altR (ox_iown ⟨q393, n383, _, _, rfl, rfl, (h391.2 q393 e394), fun r397 h398 => ⟨r397, rfl, rfl, h398⟩, fun e he => False.elim he⟩))) (fun y395 h396 => ⟨y395, rfl, rfl, h396⟩))) (fun q384 e385 => ox_altR (ox_join bD (h382.2 q384 e385) (fun h404 => ox_numR (fun n405 e407 => ox_altL (ox_ownI ⟨q384, n405, _, _, rfl, rfl, (h404.1 n405 e407), fun r410 h411 => ⟨r410, rfl, rfl, h411⟩, fun e he => False.elim he⟩)) (fun q406 e407 => ox_altR (ox_own ⟨q384, q406, _, rfl, rfl, (h404.2 q406 e407), fun r412 h413 => ⟨r412, rfl, rfl, h413⟩⟩))) (fun y408 h409 => ⟨y408, rfl, rfl, h409⟩)))) (fun y386 h387 => ⟨y386, (), rfl, h387, rfl⟩))⟩))))⟩)))))⟩) (fun ys348 s345 h349 => fun p350 => ⟨_, _, _, rfl, rfl, (ax_nil (cx_all (.fr _) ⟨_, rfl, ⟨rfl, h349⟩⟩))⟩))⟩))))))))))))))⟩⟩))))))))))))) (fun b272 h273 => ⟨fun ht414 => ?_, fun ht414 => ?_⟩))))
    · show SS _ _ [some (D.scr v_script), some (iD x11), some ((eL (eT iD iD)) r88), some (rD p97), some ((e_Polynomial T) s204), some ((eL (eN T.C_Fraction)) ys262), none, none, none, none, none, none, none] [(p97, Cell.lst (List.map (eN T.C_Fraction) ys95))] _
      exact ss_ret (ex_bl (rt_law (h273.1 ht414)))
    · show SS _ _ [some (D.scr v_script), some (iD x11), some ((eL (eT iD iD)) r88), some (rD p97), some ((e_Polynomial T) s204), some ((eL (eN T.C_Fraction)) ys262), none, none, none, none, none, none, none] [(p97, Cell.lst (List.map (eN T.C_Fraction) ys95))] _
      refine ss_nil (seq_nx ?_)
      show SS _ _ [some (D.scr v_script), some (iD x11), some ((eL (eT iD iD)) r88), some (rD p97), some ((e_Polynomial T) s204), some ((eL (eN T.C_Fraction)) ys262), none, none, none, none, none, none, none] [(p97, Cell.lst (List.map (eN T.C_Fraction) ys95))] _
      refine (ss_expr (ex_appT (ex_var 3 rfl ⟨_, 0, _, rfl, rfl, (ex_frzO (ex_make T.mk_Fraction (ok_Fraction T) (hr.mono (by decide)) T.mg_Fraction T.kb_Fraction_init_3 (ca_p (ax_cons (ex_int (ax_cons (ex_int (ax_nil ⟨[], _, rfl, rfl, rfl, fun x805 => ⟨rfl, ⟨x805, (1 : Int), (2 : Int), _, _, rfl, rfl, (h273.2 ht414), (fun r418 h419 => ⟨rfl, ⟨_, _, _, _, rfl, rfl, ⟨(eN T.C_Fraction), 0, ys95, (Num.q r418), rfl, rfl, h419.1, ?_⟩⟩⟩), fun e he => (False.elim he)⟩⟩⟩))))))))⟩)))
      show SS _ _ [some (D.scr v_script), some (iD x11), some ((eL (eT iD iD)) r88), some (rD p97), some ((e_Polynomial T) s204), some ((eL (eN T.C_Fraction)) ys262), none, none, none, none, none, none, none] [(p97, Cell.lst (List.map (eN T.C_Fraction) (ys95 ++ [(Num.q r418)])))] _
      refine (ss_itemT (ex_frzO (ex_make T.mk_Fraction (ok_Fraction T) (hr.mono (by decide)) T.mg_Fraction T.kb_Fraction_init_2 (ca_p (ax_cons (ex_int (ax_nil ⟨[], _, rfl, rfl, rfl, fun x804 => ⟨rfl, ⟨x804, (5 : Int), (1 : Int), _, _, rfl, rfl, h419.2, (fun r423 h424 => ⟨rfl, ⟨_, _, _, _, rfl, rfl, (ex_var 3 rfl (ex_int (Exists.elim h424 fun j425 h426 => ⟨(eN T.C_Fraction), 0, _, _, (Num.q r423), _, _, rfl, rfl, rfl, rfl, h426.1, ?_⟩)))⟩⟩), fun e he => (False.elim he)⟩⟩⟩)))))))
      show SS _ _ [some (D.scr v_script), some (iD x11), some ((eL (eT iD iD)) r88), some (rD p97), some ((e_Polynomial T) s204), some ((eL (eN T.C_Fraction)) ys262), none, none, none, none, none, none, none] [(p97, Cell.lst (List.map (eN T.C_Fraction) (List.set (ys95 ++ [(Num.q r418)]) j425 (Num.q r423))))] _
      refine (ss_asg 2 sc_law.nd (ex_frz (ex_call (ok_L_cut T) (hr.mono (by decide)) T.m_L_cut T.k_L_cut T.kb_L_cut_1 (ca_p (ax_cons (ex_var 2 rfl (ax_nil ⟨[], _, rfl, rfl, rfl, rfl, ⟨r88, _, rfl, rfl, h426.2, (fun r444 h445 p446 => ⟨_, _, _, rfl, rfl, ?_⟩)⟩⟩)))))))
      show SS _ _ [some (D.scr v_script), some (iD x11), some ((eL (eT iD iD)) r444), some (rD p97), some ((e_Polynomial T) s204), some ((eL (eN T.C_Fraction)) ys262), none, none, none, none, none, none, none] [(p97, Cell.lst (List.map (eN T.C_Fraction) (List.set (ys95 ++ [(Num.q r418)]) j425 (Num.q r423))))] _
      refine (ss_asg 6 sc_law.nd (ex_meth T.cls_Polynomial T.me_Polynomial_coefficients (ok_Polynomial_coefficients T) (hr.mono (by decide)) T.kb_Polynomial_coefficients_1 (ex_var 4 rfl ⟨_, .fr _ _, rfl, (ca_0 ⟨[], _, rfl, rfl, rfl, rfl, ⟨s204, _, rfl, rfl, h445, (fun r460 h461 p462 => ?_)⟩⟩)⟩)))
      show SS _ _ [some (D.scr v_script), some (iD x11), some ((eL (eT iD iD)) r444), some (rD p97), some ((e_Polynomial T) s204), some ((eL (eN T.C_Fraction)) ys262), some (rD p462), none, none, none, none, none, none] [(p462, Cell.lst (List.map (fr T.C_Fraction) r460)), (p97, Cell.lst (List.map (eN T.C_Fraction) (List.set (ys95 ++ [(Num.q r418)]) j425 (Num.q r423))))] _
      refine (ss_expr (ex_appT (ex_var 6 rfl ⟨_, 0, _, rfl, rfl, (ex_frzO (ex_make T.mk_Fraction (ok_Fraction T) (hr.mono (by decide)) T.mg_Fraction T.kb_Fraction_init_2 (ca_p (ax_cons (ex_int (ax_nil ⟨[], _, rfl, rfl, rfl, fun x803 => ⟨rfl, ⟨x803, (1 : Int), (1 : Int), _, _, rfl, rfl, h461, (fun r466 h467 => ⟨rfl, ⟨_, _, _, _, rfl, rfl, ⟨(fr T.C_Fraction), 0, r460, r466, rfl, rfl, h467.1, ?_⟩⟩⟩), fun e he => (False.elim he)⟩⟩⟩))))))⟩)))
      show SS _ _ [some (D.scr v_script), some (iD x11), some ((eL (eT iD iD)) r444), some (rD p97), some ((e_Polynomial T) s204), some ((eL (eN T.C_Fraction)) ys262), some (rD p462), none, none, none, none, none, none] [(p462, Cell.lst (List.map (fr T.C_Fraction) (r460 ++ [r466]))), (p97, Cell.lst (List.map (eN T.C_Fraction) (List.set (ys95 ++ [(Num.q r418)]) j425 (Num.q r423))))] _
      refine (ss_if (tx_not (tx_val (ex_call (ok_L_asked T) (hr.mono (by decide)) T.m_L_asked T.k_L_asked T.kb_L_asked_2 (ca_p (ax_cons (ex_var 4 rfl (ax_cons (ex_var 2 rfl (ax_nil ⟨[], _, rfl, rfl, rfl, rfl, ⟨s204, r444, _, rfl, rfl, h467.2, (fun r470 h471 => ⟨_, rfl, ⟨fun ht472 => ?_, fun ht472 => ?_⟩⟩)⟩⟩))))))))))
      · show SS _ _ [some (D.scr v_script), some (iD x11), some ((eL (eT iD iD)) r444), some (rD p97), some ((e_Polynomial T) s204), some ((eL (eN T.C_Fraction)) ys262), some (rD p462), none, none, none, none, none, none] [(p462, Cell.lst (List.map (fr T.C_Fraction) (r460 ++ [r466]))), (p97, Cell.lst (List.map (eN T.C_Fraction) (List.set (ys95 ++ [(Num.q r418)]) j425 (Num.q r423))))] _
        exact ss_ret (ex_bl (rt_law (h471.1 ht472)))
      · show SS _ _ [some (D.scr v_script), some (iD x11), some ((eL (eT iD iD)) r444), some (rD p97), some ((e_Polynomial T) s204), some ((eL (eN T.C_Fraction)) ys262), some (rD p462), none, none, none, none, none, none] [(p462, Cell.lst (List.map (fr T.C_Fraction) (r460 ++ [r466]))), (p97, Cell.lst (List.map (eN T.C_Fraction) (List.set (ys95 ++ [(Num.q r418)]) j425 (Num.q r423))))] _
        refine ss_nil (seq_nx ?_)
        show SS _ _ [some (D.scr v_script), some (iD x11), some ((eL (eT iD iD)) r444), some (rD p97), some ((e_Polynomial T) s204), some ((eL (eN T.C_Fraction)) ys262), some (rD p462), none, none, none, none, none, none] [(p462, Cell.lst (List.map (fr T.C_Fraction) (r460 ++ [r466]))), (p97, Cell.lst (List.map (eN T.C_Fraction) (List.set (ys95 ++ [(Num.q r418)]) j425 (Num.q r423))))] _
        refine (ss_asg 7 sc_law.nd (ex_tup (ax_cons (ex_op op_sub (ex_op op_mod (ex_op op_fdivW (ex_var 1 rfl (ex_int (ox_I (h471.2 ht472).1 (ex_int (ox_I (h471.2 ht472).2.1 (ex_int (ox_I0 (ax_cons (ex_op op_add (ex_int (ex_op op_mod (ex_op op_fdivW (ex_var 1 rfl (ex_int (ox_I (h471.2 ht472).2.2.1 (ex_int (ox_I (h471.2 ht472).2.2.2.1 (ox_I0 (ax_nil ⟨Nat.le_of_ble_eq_true rfl, (ss_gen (fun x473 => [some (D.scr v_script), some (iD x11), some ((eL (eT iD iD)) r444), some (rD p97), some ((e_Polynomial T) s204), some ((eL (eN T.C_Fraction)) ys262), some (rD p462), some ((eT iD iD) x473), none, none, none, none, none]) (fun x473 => [(p462, Cell.lst (List.map (fr T.C_Fraction) (r460 ++ [r466]))), (p97, Cell.lst (List.map (eN T.C_Fraction) (List.set (ys95 ++ [(Num.q r418)]) j425 (Num.q r423))))]) (h471.2 ht472).2.2.2.2 (fun x473 h474 => ?_))⟩)))))))))))))))))))))))))
        show SS _ _ [some (D.scr v_script), some (iD x11), some ((eL (eT iD iD)) r444), some (rD p97), some ((e_Polynomial T) s204), some ((eL (eN T.C_Fraction)) ys262), some (rD p462), some ((eT iD iD) x473), none, none, none, none, none] [(p462, Cell.lst (List.map (fr T.C_Fraction) (r460 ++ [r466]))), (p97, Cell.lst (List.map (eN T.C_Fraction) (List.set (ys95 ++ [(Num.q r418)]) j425 (Num.q r423))))] _
        refine (ss_if (tx_not (tx_val (ex_call (ok_L_is T) (hr.mono (by decide)) T.m_L_is T.k_L_is T.kb_L_is_2 (ca_p (ax_cons (ex_callO 4 T.cmpo_Polynomial_call T.fnin_Polynomial_call (ok_Polynomial_call T) (hr.mono (by decide)) T.bb_Polynomial_call rfl (ax_cons (ex_frzO (ex_make T.mk_Fraction (ok_Fraction T) (hr.mono (by decide)) T.mg_Fraction T.kb_Fraction_init_3 (ca_p (ax_cons (ex_ixT (ex_var 7 rfl (ex_int ⟨_, _, _, rfl, rfl, rfl, (ax_cons (ex_ixT (ex_var 7 rfl (ex_int ⟨_, _, _, rfl, rfl, rfl, (ax_nil ⟨[], _, rfl, rfl, rfl, fun x802 => ⟨rfl, ⟨x802, x473.1, x473.2, _, _, rfl, rfl, h474, (fun r508 h509 => ⟨rfl, ⟨_, _, _, _, rfl, rfl, (ax_nil ⟨_, [], _, rfl, rfl, ⟨s204, r508, _, _, rfl, rfl, h509, fun r510 h511 => (ax_cons (ex_call (ok_L_value T) (hr.mono (by decide)) T.m_L_value T.k_L_value T.kb_L_value_2 (ca_p (ax_cons (ex_var 2 rfl (ax_cons (ex_var 7 rfl (ax_nil ⟨[], _, rfl, rfl, rfl, rfl, ⟨r444, x473, _, rfl, rfl, h511, (fun r514 h515 => (ax_nil ⟨[], _, rfl, rfl, rfl, rfl, ⟨r510, r514, _, rfl, rfl, h515, (fun r516 h517 => ⟨_, rfl, ⟨fun ht518 => ?_, fun ht518 => ?_⟩⟩)⟩⟩))⟩⟩)))))))), fun e he => (False.elim he)⟩⟩)⟩⟩), fun e he => (False.elim he)⟩⟩⟩)⟩))))⟩)))))))))))))))
        · show SS _ _ [some (D.scr v_script), some (iD x11), some ((eL (eT iD iD)) r444), some (rD p97), some ((e_Polynomial T) s204), some ((eL (eN T.C_Fraction)) ys262), some (rD p462), some ((eT iD iD) x473), none, none, none, none, none] [(p462, Cell.lst (List.map (fr T.C_Fraction) (r460 ++ [r466]))), (p97, Cell.lst (List.map (eN T.C_Fraction) (List.set (ys95 ++ [(Num.q r418)]) j425 (Num.q r423))))] _
          exact ss_ret (ex_bl (rt_law (h517.1 ht518)))
        · show SS _ _ [some (D.scr v_script), some (iD x11), some ((eL (eT iD iD)) r444), some (rD p97), some ((e_Polynomial T) s204), some ((eL (eN T.C_Fraction)) ys262), some (rD p462), some ((eT iD iD) x473), none, none, none, none, none] [(p462, Cell.lst (List.map (fr T.C_Fraction) (r460 ++ [r466]))), (p97, Cell.lst (List.map (eN T.C_Fraction) (List.set (ys95 ++ [(Num.q r418)]) j425 (Num.q r423))))] _
          refine ss_nil (seq_nx ?_)
          show SS _ _ [some (D.scr v_script), some (iD x11), some ((eL (eT iD iD)) r444), some (rD p97), some ((e_Polynomial T) s204), some ((eL (eN T.C_Fraction)) ys262), some (rD p462), some ((eT iD iD) x473), none, none, none, none, none] [(p462, Cell.lst (List.map (fr T.C_Fraction) (r460 ++ [r466]))), (p97, Cell.lst (List.map (eN T.C_Fraction) (List.set (ys95 ++ [(Num.q r418)]) j425 (Num.q r423))))] _
          refine (ss_if (tx_not (tx_val (ex_call (ok_L_is T) (hr.mono (by decide)) T.m_L_is T.k_L_is T.kb_L_is_2 (ca_p (ax_cons (ex_callO 4 T.cmpo_Polynomial_call T.fnin_Polynomial_call (ok_Polynomial_call_2 T) (hr.mono (by decide)) T.bb_Polynomial_call rfl (ax_cons (ex_ixT (ex_var 7 rfl (ex_int ⟨_, _, _, rfl, rfl, rfl, (ax_nil ⟨_, [], _, rfl, rfl, ⟨s204, x473.1, _, _, rfl, rfl, (h517.2 ht518), fun r531 h532 => (ax_cons (ex_call (ok_L_value T) (hr.mono (by decide)) T.m_L_value T.k_L_value T.kb_L_value_2 (ca_p (ax_cons (ex_var 2 rfl (ax_cons (ex_tup (ax_cons (ex_ixT (ex_var 7 rfl (ex_int ⟨_, _, _, rfl, rfl, rfl, (ax_cons (ex_int (ax_nil ⟨Nat.le_of_ble_eq_true rfl, (ax_nil ⟨[], _, rfl, rfl, rfl, rfl, ⟨r444, (x473.1, (1 : Int)), _, rfl, rfl, h532, (fun r535 h536 => (ax_nil ⟨[], _, rfl, rfl, rfl, rfl, ⟨r531, r535, _, rfl, rfl, h536, (fun r537 h538 => ⟨_, rfl, ⟨fun ht539 => ?_, fun ht539 => ?_⟩⟩)⟩⟩))⟩⟩)⟩)))⟩))))))))))), fun e he => (False.elim he)⟩⟩)⟩)))))))))))
          · show SS _ _ [some (D.scr v_script), some (iD x11), some ((eL (eT iD iD)) r444), some (rD p97), some ((e_Polynomial T) s204), some ((eL (eN T.C_Fraction)) ys262), some (rD p462), some ((eT iD iD) x473), none, none, none, none, none] [(p462, Cell.lst (List.map (fr T.C_Fraction) (r460 ++ [r466]))), (p97, Cell.lst (List.map (eN T.C_Fraction) (List.set (ys95 ++ [(Num.q r418)]) j425 (Num.q r423))))] _
            exact ss_ret (ex_bl (rt_law (h538.1 ht539)))
          · show SS _ _ [some (D.scr v_script), some (iD x11), some ((eL (eT iD iD)) r444), some (rD p97), some ((e_Polynomial T) s204), some ((eL (eN T.C_Fraction)) ys262), some (rD p462), some ((eT iD iD) x473), none, none, none, none, none] [(p462, Cell.lst (List.map (fr T.C_Fraction) (r460 ++ [r466]))), (p97, Cell.lst (List.map (eN T.C_Fraction) (List.set (ys95 ++ [(Num.q r418)]) j425 (Num.q r423))))] _
            refine ss_nil (seq_nx ?_)
            show SS _ _ [some (D.scr v_script), some (iD x11), some ((eL (eT iD iD)) r444), some (rD p97), some ((e_Polynomial T) s204), some ((eL (eN T.C_Fraction)) ys262), some (rD p462), some ((eT iD iD) x473), none, none, none, none, none] [(p462, Cell.lst (List.map (fr T.C_Fraction) (r460 ++ [r466]))), (p97, Cell.lst (List.map (eN T.C_Fraction) (List.set (ys95 ++ [(Num.q r418)]) j425 (Num.q r423))))] _
            refine (ss_if (tx_not (tx_val (ex_call (ok_L_asked T) (hr.mono (by decide)) T.m_L_asked T.k_L_asked T.kb_L_asked_2 (ca_p (ax_cons (ex_negO T.cmpo_Polynomial_neg (ok_Polynomial_neg T) (hr.mono (by decide)) T.bb_Polynomial_neg (ex_var 4 rfl ⟨_, rfl, s204, _, rfl, rfl, (h538.2 ht539), (fun r551 h552 => (ax_cons (ex_frz (ex_lc2 [("_law_pair", 11)] rfl sc_law.nd rfl (show _ = defScope s_law from rfl) (by decide +kernel) (ixp rfl) (fun _ _ _ _ _ => (pg_name (i := 11) sc_law.nd rfl (by first | exact Or.inl rfl | exact Or.inr rfl) (by first | exact Or.inl rfl | exact Or.inr rfl))) (iw_lc (iw_list (ex_var 2 rfl ⟨_, (.fr _), (lcW (α := (Int × Int)) (f := (eT iD iD)) (eT iD iD) (fun s554 : (Unit) => [(p462, Cell.lst (List.map (fr T.C_Fraction) (r460 ++ [r466]))), (p97, Cell.lst (List.map (eN T.C_Fraction) (List.set (ys95 ++ [(Num.q r418)]) j425 (Num.q r423))))]) h552.1 h552.2 rfl (fun _ => (.fr _)) (fun x553 s554 nx555 h556 => ⟨_, (Tgt.name 11), fun _ _ _ _ _ => (ex_tup (ax_cons (ex_un un_neg (ex_ixT (ex_var 11 rfl (ex_int ⟨_, _, _, rfl, rfl, rfl, (ux_neg (ax_cons (ex_ixT (ex_var 11 rfl (ex_int ⟨_, _, _, rfl, rfl, rfl, (ax_nil ⟨Nat.le_of_ble_eq_true rfl, ⟨((-x553.1), x553.2), (), rfl, h556, rfl⟩⟩)⟩)))))⟩))))))⟩) (fun ys557 s554 h558 => fun p559 => ⟨_, _, _, rfl, rfl, (ax_nil ⟨[], _, rfl, rfl, rfl, rfl, ⟨r551, ys557, _, rfl, rfl, h558, (fun r560 h561 => ⟨_, rfl, ⟨fun ht562 => ?_, fun ht562 => ?_⟩⟩)⟩⟩)⟩))⟩)))))))⟩))))))))
            · show SS _ _ [some (D.scr v_script), some (iD x11), some ((eL (eT iD iD)) r444), some (rD p97), some ((e_Polynomial T) s204), some ((eL (eN T.C_Fraction)) ys262), some (rD p462), some ((eT iD iD) x473), none, none, none, none, none] [(p462, Cell.lst (List.map (fr T.C_Fraction) (r460 ++ [r466]))), (p97, Cell.lst (List.map (eN T.C_Fraction) (List.set (ys95 ++ [(Num.q r418)]) j425 (Num.q r423))))] _
              exact ss_ret (ex_bl (rt_law (h561.1 ht562)))
            · show SS _ _ [some (D.scr v_script), some (iD x11), some ((eL (eT iD iD)) r444), some (rD p97), some ((e_Polynomial T) s204), some ((eL (eN T.C_Fraction)) ys262), some (rD p462), some ((eT iD iD) x473), none, none, none, none, none] [(p462, Cell.lst (List.map (fr T.C_Fraction) (r460 ++ [r466]))), (p97, Cell.lst (List.map (eN T.C_Fraction) (List.set (ys95 ++ [(Num.q r418)]) j425 (Num.q r423))))] _
              refine ss_nil (seq_nx ?_)
              show SS _ _ [some (D.scr v_script), some (iD x11), some ((eL (eT iD iD)) r444), some (rD p97), some ((e_Polynomial T) s204), some ((eL (eN T.C_Fraction)) ys262), some (rD p462), some ((eT iD iD) x473), none, none, none, none, none] [(p462, Cell.lst (List.map (fr T.C_Fraction) (r460 ++ [r466]))), (p97, Cell.lst (List.map (eN T.C_Fraction) (List.set (ys95 ++ [(Num.q r418)]) j425 (Num.q r423))))] _
              refine (ss_lc2 8 [("_law_pair", 11)] rfl sc_law.nd rfl (show _ = defScope s_law from rfl) (by decide +kernel) (ixp rfl) (fun _ _ _ _ _ => (pg_name (i := 11) sc_law.nd rfl (by first | exact Or.inl rfl | exact Or.inr rfl) (by first | exact Or.inl rfl | exact Or.inr rfl))) (iw_lc (iw_list (ex_var 2 rfl ⟨_, (.fr _), (lcW (α := (Int × Int)) (f := (eT iD iD)) (eT iD iD) (fun s564 : (Unit) => [(p462, Cell.lst (List.map (fr T.C_Fraction) (r460 ++ [r466]))), (p97, Cell.lst (List.map (eN T.C_Fraction) (List.set (ys95 ++ [(Num.q r418)]) j425 (Num.q r423))))]) (h561.2 ht562).1 (h561.2 ht562).2 rfl (fun _ => (.fr _)) (fun x563 s564 nx565 h566 => ⟨_, (Tgt.name 11), fun _ _ _ _ _ => (ex_tup (ax_cons (ex_op op_mulW (ex_ixT (ex_var 11 rfl (ex_int ⟨_, _, _, rfl, rfl, rfl, (ex_ixT (ex_var 7 rfl (ex_int ⟨_, _, _, rfl, rfl, rfl, (ox_I h566.1 (ax_cons (ex_op op_mulW (ex_ixT (ex_var 11 rfl (ex_int ⟨_, _, _, rfl, rfl, rfl, (ex_ixT (ex_var 7 rfl (ex_int ⟨_, _, _, rfl, rfl, rfl, (ox_I h566.2.1 (ax_nil ⟨Nat.le_of_ble_eq_true rfl, ⟨((x563.1 * x473.1), (x563.2 * x473.2)), (), rfl, h566.2.2, rfl⟩⟩))⟩)))⟩))))))⟩)))⟩))))))⟩) (fun ys567 s564 h568 => fun p569 => ?_))⟩))))
              refine ss_frz 8 rfl ?_
              show SS _ _ [some (D.scr v_script), some (iD x11), some ((eL (eT iD iD)) r444), some (rD p97), some ((e_Polynomial T) s204), some ((eL (eN T.C_Fraction)) ys262), some (rD p462), some ((eT iD iD) x473), some ((eL (eT iD iD)) ys567), none, none, none, none] [(p462, Cell.lst (List.map (fr T.C_Fraction) (r460 ++ [r466]))), (p97, Cell.lst (List.map (eN T.C_Fraction) (List.set (ys95 ++ [(Num.q r418)]) j425 (Num.q r423))))] _
              refine (ss_if (tx_not (tx_val (ex_call (ok_L_asked T) (hr.mono (by decide)) T.m_L_asked T.k_L_asked T.kb_L_asked_2 (ca_p (ax_cons (ex_meth T.cls_Polynomial T.me_Polynomial_scaled (ok_Polynomial_scaled T) (hr.mono (by decide)) T.kb_Polynomial_scaled_2 (ex_var 4 rfl ⟨_, .fr _ _, rfl, (ca_p (ax_cons (ex_frzO (ex_make T.mk_Fraction (ok_Fraction T) (hr.mono (by decide)) T.mg_Fraction T.kb_Fraction_init_3 (ca_p (ax_cons (ex_ixT (ex_var 7 rfl (ex_int ⟨_, _, _, rfl, rfl, rfl, (ax_cons (ex_ixT (ex_var 7 rfl (ex_int ⟨_, _, _, rfl, rfl, rfl, (ax_nil ⟨[], _, rfl, rfl, rfl, fun x801 => ⟨rfl, ⟨x801, x473.1, x473.2, _, _, rfl, rfl, h568, (fun r605 h606 => ⟨rfl, ⟨_, _, _, _, rfl, rfl, (ax_nil ⟨[], _, rfl, rfl, rfl, rfl, ⟨s204, r605, _, rfl, rfl, h606, (fun r607 h608 => (ax_cons (ex_frz (ex_call (ok_L_cut T) (hr.mono (by decide)) T.m_L_cut T.k_L_cut T.kb_L_cut_1 (ca_p (ax_cons (ex_var 8 rfl (ax_nil ⟨[], _, rfl, rfl, rfl, rfl, ⟨ys567, _, rfl, rfl, h608, (fun r612 h613 p614 => ⟨_, _, _, rfl, rfl, (ax_nil ⟨[], _, rfl, rfl, rfl, rfl, ⟨r607, r612, _, rfl, rfl, h613, (fun r615 h616 => ⟨_, rfl, ⟨fun ht617 => ?_, fun ht617 => ?_⟩⟩)⟩⟩)⟩)⟩⟩))))))))⟩⟩)⟩⟩), fun e he => (False.elim he)⟩⟩⟩)⟩))))⟩)))))))))⟩))))))))
              · show SS _ _ [some (D.scr v_script), some (iD x11), some ((eL (eT iD iD)) r444), some (rD p97), some ((e_Polynomial T) s204), some ((eL (eN T.C_Fraction)) ys262), some (rD p462), some ((eT iD iD) x473), some ((eL (eT iD iD)) ys567), none, none, none, none] [(p462, Cell.lst (List.map (fr T.C_Fraction) (r460 ++ [r466]))), (p97, Cell.lst (List.map (eN T.C_Fraction) (List.set (ys95 ++ [(Num.q r418)]) j425 (Num.q r423))))] _
                exact ss_ret (ex_bl (rt_law (h616.1 ht617)))
              · show SS _ _ [some (D.scr v_script), some (iD x11), some ((eL (eT iD iD)) r444), some (rD p97), some ((e_Polynomial T) s204), some ((eL (eN T.C_Fraction)) ys262), some (rD p462), some ((eT iD iD) x473), some ((eL (eT iD iD)) ys567), none, none, none, none] [(p462, Cell.lst (List.map (fr T.C_Fraction) (r460 ++ [r466]))), (p97, Cell.lst (List.map (eN T.C_Fraction) (List.set (ys95 ++ [(Num.q r418)]) j425 (Num.q r423))))] _
                refine ss_nil (seq_nx ?_)
                show SS _ _ [some (D.scr v_script), some (iD x11), some ((eL (eT iD iD)) r444), some (rD p97), some ((e_Polynomial T) s204), some ((eL (eN T.C_Fraction)) ys262), some (rD p462), some ((eT iD iD) x473), some ((eL (eT iD iD)) ys567), none, none, none, none] [(p462, Cell.lst (List.map (fr T.C_Fraction) (r460 ++ [r466]))), (p97, Cell.lst (List.map (eN T.C_Fraction) (List.set (ys95 ++ [(Num.q r418)]) j425 (Num.q r423))))] _
                refine (ss_asg 9 sc_law.nd (ex_op op_mod (ex_op op_fdivW (ex_var 1 rfl (ex_int (ox_I (h616.2 ht617).1 (ex_int (ox_I (h616.2 ht617).2.1 (ss_gen (fun x618 => [some (D.scr v_script), some (iD x11), some ((eL (eT iD iD)) r444), some (rD p97), some ((e_Polynomial T) s204), some ((eL (eN T.C_Fraction)) ys262), some (rD p462), some ((eT iD iD) x473), some ((eL (eT iD iD)) ys567), some (iD x618), none, none, none]) (fun x618 => [(p462, Cell.lst (List.map (fr T.C_Fraction) (r460 ++ [r466]))), (p97, Cell.lst (List.map (eN T.C_Fraction) (List.set (ys95 ++ [(Num.q r418)]) j425 (Num.q r423))))]) (h616.2 ht617).2.2 (fun x618 h619 => ?_))))))))))
                show SS _ _ [some (D.scr v_script), some (iD x11), some ((eL (eT iD iD)) r444), some (rD p97), some ((e_Polynomial T) s204), some ((eL (eN T.C_Fraction)) ys262), some (rD p462), some ((eT iD iD) x473), some ((eL (eT iD iD)) ys567), some (iD x618), none, none, none] [(p462, Cell.lst (List.map (fr T.C_Fraction) (r460 ++ [r466]))), (p97, Cell.lst (List.map (eN T.C_Fraction) (List.set (ys95 ++ [(Num.q r418)]) j425 (Num.q r423))))] _
                refine (ss_forW iD rfl (pg_name (i := 10) sc_law.nd rfl (by first | exact Or.inl rfl | exact Or.inr rfl)) (fun (s622 : Unit) Γ0 Ω0 => ∃ j621 : Option D, Γ0 = [some (D.scr v_script), some (iD x11), some ((eL (eT iD iD)) r444), some (rD p97), some ((e_Polynomial T) s204), some ((eL (eN T.C_Fraction)) ys262), some (rD p462), some ((eT iD iD) x473), some ((eL (eT iD iD)) ys567), some (iD x618), j621, none, none] ∧ Ω0 = [(p462, Cell.lst (List.map (fr T.C_Fraction) (r460 ++ [r466]))), (p97, Cell.lst (List.map (eN T.C_Fraction) (List.set (ys95 ++ [(Num.q r418)]) j425 (Num.q r423))))]) (iw_list (ex_frz (ex_lst (ax_cons (ex_var 9 rfl (ax_cons (ex_op op_sub (ex_int (ex_var 9 rfl (ox_I0 (ax_cons (ex_var 9 rfl (ax_nil ⟨Nat.le_of_ble_eq_true rfl, fun p620 => ⟨_, _, _, rfl, rfl, ⟨_, (.fr _), ⟨_, _, _, h619, ⟨_, rfl, rfl⟩, (fun s Γ Ω ⟨_, e1, e2⟩ => e2 ▸ (.fr _)), ?_, ?_⟩⟩⟩⟩))))))))))))))
                · intro x623 s622 Γ9 Ω9 nx624 i9 h625
                  obtain ⟨j621, rfl, rfl⟩ := i9
                  refine ⟨_, _, (Tgt.name 10), ix_all rfl, ?_⟩
                  show SS _ _ [some (D.scr v_script), some (iD x11), some ((eL (eT iD iD)) r444), some (rD p97), some ((e_Polynomial T) s204), some ((eL (eN T.C_Fraction)) ys262), some (rD p462), some ((eT iD iD) x473), some ((eL (eT iD iD)) ys567), some (iD x618), some (iD x623), none, none] [(p462, Cell.lst (List.map (fr T.C_Fraction) (r460 ++ [r466]))), (p97, Cell.lst (List.map (eN T.C_Fraction) (List.set (ys95 ++ [(Num.q r418)]) j425 (Num.q r423))))] _
                  refine (ss_if (tx_not (tx_val (ex_call (ok_L_asked T) (hr.mono (by decide)) T.m_L_asked T.k_L_asked T.kb_L_asked_2 (ca_p (ax_cons (ex_meth T.cls_Polynomial T.me_Polynomial_raised (ok_Polynomial_raised T) (hr.mono (by decide)) T.kb_Polynomial_raised_2 (ex_var 4 rfl ⟨_, .fr _ _, rfl, (ca_p (ax_cons (ex_var 10 rfl (ax_nil ⟨[], _, rfl, rfl, rfl, rfl, ⟨s204, x623, _, rfl, rfl, h625, (fun r647 h648 => (ax_cons (ex_frz (ex_call (ok_L_cut T) (hr.mono (by decide)) T.m_L_cut T.k_L_cut T.kb_L_cut_1 (ca_p (ax_cons (ex_frz (ex_op op_cat (ex_frz (ex_repT (ex_tup (ax_cons (ex_int (ax_cons (ex_int (ax_nil ⟨Nat.le_of_ble_eq_true rfl, (ex_var 10 rfl ⟨(eT iD iD), ((0 : Int), (1 : Int)), _, rfl, rfl, h648.1.2, h648.1.1, fun p654 => ⟨_, _, _, rfl, rfl, (ex_var 2 rfl (ox_catT (f := (eT iD iD)) (.fr _) (.fr _) h648.2.1 fun p655 => ⟨_, _, _, rfl, rfl, (ax_nil ⟨[], _, rfl, rfl, rfl, rfl, ⟨((List.replicate x623.toNat ((0 : Int), (1 : Int))) ++ r444), _, rfl, rfl, h648.2.2, (fun r656 h657 p658 => ⟨_, _, _, rfl, rfl, (ax_nil ⟨[], _, rfl, rfl, rfl, rfl, ⟨r647, r656, _, rfl, rfl, h657, (fun r659 h660 => ⟨_, rfl, ⟨fun ht661 => ?_, fun ht661 => ?_⟩⟩)⟩⟩)⟩)⟩⟩)⟩))⟩⟩)⟩))))))))))))))))⟩⟩))))⟩))))))))
                  · show SS _ _ [some (D.scr v_script), some (iD x11), some ((eL (eT iD iD)) r444), some (rD p97), some ((e_Polynomial T) s204), some ((eL (eN T.C_Fraction)) ys262), some (rD p462), some ((eT iD iD) x473), some ((eL (eT iD iD)) ys567), some (iD x618), some (iD x623), none, none] [(p462, Cell.lst (List.map (fr T.C_Fraction) (r460 ++ [r466]))), (p97, Cell.lst (List.map (eN T.C_Fraction) (List.set (ys95 ++ [(Num.q r418)]) j425 (Num.q r423))))] _
                    exact ss_ret (ex_bl (rt_law (h660.1 ht661)))
                  · show SS _ _ [some (D.scr v_script), some (iD x11), some ((eL (eT iD iD)) r444), some (rD p97), some ((e_Polynomial T) s204), some ((eL (eN T.C_Fraction)) ys262), some (rD p462), some ((eT iD iD) x473), some ((eL (eT iD iD)) ys567), some (iD x618), some (iD x623), none, none] [(p462, Cell.lst (List.map (fr T.C_Fraction) (r460 ++ [r466]))), (p97, Cell.lst (List.map (eN T.C_Fraction) (List.set (ys95 ++ [(Num.q r418)]) j425 (Num.q r423))))] _
                    refine ss_nil (seq_nx ?_)
                    show SS _ _ [some (D.scr v_script), some (iD x11), some ((eL (eT iD iD)) r444), some (rD p97), some ((e_Polynomial T) s204), some ((eL (eN T.C_Fraction)) ys262), some (rD p462), some ((eT iD iD) x473), some ((eL (eT iD iD)) ys567), some (iD x618), some (iD x623), none, none] [(p462, Cell.lst (List.map (fr T.C_Fraction) (r460 ++ [r466]))), (p97, Cell.lst (List.map (eN T.C_Fraction) (List.set (ys95 ++ [(Num.q r418)]) j425 (Num.q r423))))] _
                    exact ss_nil (Exists.intro () (And.intro (h660.2 ht661) ⟨_, rfl, rfl⟩))
                · intro s622 Γ9 Ω9 i9 h626
                  obtain ⟨j621, rfl, rfl⟩ := i9
                  show SS _ _ [some (D.scr v_script), some (iD x11), some ((eL (eT iD iD)) r444), some (rD p97), some ((e_Polynomial T) s204), some ((eL (eN T.C_Fraction)) ys262), some (rD p462), some ((eT iD iD) x473), some ((eL (eT iD iD)) ys567), some (iD x618), j621, none, none] [(p462, Cell.lst (List.map (fr T.C_Fraction) (r460 ++ [r466]))), (p97, Cell.lst (List.map (eN T.C_Fraction) (List.set (ys95 ++ [(Num.q r418)]) j425 (Num.q r423))))] _
                  refine (ss_lc2 8 [("_law_pair", 11)] rfl sc_law.nd rfl (show _ = defScope s_law from rfl) (by decide +kernel) (ixp rfl) (fun _ _ _ _ _ => (pg_name (i := 11) sc_law.nd rfl (by first | exact Or.inl rfl | exact Or.inr rfl) (by first | exact Or.inl rfl | exact Or.inr rfl))) (iw_lc (iw_list (ex_var 2 rfl ⟨_, (.fr _), (lcW (α := (Int × Int)) (f := (eT iD iD)) (eT iD iD) (fun s663 : (Unit) => [(p462, Cell.lst (List.map (fr T.C_Fraction) (r460 ++ [r466]))), (p97, Cell.lst (List.map (eN T.C_Fraction) (List.set (ys95 ++ [(Num.q r418)]) j425 (Num.q r423))))]) h626.1 h626.2 rfl (fun _ => (.fr _)) (fun x662 s663 nx664 h665 => ⟨_, (Tgt.name 11), fun _ _ _ _ _ => (ex_tup (ax_cons (ex_op op_mulW (ex_ixT (ex_var 11 rfl (ex_int ⟨_, _, _, rfl, rfl, rfl, (ex_var 9 rfl (ox_I h665.1 (ax_cons (ex_ixT (ex_var 11 rfl (ex_int ⟨_, _, _, rfl, rfl, rfl, (ax_nil ⟨Nat.le_of_ble_eq_true rfl, ⟨((x662.1 * x618), x662.2), (), rfl, h665.2, rfl⟩⟩)⟩))))))⟩))))))⟩) (fun ys666 s663 h667 => fun p668 => ?_))⟩))))
                  refine ss_frz 8 rfl ?_
                  show SS _ _ [some (D.scr v_script), some (iD x11), some ((eL (eT iD iD)) r444), some (rD p97), some ((e_Polynomial T) s204), some ((eL (eN T.C_Fraction)) ys262), some (rD p462), some ((eT iD iD) x473), some ((eL (eT iD iD)) ys666), some (iD x618), j621, none, none] [(p462, Cell.lst (List.map (fr T.C_Fraction) (r460 ++ [r466]))), (p97, Cell.lst (List.map (eN T.C_Fraction) (List.set (ys95 ++ [(Num.q r418)]) j425 (Num.q r423))))] _
                  refine (ss_if (tx_not (tx_val (ex_call (ok_L_asked T) (hr.mono (by decide)) T.m_L_asked T.k_L_asked T.kb_L_asked_2 (ca_p (ax_cons (ex_meth T.cls_Polynomial T.me_Polynomial_scaled (ok_Polynomial_scaled_2 T) (hr.mono (by decide)) T.kb_Polynomial_scaled_2 (ex_var 4 rfl ⟨_, .fr _ _, rfl, (ca_p (ax_cons (ex_var 9 rfl (ax_nil ⟨[], _, rfl, rfl, rfl, rfl, ⟨s204, x618, _, _, rfl, rfl, h667, (fun r683 h684 => (ax_cons (ex_frz (ex_call (ok_L_cut T) (hr.mono (by decide)) T.m_L_cut T.k_L_cut T.kb_L_cut_1 (ca_p (ax_cons (ex_var 8 rfl (ax_nil ⟨[], _, rfl, rfl, rfl, rfl, ⟨ys666, _, rfl, rfl, h684, (fun r688 h689 p690 => ⟨_, _, _, rfl, rfl, (ax_nil ⟨[], _, rfl, rfl, rfl, rfl, ⟨r683, r688, _, rfl, rfl, h689, (fun r691 h692 => ⟨_, rfl, ⟨fun ht693 => ?_, fun ht693 => ?_⟩⟩)⟩⟩)⟩)⟩⟩)))))))), fun e he => (False.elim he)⟩⟩))))⟩))))))))
                  · show SS _ _ [some (D.scr v_script), some (iD x11), some ((eL (eT iD iD)) r444), some (rD p97), some ((e_Polynomial T) s204), some ((eL (eN T.C_Fraction)) ys262), some (rD p462), some ((eT iD iD) x473), some ((eL (eT iD iD)) ys666), some (iD x618), j621, none, none] [(p462, Cell.lst (List.map (fr T.C_Fraction) (r460 ++ [r466]))), (p97, Cell.lst (List.map (eN T.C_Fraction) (List.set (ys95 ++ [(Num.q r418)]) j425 (Num.q r423))))] _
                    exact ss_ret (ex_bl (rt_law (h692.1 ht693)))
                  · show SS _ _ [some (D.scr v_script), some (iD x11), some ((eL (eT iD iD)) r444), some (rD p97), some ((e_Polynomial T) s204), some ((eL (eN T.C_Fraction)) ys262), some (rD p462), some ((eT iD iD) x473), some ((eL (eT iD iD)) ys666), some (iD x618), j621, none, none] [(p462, Cell.lst (List.map (fr T.C_Fraction) (r460 ++ [r466]))), (p97, Cell.lst (List.map (eN T.C_Fraction) (List.set (ys95 ++ [(Num.q r418)]) j425 (Num.q r423))))] _
                    refine ss_nil (seq_nx ?_)
                    show SS _ _ [some (D.scr v_script), some (iD x11), some ((eL (eT iD iD)) r444), some (rD p97), some ((e_Polynomial T) s204), some ((eL (eN T.C_Fraction)) ys262), some (rD p462), some ((eT iD iD) x473), some ((eL (eT iD iD)) ys666), some (iD x618), j621, none, none] [(p462, Cell.lst (List.map (fr T.C_Fraction) (r460 ++ [r466]))), (p97, Cell.lst (List.map (eN T.C_Fraction) (List.set (ys95 ++ [(Num.q r418)]) j425 (Num.q r423))))] _
                    refine (ss_if (tx_not (tx_val (ex_call (ok_L_asked T) (hr.mono (by decide)) T.m_L_asked T.k_L_asked T.kb_L_asked_2 (ca_p (ax_cons (ex_smeth T.sm_Polynomial_power (ok_Polynomial_power T) (hr.mono (by decide)) T.kb_Polynomial_power_1 (ex_glob T.mg_Polynomial (v := .ref T.C_Polynomial) rfl ⟨rfl, (ca_p (ax_cons (ex_var 9 rfl (ax_nil ⟨[], _, rfl, rfl, rfl, rfl, ⟨x618, _, rfl, rfl, (h692.2 ht693), (fun r705 h706 => (ax_cons (ex_frz (ex_op op_cat (ex_frz (ex_repT (ex_tup (ax_cons (ex_int (ax_cons (ex_int (ax_nil ⟨Nat.le_of_ble_eq_true rfl, (ex_var 9 rfl ⟨(eT iD iD), ((0 : Int), (1 : Int)), _, rfl, rfl, h706.1.2, h706.1.1, fun p707 => ⟨_, _, _, rfl, rfl, (ex_frz (ex_lst (ax_cons (ex_tup (ax_cons (ex_int (ax_cons (ex_int (ax_nil ⟨Nat.le_of_ble_eq_true rfl, (ax_nil ⟨Nat.le_of_ble_eq_true rfl, fun p708 => ⟨_, _, _, rfl, rfl, (ox_catT (f := (eT iD iD)) (.fr _) (.fr _) h706.2.1 fun p709 => ⟨_, _, _, rfl, rfl, (ax_nil ⟨[], _, rfl, rfl, rfl, rfl, ⟨r705, ((List.replicate x618.toNat ((0 : Int), (1 : Int))) ++ ([((1 : Int), (1 : Int))] : List (Int × Int))), _, rfl, rfl, h706.2.2, (fun r710 h711 => ⟨_, rfl, ⟨fun ht712 => ?_, fun ht712 => ?_⟩⟩)⟩⟩)⟩)⟩⟩)⟩)))))))))⟩⟩)⟩))))))))))))⟩⟩))))⟩))))))))
                    · show SS _ _ [some (D.scr v_script), some (iD x11), some ((eL (eT iD iD)) r444), some (rD p97), some ((e_Polynomial T) s204), some ((eL (eN T.C_Fraction)) ys262), some (rD p462), some ((eT iD iD) x473), some ((eL (eT iD iD)) ys666), some (iD x618), j621, none, none] [(p462, Cell.lst (List.map (fr T.C_Fraction) (r460 ++ [r466]))), (p97, Cell.lst (List.map (eN T.C_Fraction) (List.set (ys95 ++ [(Num.q r418)]) j425 (Num.q r423))))] _
                      exact ss_ret (ex_bl (rt_law (h711.1 ht712)))
                    · show SS _ _ [some (D.scr v_script), some (iD x11), some ((eL (eT iD iD)) r444), some (rD p97), some ((e_Polynomial T) s204), some ((eL (eN T.C_Fraction)) ys262), some (rD p462), some ((eT iD iD) x473), some ((eL (eT iD iD)) ys666), some (iD x618), j621, none, none] [(p462, Cell.lst (List.map (fr T.C_Fraction) (r460 ++ [r466]))), (p97, Cell.lst (List.map (eN T.C_Fraction) (List.set (ys95 ++ [(Num.q r418)]) j425 (Num.q r423))))] _
                      refine ss_nil (seq_nx ?_)
                      show SS _ _ [some (D.scr v_script), some (iD x11), some ((eL (eT iD iD)) r444), some (rD p97), some ((e_Polynomial T) s204), some ((eL (eN T.C_Fraction)) ys262), some (rD p462), some ((eT iD iD) x473), some ((eL (eT iD iD)) ys666), some (iD x618), j621, none, none] [(p462, Cell.lst (List.map (fr T.C_Fraction) (r460 ++ [r466]))), (p97, Cell.lst (List.map (eN T.C_Fraction) (List.set (ys95 ++ [(Num.q r418)]) j425 (Num.q r423))))] _
                      exact ss_ret (ex_andK [(p462, Cell.lst (List.map (fr T.C_Fraction) (r460 ++ [r466]))), (p97, Cell.lst (List.map (eN T.C_Fraction) (List.set (ys95 ++ [(Num.q r418)]) j425 (Num.q r423))))] (h711.2 ht712) (fun h714 => (ex_call (ok_L_asked T) (hr.mono (by decide)) T.m_L_asked T.k_L_asked T.kb_L_asked_2 (ca_p (ax_cons (ex_frzO (ex_make T.mk_Polynomial (ok_Polynomial_init_3 T) (hr.mono (by decide)) T.mg_Polynomial T.kb_Polynomial_init_1 (ca_0 ⟨[], _, rfl, rfl, rfl, fun x800 => ⟨rfl, ⟨x800, (), _, rfl, rfl, h714, (fun r721 h722 => ⟨rfl, ⟨_, _, _, _, rfl, rfl, (ax_cons (ex_frz (ex_lst (ax_nil ⟨Nat.le_of_ble_eq_true rfl, fun p723 => ⟨_, _, _, rfl, rfl, (ax_nil ⟨[], _, rfl, rfl, rfl, rfl, ⟨r721, ([] : List (Int × Int)), _, rfl, rfl, h722, (fun r724 h725 => ⟨_, rfl, fun ht715 => (ex_andK [(p462, Cell.lst (List.map (fr T.C_Fraction) (r460 ++ [r466]))), (p97, Cell.lst (List.map (eN T.C_Fraction) (List.set (ys95 ++ [(Num.q r418)]) j425 (Num.q r423))))] (h725.1 ht715) (fun h727 => (ex_call (ok_L_asked T) (hr.mono (by decide)) T.m_L_asked T.k_L_asked T.kb_L_asked_2 (ca_p (ax_cons (ex_var 4 rfl (ax_cons (ex_var 2 rfl (ax_nil ⟨[], _, rfl, rfl, rfl, rfl, ⟨s204, r444, _, rfl, rfl, h727, (fun r731 h732 => ⟨_, rfl, fun ht728 => (ex_one (ex_not (ex_cmp (cmp_own (fun _ _ => rfl) T.cmpo_Polynomial_eq (ok_Polynomial_eq T) (hr.mono (by decide)) T.bb_Polynomial_eq passF) (ex_var 4 rfl (ex_frzO (ex_make T.mk_Polynomial (ok_Polynomial_init_5 T) (hr.mono (by decide)) T.mg_Polynomial T.kb_Polynomial_init_2 (ca_p (ax_cons (ex_frz (ex_op op_cat (ex_var 3 rfl (ex_frz (ex_lst (ax_cons (ex_int (ax_nil ⟨Nat.le_of_ble_eq_true rfl, fun p781 => ⟨_, _, _, rfl, rfl, (ox_catT (f := (eN T.C_Fraction)) (.ow 1 rfl) (LstAt.co (f := iD) (xs := ([(1 : Int)] : List Int)) (.fr _) (fun _ => rfl)) (h732.1 ht728).1 fun p782 => ⟨_, _, _, rfl, rfl, (ax_nil ⟨[], _, rfl, rfl, rfl, fun x799 => ⟨rfl, ⟨x799, ((List.set (ys95 ++ [(Num.q r418)]) j425 (Num.q r423)) ++ (List.map Num.i ([(1 : Int)] : List Int))), _, rfl, rfl, (h732.1 ht728).2, (fun r783 h784 => ⟨rfl, ⟨_, _, _, _, rfl, rfl, (ox_own ⟨s204, r783, _, rfl, rfl, h784, fun r797 h798 => ⟨_, rfl, ⟨_, rfl, rfl, h798⟩⟩⟩)⟩⟩)⟩⟩⟩)⟩)⟩⟩)))))))))))))))), fun ht728 => ⟨rfl, h732.2 ht728⟩⟩)⟩⟩)))))))) (fun b729 h730 => ⟨_, rfl, rfl, h730⟩)), fun ht715 => ⟨rfl, h725.2 ht715⟩⟩)⟩⟩)⟩⟩))))⟩⟩)⟩⟩⟩))))))) (fun b716 h717 => (rt_law h717)))
end
end Law

set_option exponentiation.threshold 10000
namespace Law
open PySem L2 Evl Trk Sy
theorem den_tup0 {K : PySem.W.Frag} {F : Hp} {A : Addr} {od : Option Addr} {n : Nat} {sl : Array (Option Value)} (e : K.lookup A = some ⟨.type "tuple", od, .seq #[] n, sl⟩) : Den K F (.tup []) (.ref A) := by
  simp only [Den, DenL]
  exact ⟨A, [], rfl, .inr ⟨_, _, _, e, rfl, rfl, Nat.zero_le _, .nil⟩, rfl⟩
theorem all_mk {l : PySem.W.OpenLaw} {w : World} {K : PySem.W.Frag} {h : Heap} {mg : Str → Option Value} {fa : Addr} (X : K.In h) (G : h.Ns mainGlobals mg) (hfa : mg "law" = some (.ref fa))
    {C_Fraction C_Polynomial C_BadFraction : Addr}
    {pp_Polynomial_degree pp_Polynomial_power : Addr}
    {f_L_cell : Addr} {od_L_cell an_L_cell : Option Addr} {sl_L_cell : Array (Option Value)} {oc_L_cell kV_L_cell dc_L_cell pm_L_cell cd_L_cell ct_L_cell : Value}
    {f_L_row : Addr} {od_L_row an_L_row : Option Addr} {sl_L_row : Array (Option Value)} {oc_L_row kV_L_row dc_L_row pm_L_row cd_L_row ct_L_row : Value}
    {f_L_top : Addr} {od_L_top an_L_top : Option Addr} {sl_L_top : Array (Option Value)} {oc_L_top kV_L_top dc_L_top pm_L_top cd_L_top ct_L_top : Value}
    {f_L_pairs : Addr} {od_L_pairs an_L_pairs : Option Addr} {sl_L_pairs : Array (Option Value)} {oc_L_pairs kV_L_pairs dc_L_pairs pm_L_pairs cd_L_pairs ct_L_pairs : Value}
    {f_Fraction_init : Addr} {od_Fraction_init an_Fraction_init : Option Addr} {sl_Fraction_init : Array (Option Value)} {oc_Fraction_init kV_Fraction_init dc_Fraction_init pm_Fraction_init cd_Fraction_init ct_Fraction_init : Value}
    {T_Fraction_init : Addr} {ocT_Fraction_init : Value} {odT_Fraction_init : Option Addr} {nT_Fraction_init : Nat} {slT_Fraction_init : Array (Option Value)} {tk_Fraction_init_0 : Tok}
    {f_L_handed : Addr} {od_L_handed an_L_handed : Option Addr} {sl_L_handed : Array (Option Value)} {oc_L_handed kV_L_handed dc_L_handed pm_L_handed cd_L_handed ct_L_handed : Value}
    {f_as_fraction : Addr} {od_as_fraction an_as_fraction : Option Addr} {sl_as_fraction : Array (Option Value)} {oc_as_fraction kV_as_fraction dc_as_fraction pm_as_fraction cd_as_fraction ct_as_fraction : Value}
    {f_Fraction_bool : Addr} {od_Fraction_bool an_Fraction_bool : Option Addr} {sl_Fraction_bool : Array (Option Value)} {oc_Fraction_bool kV_Fraction_bool dc_Fraction_bool pm_Fraction_bool cd_Fraction_bool ct_Fraction_bool : Value}
    {f_common_bottom : Addr} {od_common_bottom an_common_bottom : Option Addr} {sl_common_bottom : Array (Option Value)} {oc_common_bottom kV_common_bottom dc_common_bottom pm_common_bottom cd_common_bottom ct_common_bottom : Value}
    {f_over_bottom : Addr} {od_over_bottom an_over_bottom : Option Addr} {sl_over_bottom : Array (Option Value)} {oc_over_bottom kV_over_bottom dc_over_bottom pm_over_bottom cd_over_bottom ct_over_bottom : Value}
    {f_Polynomial_init : Addr} {od_Polynomial_init an_Polynomial_init : Option Addr} {sl_Polynomial_init : Array (Option Value)} {oc_Polynomial_init kV_Polynomial_init dc_Polynomial_init pm_Polynomial_init cd_Polynomial_init ct_Polynomial_init : Value}
    {T_Polynomial_init : Addr} {ocT_Polynomial_init : Value} {odT_Polynomial_init : Option Addr} {nT_Polynomial_init : Nat} {slT_Polynomial_init : Array (Option Value)}
    {TU_Polynomial_init_0 : Addr} {odTU_Polynomial_init_0 : Option Addr} {nTU_Polynomial_init_0 : Nat} {slTU_Polynomial_init_0 : Array (Option Value)}
    {f_Fraction_eq : Addr} {od_Fraction_eq an_Fraction_eq : Option Addr} {sl_Fraction_eq : Array (Option Value)} {oc_Fraction_eq kV_Fraction_eq dc_Fraction_eq pm_Fraction_eq cd_Fraction_eq ct_Fraction_eq : Value}
    {f_is_number : Addr} {od_is_number an_is_number : Option Addr} {sl_is_number : Array (Option Value)} {oc_is_number kV_is_number dc_is_number pm_is_number cd_is_number ct_is_number : Value}
    {f_order : Addr} {od_order an_order : Option Addr} {sl_order : Array (Option Value)} {oc_order kV_order dc_order pm_order cd_order ct_order : Value}
    {f_L_cut : Addr} {od_L_cut an_L_cut : Option Addr} {sl_L_cut : Array (Option Value)} {oc_L_cut kV_L_cut dc_L_cut pm_L_cut cd_L_cut ct_L_cut : Value}
    {f_Polynomial_coefficients : Addr} {od_Polynomial_coefficients an_Polynomial_coefficients : Option Addr} {sl_Polynomial_coefficients : Array (Option Value)} {oc_Polynomial_coefficients kV_Polynomial_coefficients dc_Polynomial_coefficients pm_Polynomial_coefficients cd_Polynomial_coefficients ct_Polynomial_coefficients : Value}
    {f_Polynomial_degree : Addr} {od_Polynomial_degree an_Polynomial_degree : Option Addr} {sl_Polynomial_degree : Array (Option Value)} {oc_Polynomial_degree kV_Polynomial_degree dc_Polynomial_degree pm_Polynomial_degree cd_Polynomial_degree ct_Polynomial_degree : Value}
    {rst_Polynomial_degree : List Value}
    {f_Polynomial_len : Addr} {od_Polynomial_len an_Polynomial_len : Option Addr} {sl_Polynomial_len : Array (Option Value)} {oc_Polynomial_len kV_Polynomial_len dc_Polynomial_len pm_Polynomial_len cd_Polynomial_len ct_Polynomial_len : Value}
    {f_L_is : Addr} {od_L_is an_L_is : Option Addr} {sl_L_is : Array (Option Value)} {oc_L_is kV_L_is dc_L_is pm_L_is cd_L_is ct_L_is : Value}
    {f_L_list : Addr} {od_L_list an_L_list : Option Addr} {sl_L_list : Array (Option Value)} {oc_L_list kV_L_list dc_L_list pm_L_list cd_L_list ct_L_list : Value}
    {f_Polynomial_getitem : Addr} {od_Polynomial_getitem an_Polynomial_getitem : Option Addr} {sl_Polynomial_getitem : Array (Option Value)} {oc_Polynomial_getitem kV_Polynomial_getitem dc_Polynomial_getitem pm_Polynomial_getitem cd_Polynomial_getitem ct_Polynomial_getitem : Value}
    {f_L_asked : Addr} {od_L_asked an_L_asked : Option Addr} {sl_L_asked : Array (Option Value)} {oc_L_asked kV_L_asked dc_L_asked pm_L_asked cd_L_asked ct_L_asked : Value}
    {f_Polynomial_call : Addr} {od_Polynomial_call an_Polynomial_call : Option Addr} {sl_Polynomial_call : Array (Option Value)} {oc_Polynomial_call kV_Polynomial_call dc_Polynomial_call pm_Polynomial_call cd_Polynomial_call ct_Polynomial_call : Value}
    {f_L_value : Addr} {od_L_value an_L_value : Option Addr} {sl_L_value : Array (Option Value)} {oc_L_value kV_L_value dc_L_value pm_L_value cd_L_value ct_L_value : Value}
    {f_made : Addr} {od_made an_made : Option Addr} {sl_made : Array (Option Value)} {oc_made kV_made dc_made pm_made cd_made ct_made : Value}
    {f_Polynomial_neg : Addr} {od_Polynomial_neg an_Polynomial_neg : Option Addr} {sl_Polynomial_neg : Array (Option Value)} {oc_Polynomial_neg kV_Polynomial_neg dc_Polynomial_neg pm_Polynomial_neg cd_Polynomial_neg ct_Polynomial_neg : Value}
    {f_Polynomial_scaled : Addr} {od_Polynomial_scaled an_Polynomial_scaled : Option Addr} {sl_Polynomial_scaled : Array (Option Value)} {oc_Polynomial_scaled kV_Polynomial_scaled dc_Polynomial_scaled pm_Polynomial_scaled cd_Polynomial_scaled ct_Polynomial_scaled : Value}
    {f_Polynomial_raised : Addr} {od_Polynomial_raised an_Polynomial_raised : Option Addr} {sl_Polynomial_raised : Array (Option Value)} {oc_Polynomial_raised kV_Polynomial_raised dc_Polynomial_raised pm_Polynomial_raised cd_Polynomial_raised ct_Polynomial_raised : Value}
    {f_Polynomial_power : Addr} {od_Polynomial_power an_Polynomial_power : Option Addr} {sl_Polynomial_power : Array (Option Value)} {oc_Polynomial_power kV_Polynomial_power dc_Polynomial_power pm_Polynomial_power cd_Polynomial_power ct_Polynomial_power : Value}
    {rst_Polynomial_power : List Value}
    {f_Polynomial_eq : Addr} {od_Polynomial_eq an_Polynomial_eq : Option Addr} {sl_Polynomial_eq : Array (Option Value)} {oc_Polynomial_eq kV_Polynomial_eq dc_Polynomial_eq pm_Polynomial_eq cd_Polynomial_eq ct_Polynomial_eq : Value}
    {f_law : Addr} {od_law an_law : Option Addr} {sl_law : Array (Option Value)} {oc_law kV_law dc_law pm_law cd_law ct_law : Value}
    (a_Fraction : PySem.W.nsIn K mainGlobals "Fraction" = some (some (.ref C_Fraction)))
    (a_Polynomial : PySem.W.nsIn K mainGlobals "Polynomial" = some (some (.ref C_Polynomial)))
    (a_BadFraction : PySem.W.nsIn K mainGlobals "BadFraction" = some (some (.ref C_BadFraction)))
    (a_L_cell : PySem.W.nsIn K mainGlobals "_law_cell" = some (some (.ref f_L_cell)))
    (l_L_cell : K.lookup f_L_cell = some ⟨oc_L_cell, od_L_cell, .func (PySem.W.fnOf "_law_cell" "_law_cell" (defArgs s_L_cell) (defBody s_L_cell) (defScope s_L_cell) .none kV_L_cell dc_L_cell pm_L_cell an_L_cell cd_L_cell ct_L_cell), sl_L_cell⟩)
    (c_L_cell : PySem.W.codeIn K cd_L_cell "_law_cell" = true)
    (k_L_cell : PySem.W.keepIn K (.ref f_L_cell) = true)
    (a_L_row : PySem.W.nsIn K mainGlobals "_law_row" = some (some (.ref f_L_row)))
    (l_L_row : K.lookup f_L_row = some ⟨oc_L_row, od_L_row, .func (PySem.W.fnOf "_law_row" "_law_row" (defArgs s_L_row) (defBody s_L_row) (defScope s_L_row) .none kV_L_row dc_L_row pm_L_row an_L_row cd_L_row ct_L_row), sl_L_row⟩)
    (c_L_row : PySem.W.codeIn K cd_L_row "_law_row" = true)
    (k_L_row : PySem.W.keepIn K (.ref f_L_row) = true)
    (a_L_top : PySem.W.nsIn K mainGlobals "_law_top" = some (some (.ref f_L_top)))
    (l_L_top : K.lookup f_L_top = some ⟨oc_L_top, od_L_top, .func (PySem.W.fnOf "_law_top" "_law_top" (defArgs s_L_top) (defBody s_L_top) (defScope s_L_top) .none kV_L_top dc_L_top pm_L_top an_L_top cd_L_top ct_L_top), sl_L_top⟩)
    (c_L_top : PySem.W.codeIn K cd_L_top "_law_top" = true)
    (k_L_top : PySem.W.keepIn K (.ref f_L_top) = true)
    (a_L_pairs : PySem.W.nsIn K mainGlobals "_law_pairs" = some (some (.ref f_L_pairs)))
    (l_L_pairs : K.lookup f_L_pairs = some ⟨oc_L_pairs, od_L_pairs, .func (PySem.W.fnOf "_law_pairs" "_law_pairs" (defArgs s_L_pairs) (defBody s_L_pairs) (defScope s_L_pairs) .none kV_L_pairs dc_L_pairs pm_L_pairs an_L_pairs cd_L_pairs ct_L_pairs), sl_L_pairs⟩)
    (c_L_pairs : PySem.W.codeIn K cd_L_pairs "_law_pairs" = true)
    (k_L_pairs : PySem.W.keepIn K (.ref f_L_pairs) = true)
    (a_Fraction_init : PySem.W.findIn K (.ref C_Fraction) "__init__" = some (some (.ref f_Fraction_init)))
    (i_Fraction_init : PySem.W.isFn K (.ref f_Fraction_init) = true)
    (l_Fraction_init : K.lookup f_Fraction_init = some ⟨oc_Fraction_init, od_Fraction_init, .func (PySem.W.fnOf "__init__" "Fraction.__init__" (defArgs s_Fraction_init) (defBody s_Fraction_init) (defScope s_Fraction_init) (.ref T_Fraction_init) kV_Fraction_init dc_Fraction_init pm_Fraction_init an_Fraction_init cd_Fraction_init ct_Fraction_init), sl_Fraction_init⟩)
    (d_Fraction_init : K.lookup T_Fraction_init = some ⟨ocT_Fraction_init, odT_Fraction_init, .seq #[.int 1 tk_Fraction_init_0] nT_Fraction_init, slT_Fraction_init⟩)
    (c_Fraction_init : PySem.W.codeIn K cd_Fraction_init "Fraction.__init__" = true)
    (k_Fraction_init : PySem.W.keepIn K (.ref f_Fraction_init) = true)
    (a_L_handed : PySem.W.nsIn K mainGlobals "_law_handed" = some (some (.ref f_L_handed)))
    (l_L_handed : K.lookup f_L_handed = some ⟨oc_L_handed, od_L_handed, .func (PySem.W.fnOf "_law_handed" "_law_handed" (defArgs s_L_handed) (defBody s_L_handed) (defScope s_L_handed) .none kV_L_handed dc_L_handed pm_L_handed an_L_handed cd_L_handed ct_L_handed), sl_L_handed⟩)
    (c_L_handed : PySem.W.codeIn K cd_L_handed "_law_handed" = true)
    (k_L_handed : PySem.W.keepIn K (.ref f_L_handed) = true)
    (a_as_fraction : PySem.W.nsIn K mainGlobals "as_fraction" = some (some (.ref f_as_fraction)))
    (l_as_fraction : K.lookup f_as_fraction = some ⟨oc_as_fraction, od_as_fraction, .func (PySem.W.fnOf "as_fraction" "as_fraction" (defArgs s_as_fraction) (defBody s_as_fraction) (defScope s_as_fraction) .none kV_as_fraction dc_as_fraction pm_as_fraction an_as_fraction cd_as_fraction ct_as_fraction), sl_as_fraction⟩)
    (c_as_fraction : PySem.W.codeIn K cd_as_fraction "as_fraction" = true)
    (k_as_fraction : PySem.W.keepIn K (.ref f_as_fraction) = true)
    (a_Fraction_bool : PySem.W.findIn K (.ref C_Fraction) "__bool__" = some (some (.ref f_Fraction_bool)))
    (i_Fraction_bool : PySem.W.isFn K (.ref f_Fraction_bool) = true)
    (l_Fraction_bool : K.lookup f_Fraction_bool = some ⟨oc_Fraction_bool, od_Fraction_bool, .func (PySem.W.fnOf "__bool__" "Fraction.__bool__" (defArgs s_Fraction_bool) (defBody s_Fraction_bool) (defScope s_Fraction_bool) .none kV_Fraction_bool dc_Fraction_bool pm_Fraction_bool an_Fraction_bool cd_Fraction_bool ct_Fraction_bool), sl_Fraction_bool⟩)
    (c_Fraction_bool : PySem.W.codeIn K cd_Fraction_bool "Fraction.__bool__" = true)
    (k_Fraction_bool : PySem.W.keepIn K (.ref f_Fraction_bool) = true)
    (a_common_bottom : PySem.W.nsIn K mainGlobals "common_bottom" = some (some (.ref f_common_bottom)))
    (l_common_bottom : K.lookup f_common_bottom = some ⟨oc_common_bottom, od_common_bottom, .func (PySem.W.fnOf "common_bottom" "common_bottom" (defArgs s_common_bottom) (defBody s_common_bottom) (defScope s_common_bottom) .none kV_common_bottom dc_common_bottom pm_common_bottom an_common_bottom cd_common_bottom ct_common_bottom), sl_common_bottom⟩)
    (c_common_bottom : PySem.W.codeIn K cd_common_bottom "common_bottom" = true)
    (k_common_bottom : PySem.W.keepIn K (.ref f_common_bottom) = true)
    (a_over_bottom : PySem.W.nsIn K mainGlobals "over_bottom" = some (some (.ref f_over_bottom)))
    (l_over_bottom : K.lookup f_over_bottom = some ⟨oc_over_bottom, od_over_bottom, .func (PySem.W.fnOf "over_bottom" "over_bottom" (defArgs s_over_bottom) (defBody s_over_bottom) (defScope s_over_bottom) .none kV_over_bottom dc_over_bottom pm_over_bottom an_over_bottom cd_over_bottom ct_over_bottom), sl_over_bottom⟩)
    (c_over_bottom : PySem.W.codeIn K cd_over_bottom "over_bottom" = true)
    (k_over_bottom : PySem.W.keepIn K (.ref f_over_bottom) = true)
    (a_Polynomial_init : PySem.W.findIn K (.ref C_Polynomial) "__init__" = some (some (.ref f_Polynomial_init)))
    (i_Polynomial_init : PySem.W.isFn K (.ref f_Polynomial_init) = true)
    (l_Polynomial_init : K.lookup f_Polynomial_init = some ⟨oc_Polynomial_init, od_Polynomial_init, .func (PySem.W.fnOf "__init__" "Polynomial.__init__" (defArgs s_Polynomial_init) (defBody s_Polynomial_init) (defScope s_Polynomial_init) (.ref T_Polynomial_init) kV_Polynomial_init dc_Polynomial_init pm_Polynomial_init an_Polynomial_init cd_Polynomial_init ct_Polynomial_init), sl_Polynomial_init⟩)
    (d_Polynomial_init : K.lookup T_Polynomial_init = some ⟨ocT_Polynomial_init, odT_Polynomial_init, .seq #[.ref TU_Polynomial_init_0] nT_Polynomial_init, slT_Polynomial_init⟩)
    (e_TU_Polynomial_init_0 : K.lookup TU_Polynomial_init_0 = some ⟨.type "tuple", odTU_Polynomial_init_0, .seq #[] nTU_Polynomial_init_0, slTU_Polynomial_init_0⟩)
    (c_Polynomial_init : PySem.W.codeIn K cd_Polynomial_init "Polynomial.__init__" = true)
    (k_Polynomial_init : PySem.W.keepIn K (.ref f_Polynomial_init) = true)
    (a_Fraction_eq : PySem.W.findIn K (.ref C_Fraction) "__eq__" = some (some (.ref f_Fraction_eq)))
    (i_Fraction_eq : PySem.W.isFn K (.ref f_Fraction_eq) = true)
    (l_Fraction_eq : K.lookup f_Fraction_eq = some ⟨oc_Fraction_eq, od_Fraction_eq, .func (PySem.W.fnOf "__eq__" "Fraction.__eq__" (defArgs s_Fraction_eq) (defBody s_Fraction_eq) (defScope s_Fraction_eq) .none kV_Fraction_eq dc_Fraction_eq pm_Fraction_eq an_Fraction_eq cd_Fraction_eq ct_Fraction_eq), sl_Fraction_eq⟩)
    (c_Fraction_eq : PySem.W.codeIn K cd_Fraction_eq "Fraction.__eq__" = true)
    (k_Fraction_eq : PySem.W.keepIn K (.ref f_Fraction_eq) = true)
    (a_is_number : PySem.W.nsIn K mainGlobals "_is_number" = some (some (.ref f_is_number)))
    (l_is_number : K.lookup f_is_number = some ⟨oc_is_number, od_is_number, .func (PySem.W.fnOf "_is_number" "_is_number" (defArgs s_is_number) (defBody s_is_number) (defScope s_is_number) .none kV_is_number dc_is_number pm_is_number an_is_number cd_is_number ct_is_number), sl_is_number⟩)
    (c_is_number : PySem.W.codeIn K cd_is_number "_is_number" = true)
    (k_is_number : PySem.W.keepIn K (.ref f_is_number) = true)
    (a_order : PySem.W.nsIn K mainGlobals "_order" = some (some (.ref f_order)))
    (l_order : K.lookup f_order = some ⟨oc_order, od_order, .func (PySem.W.fnOf "_order" "_order" (defArgs s_order) (defBody s_order) (defScope s_order) .none kV_order dc_order pm_order an_order cd_order ct_order), sl_order⟩)
    (c_order : PySem.W.codeIn K cd_order "_order" = true)
    (k_order : PySem.W.keepIn K (.ref f_order) = true)
    (a_L_cut : PySem.W.nsIn K mainGlobals "_law_cut" = some (some (.ref f_L_cut)))
    (l_L_cut : K.lookup f_L_cut = some ⟨oc_L_cut, od_L_cut, .func (PySem.W.fnOf "_law_cut" "_law_cut" (defArgs s_L_cut) (defBody s_L_cut) (defScope s_L_cut) .none kV_L_cut dc_L_cut pm_L_cut an_L_cut cd_L_cut ct_L_cut), sl_L_cut⟩)
    (c_L_cut : PySem.W.codeIn K cd_L_cut "_law_cut" = true)
    (k_L_cut : PySem.W.keepIn K (.ref f_L_cut) = true)
    (a_Polynomial_coefficients : PySem.W.findIn K (.ref C_Polynomial) "coefficients" = some (some (.ref f_Polynomial_coefficients)))
    (i_Polynomial_coefficients : PySem.W.isFn K (.ref f_Polynomial_coefficients) = true)
    (l_Polynomial_coefficients : K.lookup f_Polynomial_coefficients = some ⟨oc_Polynomial_coefficients, od_Polynomial_coefficients, .func (PySem.W.fnOf "coefficients" "Polynomial.coefficients" (defArgs s_Polynomial_coefficients) (defBody s_Polynomial_coefficients) (defScope s_Polynomial_coefficients) .none kV_Polynomial_coefficients dc_Polynomial_coefficients pm_Polynomial_coefficients an_Polynomial_coefficients cd_Polynomial_coefficients ct_Polynomial_coefficients), sl_Polynomial_coefficients⟩)
    (c_Polynomial_coefficients : PySem.W.codeIn K cd_Polynomial_coefficients "Polynomial.coefficients" = true)
    (k_Polynomial_coefficients : PySem.W.keepIn K (.ref f_Polynomial_coefficients) = true)
    (a_Polynomial_degree : PySem.W.findIn K (.ref C_Polynomial) "degree" = some (some (.ref pp_Polynomial_degree)))
    (g_Polynomial_degree : PySem.W.specialIn K (.ref pp_Polynomial_degree) "__get__" = some (some (.builtin "property.__get__")))
    (t_Polynomial_degree : PySem.W.takesIn K (.ref pp_Polynomial_degree) = some true)
    (r_Polynomial_degree : PySem.W.recIn K pp_Polynomial_degree "property" = some (.ref f_Polynomial_degree :: rst_Polynomial_degree))
    (l_Polynomial_degree : K.lookup f_Polynomial_degree = some ⟨oc_Polynomial_degree, od_Polynomial_degree, .func (PySem.W.fnOf "degree" "Polynomial.degree" (defArgs s_Polynomial_degree) (defBody s_Polynomial_degree) (defScope s_Polynomial_degree) .none kV_Polynomial_degree dc_Polynomial_degree pm_Polynomial_degree an_Polynomial_degree cd_Polynomial_degree ct_Polynomial_degree), sl_Polynomial_degree⟩)
    (c_Polynomial_degree : PySem.W.codeIn K cd_Polynomial_degree "Polynomial.degree" = true)
    (k_Polynomial_degree : PySem.W.keepIn K (.ref f_Polynomial_degree) = true)
    (a_Polynomial_len : PySem.W.findIn K (.ref C_Polynomial) "__len__" = some (some (.ref f_Polynomial_len)))
    (i_Polynomial_len : PySem.W.isFn K (.ref f_Polynomial_len) = true)
    (l_Polynomial_len : K.lookup f_Polynomial_len = some ⟨oc_Polynomial_len, od_Polynomial_len, .func (PySem.W.fnOf "__len__" "Polynomial.__len__" (defArgs s_Polynomial_len) (defBody s_Polynomial_len) (defScope s_Polynomial_len) .none kV_Polynomial_len dc_Polynomial_len pm_Polynomial_len an_Polynomial_len cd_Polynomial_len ct_Polynomial_len), sl_Polynomial_len⟩)
    (c_Polynomial_len : PySem.W.codeIn K cd_Polynomial_len "Polynomial.__len__" = true)
    (k_Polynomial_len : PySem.W.keepIn K (.ref f_Polynomial_len) = true)
    (a_L_is : PySem.W.nsIn K mainGlobals "_law_is" = some (some (.ref f_L_is)))
    (l_L_is : K.lookup f_L_is = some ⟨oc_L_is, od_L_is, .func (PySem.W.fnOf "_law_is" "_law_is" (defArgs s_L_is) (defBody s_L_is) (defScope s_L_is) .none kV_L_is dc_L_is pm_L_is an_L_is cd_L_is ct_L_is), sl_L_is⟩)
    (c_L_is : PySem.W.codeIn K cd_L_is "_law_is" = true)
    (k_L_is : PySem.W.keepIn K (.ref f_L_is) = true)
    (a_L_list : PySem.W.nsIn K mainGlobals "_law_list" = some (some (.ref f_L_list)))
    (l_L_list : K.lookup f_L_list = some ⟨oc_L_list, od_L_list, .func (PySem.W.fnOf "_law_list" "_law_list" (defArgs s_L_list) (defBody s_L_list) (defScope s_L_list) .none kV_L_list dc_L_list pm_L_list an_L_list cd_L_list ct_L_list), sl_L_list⟩)
    (c_L_list : PySem.W.codeIn K cd_L_list "_law_list" = true)
    (k_L_list : PySem.W.keepIn K (.ref f_L_list) = true)
    (a_Polynomial_getitem : PySem.W.findIn K (.ref C_Polynomial) "__getitem__" = some (some (.ref f_Polynomial_getitem)))
    (i_Polynomial_getitem : PySem.W.isFn K (.ref f_Polynomial_getitem) = true)
    (l_Polynomial_getitem : K.lookup f_Polynomial_getitem = some ⟨oc_Polynomial_getitem, od_Polynomial_getitem, .func (PySem.W.fnOf "__getitem__" "Polynomial.__getitem__" (defArgs s_Polynomial_getitem) (defBody s_Polynomial_getitem) (defScope s_Polynomial_getitem) .none kV_Polynomial_getitem dc_Polynomial_getitem pm_Polynomial_getitem an_Polynomial_getitem cd_Polynomial_getitem ct_Polynomial_getitem), sl_Polynomial_getitem⟩)
    (c_Polynomial_getitem : PySem.W.codeIn K cd_Polynomial_getitem "Polynomial.__getitem__" = true)
    (k_Polynomial_getitem : PySem.W.keepIn K (.ref f_Polynomial_getitem) = true)
    (a_L_asked : PySem.W.nsIn K mainGlobals "_law_asked" = some (some (.ref f_L_asked)))
    (l_L_asked : K.lookup f_L_asked = some ⟨oc_L_asked, od_L_asked, .func (PySem.W.fnOf "_law_asked" "_law_asked" (defArgs s_L_asked) (defBody s_L_asked) (defScope s_L_asked) .none kV_L_asked dc_L_asked pm_L_asked an_L_asked cd_L_asked ct_L_asked), sl_L_asked⟩)
    (c_L_asked : PySem.W.codeIn K cd_L_asked "_law_asked" = true)
    (k_L_asked : PySem.W.keepIn K (.ref f_L_asked) = true)
    (a_Polynomial_call : PySem.W.findIn K (.ref C_Polynomial) "__call__" = some (some (.ref f_Polynomial_call)))
    (i_Polynomial_call : PySem.W.isFn K (.ref f_Polynomial_call) = true)
    (l_Polynomial_call : K.lookup f_Polynomial_call = some ⟨oc_Polynomial_call, od_Polynomial_call, .func (PySem.W.fnOf "__call__" "Polynomial.__call__" (defArgs s_Polynomial_call) (defBody s_Polynomial_call) (defScope s_Polynomial_call) .none kV_Polynomial_call dc_Polynomial_call pm_Polynomial_call an_Polynomial_call cd_Polynomial_call ct_Polynomial_call), sl_Polynomial_call⟩)
    (c_Polynomial_call : PySem.W.codeIn K cd_Polynomial_call "Polynomial.__call__" = true)
    (k_Polynomial_call : PySem.W.keepIn K (.ref f_Polynomial_call) = true)
    (a_L_value : PySem.W.nsIn K mainGlobals "_law_value" = some (some (.ref f_L_value)))
    (l_L_value : K.lookup f_L_value = some ⟨oc_L_value, od_L_value, .func (PySem.W.fnOf "_law_value" "_law_value" (defArgs s_L_value) (defBody s_L_value) (defScope s_L_value) .none kV_L_value dc_L_value pm_L_value an_L_value cd_L_value ct_L_value), sl_L_value⟩)
    (c_L_value : PySem.W.codeIn K cd_L_value "_law_value" = true)
    (k_L_value : PySem.W.keepIn K (.ref f_L_value) = true)
    (a_made : PySem.W.nsIn K mainGlobals "_made" = some (some (.ref f_made)))
    (l_made : K.lookup f_made = some ⟨oc_made, od_made, .func (PySem.W.fnOf "_made" "_made" (defArgs s_made) (defBody s_made) (defScope s_made) .none kV_made dc_made pm_made an_made cd_made ct_made), sl_made⟩)
    (c_made : PySem.W.codeIn K cd_made "_made" = true)
    (k_made : PySem.W.keepIn K (.ref f_made) = true)
    (a_Polynomial_neg : PySem.W.findIn K (.ref C_Polynomial) "__neg__" = some (some (.ref f_Polynomial_neg)))
    (i_Polynomial_neg : PySem.W.isFn K (.ref f_Polynomial_neg) = true)
    (l_Polynomial_neg : K.lookup f_Polynomial_neg = some ⟨oc_Polynomial_neg, od_Polynomial_neg, .func (PySem.W.fnOf "__neg__" "Polynomial.__neg__" (defArgs s_Polynomial_neg) (defBody s_Polynomial_neg) (defScope s_Polynomial_neg) .none kV_Polynomial_neg dc_Polynomial_neg pm_Polynomial_neg an_Polynomial_neg cd_Polynomial_neg ct_Polynomial_neg), sl_Polynomial_neg⟩)
    (c_Polynomial_neg : PySem.W.codeIn K cd_Polynomial_neg "Polynomial.__neg__" = true)
    (k_Polynomial_neg : PySem.W.keepIn K (.ref f_Polynomial_neg) = true)
    (a_Polynomial_scaled : PySem.W.findIn K (.ref C_Polynomial) "scaled" = some (some (.ref f_Polynomial_scaled)))
    (i_Polynomial_scaled : PySem.W.isFn K (.ref f_Polynomial_scaled) = true)
    (l_Polynomial_scaled : K.lookup f_Polynomial_scaled = some ⟨oc_Polynomial_scaled, od_Polynomial_scaled, .func (PySem.W.fnOf "scaled" "Polynomial.scaled" (defArgs s_Polynomial_scaled) (defBody s_Polynomial_scaled) (defScope s_Polynomial_scaled) .none kV_Polynomial_scaled dc_Polynomial_scaled pm_Polynomial_scaled an_Polynomial_scaled cd_Polynomial_scaled ct_Polynomial_scaled), sl_Polynomial_scaled⟩)
    (c_Polynomial_scaled : PySem.W.codeIn K cd_Polynomial_scaled "Polynomial.scaled" = true)
    (k_Polynomial_scaled : PySem.W.keepIn K (.ref f_Polynomial_scaled) = true)
    (a_Polynomial_raised : PySem.W.findIn K (.ref C_Polynomial) "raised" = some (some (.ref f_Polynomial_raised)))
    (i_Polynomial_raised : PySem.W.isFn K (.ref f_Polynomial_raised) = true)
    (l_Polynomial_raised : K.lookup f_Polynomial_raised = some ⟨oc_Polynomial_raised, od_Polynomial_raised, .func (PySem.W.fnOf "raised" "Polynomial.raised" (defArgs s_Polynomial_raised) (defBody s_Polynomial_raised) (defScope s_Polynomial_raised) .none kV_Polynomial_raised dc_Polynomial_raised pm_Polynomial_raised an_Polynomial_raised cd_Polynomial_raised ct_Polynomial_raised), sl_Polynomial_raised⟩)
    (c_Polynomial_raised : PySem.W.codeIn K cd_Polynomial_raised "Polynomial.raised" = true)
    (k_Polynomial_raised : PySem.W.keepIn K (.ref f_Polynomial_raised) = true)
    (a_Polynomial_power : PySem.W.findCls K (.ref C_Polynomial) (.type "type") "power" = some (.get (.builtin "staticmethod.__get__") (.ref pp_Polynomial_power) .none (.ref C_Polynomial)))
    (r_Polynomial_power : PySem.W.recIn K pp_Polynomial_power "staticmethod" = some (.ref f_Polynomial_power :: rst_Polynomial_power))
    (rd_Polynomial : PySem.W.readsIn K C_Polynomial (.type "type") = true)
    (ga_Polynomial : PySem.W.specialIn K (.ref C_Polynomial) "__getattribute__" = some (some (.builtin "type.__getattribute__")))
    (l_Polynomial_power : K.lookup f_Polynomial_power = some ⟨oc_Polynomial_power, od_Polynomial_power, .func (PySem.W.fnOf "power" "Polynomial.power" (defArgs s_Polynomial_power) (defBody s_Polynomial_power) (defScope s_Polynomial_power) .none kV_Polynomial_power dc_Polynomial_power pm_Polynomial_power an_Polynomial_power cd_Polynomial_power ct_Polynomial_power), sl_Polynomial_power⟩)
    (c_Polynomial_power : PySem.W.codeIn K cd_Polynomial_power "Polynomial.power" = true)
    (k_Polynomial_power : PySem.W.keepIn K (.ref f_Polynomial_power) = true)
    (a_Polynomial_eq : PySem.W.findIn K (.ref C_Polynomial) "__eq__" = some (some (.ref f_Polynomial_eq)))
    (i_Polynomial_eq : PySem.W.isFn K (.ref f_Polynomial_eq) = true)
    (l_Polynomial_eq : K.lookup f_Polynomial_eq = some ⟨oc_Polynomial_eq, od_Polynomial_eq, .func (PySem.W.fnOf "__eq__" "Polynomial.__eq__" (defArgs s_Polynomial_eq) (defBody s_Polynomial_eq) (defScope s_Polynomial_eq) .none kV_Polynomial_eq dc_Polynomial_eq pm_Polynomial_eq an_Polynomial_eq cd_Polynomial_eq ct_Polynomial_eq), sl_Polynomial_eq⟩)
    (c_Polynomial_eq : PySem.W.codeIn K cd_Polynomial_eq "Polynomial.__eq__" = true)
    (k_Polynomial_eq : PySem.W.keepIn K (.ref f_Polynomial_eq) = true)
    (a_law : PySem.W.nsIn K mainGlobals "law" = some (some (.ref f_law)))
    (l_law : K.lookup f_law = some ⟨oc_law, od_law, .func (PySem.W.fnOf "law" "law" (defArgs s_law) (defBody s_law) (defScope s_law) .none kV_law dc_law pm_law an_law cd_law ct_law), sl_law⟩)
    (c_law : PySem.W.codeIn K cd_law "law" = true)
    (k_law : PySem.W.keepIn K (.ref f_law) = true)
    (z_len : PySem.W.nsIn K mainGlobals "len" = some none)
    (z_int : PySem.W.nsIn K mainGlobals "int" = some none)
    (z_abs : PySem.W.nsIn K mainGlobals "abs" = some none)
    (z_range : PySem.W.nsIn K mainGlobals "range" = some none)
    (mkh_Fraction : PySem.W.makesIn K C_Fraction = true)
    (kc_Fraction : PySem.W.keepIn K (.ref C_Fraction) = true)
    (pg_Polynomial : PySem.W.plainGet K C_Polynomial Str.empty = true)
    (hd_Polynomial : PySem.W.hasDictIn K C_Polynomial = true)
    (po_Polynomial : PySem.W.plainOver K C_Polynomial = true)
    (sa_Polynomial : PySem.W.findIn K (.ref C_Polynomial) "__setattr__" = some (some (.builtin "object.__setattr__")))
    (z_isinstance : PySem.W.nsIn K mainGlobals "isinstance" = some none)
    (sub1 : PySem.W.subIn K (.type "int") (.ref C_Fraction) = some false)
    (sub2 : PySem.W.subIn K (.ref C_Fraction) (.type "int") = some false)
    (icl : PySem.W.isClsIn K C_Fraction = true)
    (ityp : PySem.W.typeIn K (.ref C_Fraction) = some (.type "type"))
    (pg_Fraction : PySem.W.plainGet K C_Fraction Str.empty = true)
    (hd_Fraction : PySem.W.hasDictIn K C_Fraction = true)
    (po_Fraction : PySem.W.plainOver K C_Fraction = true)
    (sa_Fraction : PySem.W.findIn K (.ref C_Fraction) "__setattr__" = some (some (.builtin "object.__setattr__")))
    (ca_Fraction : PySem.W.findIn K (.ref C_Fraction) "__class__" = some (some (.builtin "object.__class__")))
    (cm_Fraction : PySem.W.mroIn K C_Fraction (.type "object") = some true)
    (cn : PySem.W.specialIn K (.builtin "object.__class__") "__get__" = some (some (.builtin "getset_descriptor.__get__")))
    (ct : PySem.W.takesIn K (.builtin "object.__class__") = some true)
    (na_Fraction_top : PySem.W.findIn K (.ref C_Fraction) "top" = some none)
    (z_bool : PySem.W.nsIn K mainGlobals "bool" = some none)
    (na_Fraction_bottom : PySem.W.findIn K (.ref C_Fraction) "bottom" = some none)
    (bi_lcm : PySem.W.nsIn K mainGlobals "lcm" = some (some (.builtin "math.lcm")))
    (na_Polynomial__bottom : PySem.W.findIn K (.ref C_Polynomial) "_bottom" = some none)
    (na_Polynomial__tops : PySem.W.findIn K (.ref C_Polynomial) "_tops" = some none)
    (mkh_Polynomial : PySem.W.makesIn K C_Polynomial = true)
    (kc_Polynomial : PySem.W.keepIn K (.ref C_Polynomial) = true)
    (z_tuple : PySem.W.nsIn K mainGlobals "tuple" = some none)
    (z_all : PySem.W.nsIn K mainGlobals "all" = some none)
    (ca_Polynomial : PySem.W.findIn K (.ref C_Polynomial) "__class__" = some (some (.builtin "object.__class__")))
    (cm_Polynomial : PySem.W.mroIn K C_Polynomial (.type "object") = some true)
    (z_list : PySem.W.nsIn K mainGlobals "list" = some none)
    (fnin_Polynomial_getitem : PySem.W.fnIn K f_Polynomial_getitem = true)
    (fnin_Polynomial_call : PySem.W.fnIn K f_Polynomial_call = true)
    (bi_gcd : PySem.W.nsIn K mainGlobals "gcd" = some (some (.builtin "math.gcd")))
    (x_BadFraction_exc : PySem.W.excIn K C_BadFraction [.type "ValueError", .type "Exception", .type "BaseException", .type "object"] "ValueError.__new__" = true)
    (x_BadFraction_kp : PySem.W.keepIn K (.ref C_BadFraction) = true)
    (x_BadFraction_be : PySem.W.subIn K (.ref C_BadFraction) (.type "BaseException") = some true)
    (x_BadFraction_ty : PySem.W.typeIn K (.ref C_BadFraction) = some (.type "type"))
    (x_BadFraction_hd : PySem.W.hasDictIn K C_BadFraction = true)
    (x_BadFraction_self : PySem.W.subIn K (.ref C_BadFraction) (.ref C_BadFraction) = some true)
    : ∃ fd : FuncData, (∀ (s : Shared) (v : Value), BindsTo s fd ⟨[v], []⟩ [("_law_script", v)]) ∧ ∀ base : Heap, K.In base → base.Ns mainGlobals mg → FnOk l.prog w K mg base CX0 8 fa fd ["_law_script"] (spD K 1 R_law) := by
  have e := hfa.symm.trans (PySem.W.mg_of X G a_law)
  cases e
  have F_L_cell : Fun K "_law_cell" "_law_cell" s_L_cell f_L_cell (PySem.W.fnOf "_law_cell" "_law_cell" (defArgs s_L_cell) (defBody s_L_cell) (defScope s_L_cell) .none kV_L_cell dc_L_cell pm_L_cell an_L_cell cd_L_cell ct_L_cell) := fun_mk (st := s_L_cell) l_L_cell c_L_cell k_L_cell
  have F_L_row : Fun K "_law_row" "_law_row" s_L_row f_L_row (PySem.W.fnOf "_law_row" "_law_row" (defArgs s_L_row) (defBody s_L_row) (defScope s_L_row) .none kV_L_row dc_L_row pm_L_row an_L_row cd_L_row ct_L_row) := fun_mk (st := s_L_row) l_L_row c_L_row k_L_row
  have F_L_top : Fun K "_law_top" "_law_top" s_L_top f_L_top (PySem.W.fnOf "_law_top" "_law_top" (defArgs s_L_top) (defBody s_L_top) (defScope s_L_top) .none kV_L_top dc_L_top pm_L_top an_L_top cd_L_top ct_L_top) := fun_mk (st := s_L_top) l_L_top c_L_top k_L_top
  have F_L_pairs : Fun K "_law_pairs" "_law_pairs" s_L_pairs f_L_pairs (PySem.W.fnOf "_law_pairs" "_law_pairs" (defArgs s_L_pairs) (defBody s_L_pairs) (defScope s_L_pairs) .none kV_L_pairs dc_L_pairs pm_L_pairs an_L_pairs cd_L_pairs ct_L_pairs) := fun_mk (st := s_L_pairs) l_L_pairs c_L_pairs k_L_pairs
  have F_Fraction_init : FunD K "__init__" "Fraction.__init__" (defArgs s_Fraction_init) (defBody s_Fraction_init) (defScope s_Fraction_init) [V.int 1] [] f_Fraction_init (PySem.W.fnOf "__init__" "Fraction.__init__" (defArgs s_Fraction_init) (defBody s_Fraction_init) (defScope s_Fraction_init) (.ref T_Fraction_init) kV_Fraction_init dc_Fraction_init pm_Fraction_init an_Fraction_init cd_Fraction_init ct_Fraction_init) := ⟨⟨_, _, _, _, _, _, _, _, _, _, rfl, l_Fraction_init, c_Fraction_init, .inr ⟨(by simp), _, _, [.int 1 tk_Fraction_init_0], _, rfl, d_Fraction_init, rfl, (.cons ⟨_, rfl⟩ .nil)⟩, .inl rfl⟩, k_Fraction_init⟩
  have F_L_handed : Fun K "_law_handed" "_law_handed" s_L_handed f_L_handed (PySem.W.fnOf "_law_handed" "_law_handed" (defArgs s_L_handed) (defBody s_L_handed) (defScope s_L_handed) .none kV_L_handed dc_L_handed pm_L_handed an_L_handed cd_L_handed ct_L_handed) := fun_mk (st := s_L_handed) l_L_handed c_L_handed k_L_handed
  have F_as_fraction : Fun K "as_fraction" "as_fraction" s_as_fraction f_as_fraction (PySem.W.fnOf "as_fraction" "as_fraction" (defArgs s_as_fraction) (defBody s_as_fraction) (defScope s_as_fraction) .none kV_as_fraction dc_as_fraction pm_as_fraction an_as_fraction cd_as_fraction ct_as_fraction) := fun_mk (st := s_as_fraction) l_as_fraction c_as_fraction k_as_fraction
  have F_Fraction_bool : Fun K "__bool__" "Fraction.__bool__" s_Fraction_bool f_Fraction_bool (PySem.W.fnOf "__bool__" "Fraction.__bool__" (defArgs s_Fraction_bool) (defBody s_Fraction_bool) (defScope s_Fraction_bool) .none kV_Fraction_bool dc_Fraction_bool pm_Fraction_bool an_Fraction_bool cd_Fraction_bool ct_Fraction_bool) := fun_mk (st := s_Fraction_bool) l_Fraction_bool c_Fraction_bool k_Fraction_bool
  have F_common_bottom : Fun K "common_bottom" "common_bottom" s_common_bottom f_common_bottom (PySem.W.fnOf "common_bottom" "common_bottom" (defArgs s_common_bottom) (defBody s_common_bottom) (defScope s_common_bottom) .none kV_common_bottom dc_common_bottom pm_common_bottom an_common_bottom cd_common_bottom ct_common_bottom) := fun_mk (st := s_common_bottom) l_common_bottom c_common_bottom k_common_bottom
  have F_over_bottom : Fun K "over_bottom" "over_bottom" s_over_bottom f_over_bottom (PySem.W.fnOf "over_bottom" "over_bottom" (defArgs s_over_bottom) (defBody s_over_bottom) (defScope s_over_bottom) .none kV_over_bottom dc_over_bottom pm_over_bottom an_over_bottom cd_over_bottom ct_over_bottom) := fun_mk (st := s_over_bottom) l_over_bottom c_over_bottom k_over_bottom
  have F_Polynomial_init : FunD K "__init__" "Polynomial.__init__" (defArgs s_Polynomial_init) (defBody s_Polynomial_init) (defScope s_Polynomial_init) [V.ref TU_Polynomial_init_0] [] f_Polynomial_init (PySem.W.fnOf "__init__" "Polynomial.__init__" (defArgs s_Polynomial_init) (defBody s_Polynomial_init) (defScope s_Polynomial_init) (.ref T_Polynomial_init) kV_Polynomial_init dc_Polynomial_init pm_Polynomial_init an_Polynomial_init cd_Polynomial_init ct_Polynomial_init) := ⟨⟨_, _, _, _, _, _, _, _, _, _, rfl, l_Polynomial_init, c_Polynomial_init, .inr ⟨(by simp), _, _, [.ref TU_Polynomial_init_0], _, rfl, d_Polynomial_init, rfl, (.cons rfl .nil)⟩, .inl rfl⟩, k_Polynomial_init⟩
  have F_Fraction_eq : Fun K "__eq__" "Fraction.__eq__" s_Fraction_eq f_Fraction_eq (PySem.W.fnOf "__eq__" "Fraction.__eq__" (defArgs s_Fraction_eq) (defBody s_Fraction_eq) (defScope s_Fraction_eq) .none kV_Fraction_eq dc_Fraction_eq pm_Fraction_eq an_Fraction_eq cd_Fraction_eq ct_Fraction_eq) := fun_mk (st := s_Fraction_eq) l_Fraction_eq c_Fraction_eq k_Fraction_eq
  have F_is_number : Fun K "_is_number" "_is_number" s_is_number f_is_number (PySem.W.fnOf "_is_number" "_is_number" (defArgs s_is_number) (defBody s_is_number) (defScope s_is_number) .none kV_is_number dc_is_number pm_is_number an_is_number cd_is_number ct_is_number) := fun_mk (st := s_is_number) l_is_number c_is_number k_is_number
  have F_order : Fun K "_order" "_order" s_order f_order (PySem.W.fnOf "_order" "_order" (defArgs s_order) (defBody s_order) (defScope s_order) .none kV_order dc_order pm_order an_order cd_order ct_order) := fun_mk (st := s_order) l_order c_order k_order
  have F_L_cut : Fun K "_law_cut" "_law_cut" s_L_cut f_L_cut (PySem.W.fnOf "_law_cut" "_law_cut" (defArgs s_L_cut) (defBody s_L_cut) (defScope s_L_cut) .none kV_L_cut dc_L_cut pm_L_cut an_L_cut cd_L_cut ct_L_cut) := fun_mk (st := s_L_cut) l_L_cut c_L_cut k_L_cut
  have F_Polynomial_coefficients : Fun K "coefficients" "Polynomial.coefficients" s_Polynomial_coefficients f_Polynomial_coefficients (PySem.W.fnOf "coefficients" "Polynomial.coefficients" (defArgs s_Polynomial_coefficients) (defBody s_Polynomial_coefficients) (defScope s_Polynomial_coefficients) .none kV_Polynomial_coefficients dc_Polynomial_coefficients pm_Polynomial_coefficients an_Polynomial_coefficients cd_Polynomial_coefficients ct_Polynomial_coefficients) := fun_mk (st := s_Polynomial_coefficients) l_Polynomial_coefficients c_Polynomial_coefficients k_Polynomial_coefficients
  have F_Polynomial_degree : Fun K "degree" "Polynomial.degree" s_Polynomial_degree f_Polynomial_degree (PySem.W.fnOf "degree" "Polynomial.degree" (defArgs s_Polynomial_degree) (defBody s_Polynomial_degree) (defScope s_Polynomial_degree) .none kV_Polynomial_degree dc_Polynomial_degree pm_Polynomial_degree an_Polynomial_degree cd_Polynomial_degree ct_Polynomial_degree) := fun_mk (st := s_Polynomial_degree) l_Polynomial_degree c_Polynomial_degree k_Polynomial_degree
  have F_Polynomial_len : Fun K "__len__" "Polynomial.__len__" s_Polynomial_len f_Polynomial_len (PySem.W.fnOf "__len__" "Polynomial.__len__" (defArgs s_Polynomial_len) (defBody s_Polynomial_len) (defScope s_Polynomial_len) .none kV_Polynomial_len dc_Polynomial_len pm_Polynomial_len an_Polynomial_len cd_Polynomial_len ct_Polynomial_len) := fun_mk (st := s_Polynomial_len) l_Polynomial_len c_Polynomial_len k_Polynomial_len
  have F_L_is : Fun K "_law_is" "_law_is" s_L_is f_L_is (PySem.W.fnOf "_law_is" "_law_is" (defArgs s_L_is) (defBody s_L_is) (defScope s_L_is) .none kV_L_is dc_L_is pm_L_is an_L_is cd_L_is ct_L_is) := fun_mk (st := s_L_is) l_L_is c_L_is k_L_is
  have F_L_list : Fun K "_law_list" "_law_list" s_L_list f_L_list (PySem.W.fnOf "_law_list" "_law_list" (defArgs s_L_list) (defBody s_L_list) (defScope s_L_list) .none kV_L_list dc_L_list pm_L_list an_L_list cd_L_list ct_L_list) := fun_mk (st := s_L_list) l_L_list c_L_list k_L_list
  have F_Polynomial_getitem : Fun K "__getitem__" "Polynomial.__getitem__" s_Polynomial_getitem f_Polynomial_getitem (PySem.W.fnOf "__getitem__" "Polynomial.__getitem__" (defArgs s_Polynomial_getitem) (defBody s_Polynomial_getitem) (defScope s_Polynomial_getitem) .none kV_Polynomial_getitem dc_Polynomial_getitem pm_Polynomial_getitem an_Polynomial_getitem cd_Polynomial_getitem ct_Polynomial_getitem) := fun_mk (st := s_Polynomial_getitem) l_Polynomial_getitem c_Polynomial_getitem k_Polynomial_getitem
  have F_L_asked : Fun K "_law_asked" "_law_asked" s_L_asked f_L_asked (PySem.W.fnOf "_law_asked" "_law_asked" (defArgs s_L_asked) (defBody s_L_asked) (defScope s_L_asked) .none kV_L_asked dc_L_asked pm_L_asked an_L_asked cd_L_asked ct_L_asked) := fun_mk (st := s_L_asked) l_L_asked c_L_asked k_L_asked
  have F_Polynomial_call : Fun K "__call__" "Polynomial.__call__" s_Polynomial_call f_Polynomial_call (PySem.W.fnOf "__call__" "Polynomial.__call__" (defArgs s_Polynomial_call) (defBody s_Polynomial_call) (defScope s_Polynomial_call) .none kV_Polynomial_call dc_Polynomial_call pm_Polynomial_call an_Polynomial_call cd_Polynomial_call ct_Polynomial_call) := fun_mk (st := s_Polynomial_call) l_Polynomial_call c_Polynomial_call k_Polynomial_call
  have F_L_value : Fun K "_law_value" "_law_value" s_L_value f_L_value (PySem.W.fnOf "_law_value" "_law_value" (defArgs s_L_value) (defBody s_L_value) (defScope s_L_value) .none kV_L_value dc_L_value pm_L_value an_L_value cd_L_value ct_L_value) := fun_mk (st := s_L_value) l_L_value c_L_value k_L_value
  have F_made : Fun K "_made" "_made" s_made f_made (PySem.W.fnOf "_made" "_made" (defArgs s_made) (defBody s_made) (defScope s_made) .none kV_made dc_made pm_made an_made cd_made ct_made) := fun_mk (st := s_made) l_made c_made k_made
  have F_Polynomial_neg : Fun K "__neg__" "Polynomial.__neg__" s_Polynomial_neg f_Polynomial_neg (PySem.W.fnOf "__neg__" "Polynomial.__neg__" (defArgs s_Polynomial_neg) (defBody s_Polynomial_neg) (defScope s_Polynomial_neg) .none kV_Polynomial_neg dc_Polynomial_neg pm_Polynomial_neg an_Polynomial_neg cd_Polynomial_neg ct_Polynomial_neg) := fun_mk (st := s_Polynomial_neg) l_Polynomial_neg c_Polynomial_neg k_Polynomial_neg
  have F_Polynomial_scaled : Fun K "scaled" "Polynomial.scaled" s_Polynomial_scaled f_Polynomial_scaled (PySem.W.fnOf "scaled" "Polynomial.scaled" (defArgs s_Polynomial_scaled) (defBody s_Polynomial_scaled) (defScope s_Polynomial_scaled) .none kV_Polynomial_scaled dc_Polynomial_scaled pm_Polynomial_scaled an_Polynomial_scaled cd_Polynomial_scaled ct_Polynomial_scaled) := fun_mk (st := s_Polynomial_scaled) l_Polynomial_scaled c_Polynomial_scaled k_Polynomial_scaled
  have F_Polynomial_raised : Fun K "raised" "Polynomial.raised" s_Polynomial_raised f_Polynomial_raised (PySem.W.fnOf "raised" "Polynomial.raised" (defArgs s_Polynomial_raised) (defBody s_Polynomial_raised) (defScope s_Polynomial_raised) .none kV_Polynomial_raised dc_Polynomial_raised pm_Polynomial_raised an_Polynomial_raised cd_Polynomial_raised ct_Polynomial_raised) := fun_mk (st := s_Polynomial_raised) l_Polynomial_raised c_Polynomial_raised k_Polynomial_raised
  have F_Polynomial_power : Fun K "power" "Polynomial.power" s_Polynomial_power f_Polynomial_power (PySem.W.fnOf "power" "Polynomial.power" (defArgs s_Polynomial_power) (defBody s_Polynomial_power) (defScope s_Polynomial_power) .none kV_Polynomial_power dc_Polynomial_power pm_Polynomial_power an_Polynomial_power cd_Polynomial_power ct_Polynomial_power) := fun_mk (st := s_Polynomial_power) l_Polynomial_power c_Polynomial_power k_Polynomial_power
  have F_Polynomial_eq : Fun K "__eq__" "Polynomial.__eq__" s_Polynomial_eq f_Polynomial_eq (PySem.W.fnOf "__eq__" "Polynomial.__eq__" (defArgs s_Polynomial_eq) (defBody s_Polynomial_eq) (defScope s_Polynomial_eq) .none kV_Polynomial_eq dc_Polynomial_eq pm_Polynomial_eq an_Polynomial_eq cd_Polynomial_eq ct_Polynomial_eq) := fun_mk (st := s_Polynomial_eq) l_Polynomial_eq c_Polynomial_eq k_Polynomial_eq
  have F_law : Fun K "law" "law" s_law fa (PySem.W.fnOf "law" "law" (defArgs s_law) (defBody s_law) (defScope s_law) .none kV_law dc_law pm_law an_law cd_law ct_law) := fun_mk (st := s_law) l_law c_law k_law
  have kb_L_cell_2 : KB K _ ["_law_script", "_law_k"] 2 [] (fun ds _ => ds) := KB.of 2 rfl (F_L_cell.binds (ps := ["_law_script", "_law_k"]) fun _ _ _ _ _ _ us hl => match us, hl with | [_, _], _ => rfl)
  have kb_L_row_3 : KB K _ ["_law_cell_here", "_law_span", "_law_many"] 3 [] (fun ds _ => ds) := KB.of 3 rfl (F_L_row.binds (ps := ["_law_cell_here", "_law_span", "_law_many"]) fun _ _ _ _ _ _ us hl => match us, hl with | [_, _, _], _ => rfl)
  have kb_L_top_1 : KB K _ ["_law_number"] 1 [] (fun ds _ => ds) := KB.of 1 rfl (F_L_top.binds (ps := ["_law_number"]) fun _ _ _ _ _ _ us hl => match us, hl with | [_], _ => rfl)
  have kb_L_pairs_3 : KB K _ ["_law_script", "_law_at", "_law_many"] 3 [] (fun ds _ => ds) := KB.of 3 rfl (F_L_pairs.binds (ps := ["_law_script", "_law_at", "_law_many"]) fun _ _ _ _ _ _ us hl => match us, hl with | [_, _, _], _ => rfl)
  obtain ⟨its_kb_Fraction_init_3, b0_kb_Fraction_init_3⟩ := F_Fraction_init.kbindsD (ps := ["self", "top", "bottom"]) 3 [] (fun us its ws => match us, its, ws with | [x0, x1, x2], [d0], [] => [x0, x1, x2] | _, _, _ => []) (by simp) (fun {vs ds zs us its ws} r0_0 r1_0 r2_0 => by
      cases r0_0 with
      | nil => exact .nil
      | cons a0_0 r0_1 =>
        cases r0_1 with
        | nil => exact .nil
        | cons a0_1 r0_2 =>
          cases r0_2 with
          | nil => exact .nil
          | cons a0_2 r0_3 =>
            cases r0_3 with
            | cons _ _ => exact .nil
            | nil =>
              cases r1_0 with
              | nil => exact .nil
              | cons a1_0 r1_1 =>
                cases r1_1 with
                | cons _ _ => exact .nil
                | nil =>
                  cases r2_0 with
                  | cons _ _ => exact .nil
                  | nil =>
                    exact (.cons a0_0 (.cons a0_1 (.cons a0_2 .nil)))
      ) fun _ _ _ _ _ _ _ us its ws hl hi hw => match us, its, ws, hl, hi, hw with | [_, _, _], [_], [], _, _, _ => ⟨_, rfl, rfl⟩
  have kb_Fraction_init_3 : KB K _ ["self", "top", "bottom"] 3 [] (fun ds _ => ds) := ⟨_, _, b0_kb_Fraction_init_3, fun F ds zs vs ws h1 h2 l1 l2 => by
    match ds, l1, zs, l2, h1, h2 with
    | [x0, x1, x2], _, [], _, h1, h2 =>
      simp only [DenL] at h1 h2
      obtain ⟨u0, _, rfl, hx0, ⟨u1, _, rfl, hx1, ⟨u2, _, rfl, hx2, rfl⟩⟩⟩ := h1
      obtain rfl := h2
      exact (DenL.cons hx0 (DenL.cons hx1 (DenL.cons hx2 DenL.nil)))⟩
  have kb_L_handed_2 : KB K _ ["_law_pair", "_law_whole"] 2 [] (fun ds _ => ds) := KB.of 2 rfl (F_L_handed.binds (ps := ["_law_pair", "_law_whole"]) fun _ _ _ _ _ _ us hl => match us, hl with | [_, _], _ => rfl)
  obtain ⟨its_kb_Fraction_init_2, b0_kb_Fraction_init_2⟩ := F_Fraction_init.kbindsD (ps := ["self", "top", "bottom"]) 2 [] (fun us its ws => match us, its, ws with | [x0, x1], [d0], [] => [x0, x1, d0] | _, _, _ => []) (by simp) (fun {vs ds zs us its ws} r0_0 r1_0 r2_0 => by
      cases r0_0 with
      | nil => exact .nil
      | cons a0_0 r0_1 =>
        cases r0_1 with
        | nil => exact .nil
        | cons a0_1 r0_2 =>
          cases r0_2 with
          | cons _ _ => exact .nil
          | nil =>
            cases r1_0 with
            | nil => exact .nil
            | cons a1_0 r1_1 =>
              cases r1_1 with
              | cons _ _ => exact .nil
              | nil =>
                cases r2_0 with
                | cons _ _ => exact .nil
                | nil =>
                  exact (.cons a0_0 (.cons a0_1 (.cons a1_0 .nil)))
      ) fun _ _ _ _ _ _ _ us its ws hl hi hw => match us, its, ws, hl, hi, hw with | [_, _], [_], [], _, _, _ => ⟨_, rfl, rfl⟩
  have kb_Fraction_init_2 : KB K _ ["self", "top", "bottom"] 2 [] (fun ds zs => match ds, zs with | [x0, x1], [] => [x0, x1, (iD (1 : Int))] | _, _ => []) := ⟨_, _, b0_kb_Fraction_init_2, fun F ds zs vs ws h1 h2 l1 l2 => by
    match ds, l1, zs, l2, h1, h2 with
    | [x0, x1], _, [], _, h1, h2 =>
      simp only [DenL] at h1 h2
      obtain ⟨u0, _, rfl, hx0, ⟨u1, _, rfl, hx1, rfl⟩⟩ := h1
      obtain rfl := h2
      exact (DenL.cons hx0 (DenL.cons hx1 (DenL.cons (den_v.mpr rfl) DenL.nil)))⟩
  have kb_as_fraction_1 : KB K _ ["number"] 1 [] (fun ds _ => ds) := KB.of 1 rfl (F_as_fraction.binds (ps := ["number"]) fun _ _ _ _ _ _ us hl => match us, hl with | [_], _ => rfl)
  have kb_common_bottom_1 : KB K _ ["numbers"] 1 [] (fun ds _ => ds) := KB.of 1 rfl (F_common_bottom.binds (ps := ["numbers"]) fun _ _ _ _ _ _ us hl => match us, hl with | [_], _ => rfl)
  have kb_over_bottom_2 : KB K _ ["number", "bottom"] 2 [] (fun ds _ => ds) := KB.of 2 rfl (F_over_bottom.binds (ps := ["number", "bottom"]) fun _ _ _ _ _ _ us hl => match us, hl with | [_, _], _ => rfl)
  obtain ⟨its_kb_Polynomial_init_2, b0_kb_Polynomial_init_2⟩ := F_Polynomial_init.kbindsD (ps := ["self", "coefficients"]) 2 [] (fun us its ws => match us, its, ws with | [x0, x1], [d0], [] => [x0, x1] | _, _, _ => []) (by simp) (fun {vs ds zs us its ws} r0_0 r1_0 r2_0 => by
      cases r0_0 with
      | nil => exact .nil
      | cons a0_0 r0_1 =>
        cases r0_1 with
        | nil => exact .nil
        | cons a0_1 r0_2 =>
          cases r0_2 with
          | cons _ _ => exact .nil
          | nil =>
            cases r1_0 with
            | nil => exact .nil
            | cons a1_0 r1_1 =>
              cases r1_1 with
              | cons _ _ => exact .nil
              | nil =>
                cases r2_0 with
                | cons _ _ => exact .nil
                | nil =>
                  exact (.cons a0_0 (.cons a0_1 .nil))
      ) fun _ _ _ _ _ _ _ us its ws hl hi hw => match us, its, ws, hl, hi, hw with | [_, _], [_], [], _, _, _ => ⟨_, rfl, rfl⟩
  have kb_Polynomial_init_2 : KB K _ ["self", "coefficients"] 2 [] (fun ds _ => ds) := ⟨_, _, b0_kb_Polynomial_init_2, fun F ds zs vs ws h1 h2 l1 l2 => by
    match ds, l1, zs, l2, h1, h2 with
    | [x0, x1], _, [], _, h1, h2 =>
      simp only [DenL] at h1 h2
      obtain ⟨u0, _, rfl, hx0, ⟨u1, _, rfl, hx1, rfl⟩⟩ := h1
      obtain rfl := h2
      exact (DenL.cons hx0 (DenL.cons hx1 DenL.nil))⟩
  obtain ⟨its_kb_Polynomial_init_1_coefficients, b0_kb_Polynomial_init_1_coefficients⟩ := F_Polynomial_init.kbindsD (ps := ["self", "coefficients"]) 1 ["coefficients"] (fun us its ws => match us, its, ws with | [x0], [d0], [y0] => [x0, y0] | _, _, _ => []) (by simp) (fun {vs ds zs us its ws} r0_0 r1_0 r2_0 => by
      cases r0_0 with
      | nil => exact .nil
      | cons a0_0 r0_1 =>
        cases r0_1 with
        | cons _ _ => exact .nil
        | nil =>
          cases r1_0 with
          | nil => exact .nil
          | cons a1_0 r1_1 =>
            cases r1_1 with
            | cons _ _ => exact .nil
            | nil =>
              cases r2_0 with
              | nil => exact .nil
              | cons a2_0 r2_1 =>
                cases r2_1 with
                | cons _ _ => exact .nil
                | nil =>
                  exact (.cons a0_0 (.cons a2_0 .nil))
      ) fun _ _ _ _ _ _ _ us its ws hl hi hw => match us, its, ws, hl, hi, hw with | [_], [_], [_], _, _, _ => ⟨_, rfl, rfl⟩
  have kb_Polynomial_init_1_coefficients : KB K _ ["self", "coefficients"] 1 ["coefficients"] (fun ds zs => match ds, zs with | [x0], [y0] => [x0, y0] | _, _ => []) := ⟨_, _, b0_kb_Polynomial_init_1_coefficients, fun F ds zs vs ws h1 h2 l1 l2 => by
    match ds, l1, zs, l2, h1, h2 with
    | [x0], _, [y0], _, h1, h2 =>
      simp only [DenL] at h1 h2
      obtain ⟨u0, _, rfl, hx0, rfl⟩ := h1
      obtain ⟨t0, _, rfl, hy0, rfl⟩ := h2
      exact (DenL.cons hx0 (DenL.cons hy0 DenL.nil))⟩
  have kb_is_number_1 : KB K _ ["thing"] 1 [] (fun ds _ => ds) := KB.of 1 rfl (F_is_number.binds (ps := ["thing"]) fun _ _ _ _ _ _ us hl => match us, hl with | [_], _ => rfl)
  have kb_order_2 : KB K _ ["fraction", "number"] 2 [] (fun ds _ => ds) := KB.of 2 rfl (F_order.binds (ps := ["fraction", "number"]) fun _ _ _ _ _ _ us hl => match us, hl with | [_, _], _ => rfl)
  have kb_L_cut_1 : KB K _ ["_law_pairs_here"] 1 [] (fun ds _ => ds) := KB.of 1 rfl (F_L_cut.binds (ps := ["_law_pairs_here"]) fun _ _ _ _ _ _ us hl => match us, hl with | [_], _ => rfl)
  have kb_Polynomial_coefficients_1 : KB K _ ["self"] 1 [] (fun ds _ => ds) := KB.of 1 rfl (F_Polynomial_coefficients.binds (ps := ["self"]) fun _ _ _ _ _ _ us hl => match us, hl with | [_], _ => rfl)
  have kb_L_is_2 : KB K _ ["_law_got", "_law_pair"] 2 [] (fun ds _ => ds) := KB.of 2 rfl (F_L_is.binds (ps := ["_law_got", "_law_pair"]) fun _ _ _ _ _ _ us hl => match us, hl with | [_, _], _ => rfl)
  have kb_L_list_2 : KB K _ ["_law_values", "_law_pairs_here"] 2 [] (fun ds _ => ds) := KB.of 2 rfl (F_L_list.binds (ps := ["_law_values", "_law_pairs_here"]) fun _ _ _ _ _ _ us hl => match us, hl with | [_, _], _ => rfl)
  have kb_L_asked_2 : KB K _ ["_law_p", "_law_pairs_here"] 2 [] (fun ds _ => ds) := KB.of 2 rfl (F_L_asked.binds (ps := ["_law_p", "_law_pairs_here"]) fun _ _ _ _ _ _ us hl => match us, hl with | [_, _], _ => rfl)
  have kb_L_value_2 : KB K _ ["_law_pairs_here", "_law_place"] 2 [] (fun ds _ => ds) := KB.of 2 rfl (F_L_value.binds (ps := ["_law_pairs_here", "_law_place"]) fun _ _ _ _ _ _ us hl => match us, hl with | [_, _], _ => rfl)
  obtain ⟨its_kb_Polynomial_init_1, b0_kb_Polynomial_init_1⟩ := F_Polynomial_init.kbindsD (ps := ["self", "coefficients"]) 1 [] (fun us its ws => match us, its, ws with | [x0], [d0], [] => [x0, d0] | _, _, _ => []) (by simp) (fun {vs ds zs us its ws} r0_0 r1_0 r2_0 => by
      cases r0_0 with
      | nil => exact .nil
      | cons a0_0 r0_1 =>
        cases r0_1 with
        | cons _ _ => exact .nil
        | nil =>
          cases r1_0 with
          | nil => exact .nil
          | cons a1_0 r1_1 =>
            cases r1_1 with
            | cons _ _ => exact .nil
            | nil =>
              cases r2_0 with
              | cons _ _ => exact .nil
              | nil =>
                exact (.cons a0_0 (.cons a1_0 .nil))
      ) fun _ _ _ _ _ _ _ us its ws hl hi hw => match us, its, ws, hl, hi, hw with | [_], [_], [], _, _, _ => ⟨_, rfl, rfl⟩
  have kb_Polynomial_init_1 : KB K _ ["self", "coefficients"] 1 [] (fun ds zs => match ds, zs with | [x0], [] => [x0, (eT0 ())] | _, _ => []) := ⟨_, _, b0_kb_Polynomial_init_1, fun F ds zs vs ws h1 h2 l1 l2 => by
    match ds, l1, zs, l2, h1, h2 with
    | [x0], _, [], _, h1, h2 =>
      simp only [DenL] at h1 h2
      obtain ⟨u0, _, rfl, hx0, rfl⟩ := h1
      obtain rfl := h2
      exact (DenL.cons hx0 (DenL.cons (den_tup0 e_TU_Polynomial_init_0) DenL.nil))⟩
  have kb_made_2 : KB K _ ["tops", "bottom"] 2 [] (fun ds _ => ds) := KB.of 2 rfl (F_made.binds (ps := ["tops", "bottom"]) fun _ _ _ _ _ _ us hl => match us, hl with | [_, _], _ => rfl)
  have kb_Polynomial_scaled_2 : KB K _ ["self", "number"] 2 [] (fun ds _ => ds) := KB.of 2 rfl (F_Polynomial_scaled.binds (ps := ["self", "number"]) fun _ _ _ _ _ _ us hl => match us, hl with | [_, _], _ => rfl)
  have kb_Polynomial_raised_2 : KB K _ ["self", "k"] 2 [] (fun ds _ => ds) := KB.of 2 rfl (F_Polynomial_raised.binds (ps := ["self", "k"]) fun _ _ _ _ _ _ us hl => match us, hl with | [_, _], _ => rfl)
  have kb_Polynomial_power_1 : KB K _ ["k"] 1 [] (fun ds _ => ds) := KB.of 1 rfl (F_Polynomial_power.binds (ps := ["k"]) fun _ _ _ _ _ _ us hl => match us, hl with | [_], _ => rfl)
  refine ⟨PySem.W.fnOf "law" "law" (defArgs s_law) (defBody s_law) (defScope s_law) .none kV_law dc_law pm_law an_law cd_law ct_law, fun s v => .of_eq rfl, fun base _ _ => ?_⟩
  let T : Tx l.prog w K mg base := { C_Fraction := C_Fraction, C_Polynomial := C_Polynomial, C_BadFraction := C_BadFraction, pp_Polynomial_degree := pp_Polynomial_degree, pp_Polynomial_power := pp_Polynomial_power, f_L_cell := f_L_cell, fd_L_cell := PySem.W.fnOf "_law_cell" "_law_cell" (defArgs s_L_cell) (defBody s_L_cell) (defScope s_L_cell) .none kV_L_cell dc_L_cell pm_L_cell an_L_cell cd_L_cell ct_L_cell, F_L_cell := F_L_cell, f_L_row := f_L_row, fd_L_row := PySem.W.fnOf "_law_row" "_law_row" (defArgs s_L_row) (defBody s_L_row) (defScope s_L_row) .none kV_L_row dc_L_row pm_L_row an_L_row cd_L_row ct_L_row, F_L_row := F_L_row, f_L_top := f_L_top, fd_L_top := PySem.W.fnOf "_law_top" "_law_top" (defArgs s_L_top) (defBody s_L_top) (defScope s_L_top) .none kV_L_top dc_L_top pm_L_top an_L_top cd_L_top ct_L_top, F_L_top := F_L_top, f_L_pairs := f_L_pairs, fd_L_pairs := PySem.W.fnOf "_law_pairs" "_law_pairs" (defArgs s_L_pairs) (defBody s_L_pairs) (defScope s_L_pairs) .none kV_L_pairs dc_L_pairs pm_L_pairs an_L_pairs cd_L_pairs ct_L_pairs, F_L_pairs := F_L_pairs, f_Fraction_init := f_Fraction_init, fd_Fraction_init := PySem.W.fnOf "__init__" "Fraction.__init__" (defArgs s_Fraction_init) (defBody s_Fraction_init) (defScope s_Fraction_init) (.ref T_Fraction_init) kV_Fraction_init dc_Fraction_init pm_Fraction_init an_Fraction_init cd_Fraction_init ct_Fraction_init, F_Fraction_init := F_Fraction_init, f_L_handed := f_L_handed, fd_L_handed := PySem.W.fnOf "_law_handed" "_law_handed" (defArgs s_L_handed) (defBody s_L_handed) (defScope s_L_handed) .none kV_L_handed dc_L_handed pm_L_handed an_L_handed cd_L_handed ct_L_handed, F_L_handed := F_L_handed, f_as_fraction := f_as_fraction, fd_as_fraction := PySem.W.fnOf "as_fraction" "as_fraction" (defArgs s_as_fraction) (defBody s_as_fraction) (defScope s_as_fraction) .none kV_as_fraction dc_as_fraction pm_as_fraction an_as_fraction cd_as_fraction ct_as_fraction, F_as_fraction := F_as_fraction, f_Fraction_bool := f_Fraction_bool, fd_Fraction_bool := PySem.W.fnOf "__bool__" "Fraction.__bool__" (defArgs s_Fraction_bool) (defBody s_Fraction_bool) (defScope s_Fraction_bool) .none kV_Fraction_bool dc_Fraction_bool pm_Fraction_bool an_Fraction_bool cd_Fraction_bool ct_Fraction_bool, F_Fraction_bool := F_Fraction_bool, f_common_bottom := f_common_bottom, fd_common_bottom := PySem.W.fnOf "common_bottom" "common_bottom" (defArgs s_common_bottom) (defBody s_common_bottom) (defScope s_common_bottom) .none kV_common_bottom dc_common_bottom pm_common_bottom an_common_bottom cd_common_bottom ct_common_bottom, F_common_bottom := F_common_bottom, f_over_bottom := f_over_bottom, fd_over_bottom := PySem.W.fnOf "over_bottom" "over_bottom" (defArgs s_over_bottom) (defBody s_over_bottom) (defScope s_over_bottom) .none kV_over_bottom dc_over_bottom pm_over_bottom an_over_bottom cd_over_bottom ct_over_bottom, F_over_bottom := F_over_bottom, TU_Polynomial_init_0 := TU_Polynomial_init_0, f_Polynomial_init := f_Polynomial_init, fd_Polynomial_init := PySem.W.fnOf "__init__" "Polynomial.__init__" (defArgs s_Polynomial_init) (defBody s_Polynomial_init) (defScope s_Polynomial_init) (.ref T_Polynomial_init) kV_Polynomial_init dc_Polynomial_init pm_Polynomial_init an_Polynomial_init cd_Polynomial_init ct_Polynomial_init, F_Polynomial_init := F_Polynomial_init, f_Fraction_eq := f_Fraction_eq, fd_Fraction_eq := PySem.W.fnOf "__eq__" "Fraction.__eq__" (defArgs s_Fraction_eq) (defBody s_Fraction_eq) (defScope s_Fraction_eq) .none kV_Fraction_eq dc_Fraction_eq pm_Fraction_eq an_Fraction_eq cd_Fraction_eq ct_Fraction_eq, F_Fraction_eq := F_Fraction_eq, f_is_number := f_is_number, fd_is_number := PySem.W.fnOf "_is_number" "_is_number" (defArgs s_is_number) (defBody s_is_number) (defScope s_is_number) .none kV_is_number dc_is_number pm_is_number an_is_number cd_is_number ct_is_number, F_is_number := F_is_number, f_order := f_order, fd_order := PySem.W.fnOf "_order" "_order" (defArgs s_order) (defBody s_order) (defScope s_order) .none kV_order dc_order pm_order an_order cd_order ct_order, F_order := F_order, f_L_cut := f_L_cut, fd_L_cut := PySem.W.fnOf "_law_cut" "_law_cut" (defArgs s_L_cut) (defBody s_L_cut) (defScope s_L_cut) .none kV_L_cut dc_L_cut pm_L_cut an_L_cut cd_L_cut ct_L_cut, F_L_cut := F_L_cut, f_Polynomial_coefficients := f_Polynomial_coefficients, fd_Polynomial_coefficients := PySem.W.fnOf "coefficients" "Polynomial.coefficients" (defArgs s_Polynomial_coefficients) (defBody s_Polynomial_coefficients) (defScope s_Polynomial_coefficients) .none kV_Polynomial_coefficients dc_Polynomial_coefficients pm_Polynomial_coefficients an_Polynomial_coefficients cd_Polynomial_coefficients ct_Polynomial_coefficients, F_Polynomial_coefficients := F_Polynomial_coefficients, f_Polynomial_degree := f_Polynomial_degree, fd_Polynomial_degree := PySem.W.fnOf "degree" "Polynomial.degree" (defArgs s_Polynomial_degree) (defBody s_Polynomial_degree) (defScope s_Polynomial_degree) .none kV_Polynomial_degree dc_Polynomial_degree pm_Polynomial_degree an_Polynomial_degree cd_Polynomial_degree ct_Polynomial_degree, F_Polynomial_degree := F_Polynomial_degree, f_Polynomial_len := f_Polynomial_len, fd_Polynomial_len := PySem.W.fnOf "__len__" "Polynomial.__len__" (defArgs s_Polynomial_len) (defBody s_Polynomial_len) (defScope s_Polynomial_len) .none kV_Polynomial_len dc_Polynomial_len pm_Polynomial_len an_Polynomial_len cd_Polynomial_len ct_Polynomial_len, F_Polynomial_len := F_Polynomial_len, f_L_is := f_L_is, fd_L_is := PySem.W.fnOf "_law_is" "_law_is" (defArgs s_L_is) (defBody s_L_is) (defScope s_L_is) .none kV_L_is dc_L_is pm_L_is an_L_is cd_L_is ct_L_is, F_L_is := F_L_is, f_L_list := f_L_list, fd_L_list := PySem.W.fnOf "_law_list" "_law_list" (defArgs s_L_list) (defBody s_L_list) (defScope s_L_list) .none kV_L_list dc_L_list pm_L_list an_L_list cd_L_list ct_L_list, F_L_list := F_L_list, f_Polynomial_getitem := f_Polynomial_getitem, fd_Polynomial_getitem := PySem.W.fnOf "__getitem__" "Polynomial.__getitem__" (defArgs s_Polynomial_getitem) (defBody s_Polynomial_getitem) (defScope s_Polynomial_getitem) .none kV_Polynomial_getitem dc_Polynomial_getitem pm_Polynomial_getitem an_Polynomial_getitem cd_Polynomial_getitem ct_Polynomial_getitem, F_Polynomial_getitem := F_Polynomial_getitem, f_L_asked := f_L_asked, fd_L_asked := PySem.W.fnOf "_law_asked" "_law_asked" (defArgs s_L_asked) (defBody s_L_asked) (defScope s_L_asked) .none kV_L_asked dc_L_asked pm_L_asked an_L_asked cd_L_asked ct_L_asked, F_L_asked := F_L_asked, f_Polynomial_call := f_Polynomial_call, fd_Polynomial_call := PySem.W.fnOf "__call__" "Polynomial.__call__" (defArgs s_Polynomial_call) (defBody s_Polynomial_call) (defScope s_Polynomial_call) .none kV_Polynomial_call dc_Polynomial_call pm_Polynomial_call an_Polynomial_call cd_Polynomial_call ct_Polynomial_call, F_Polynomial_call := F_Polynomial_call, f_L_value := f_L_value, fd_L_value := PySem.W.fnOf "_law_value" "_law_value" (defArgs s_L_value) (defBody s_L_value) (defScope s_L_value) .none kV_L_value dc_L_value pm_L_value an_L_value cd_L_value ct_L_value, F_L_value := F_L_value, f_made := f_made, fd_made := PySem.W.fnOf "_made" "_made" (defArgs s_made) (defBody s_made) (defScope s_made) .none kV_made dc_made pm_made an_made cd_made ct_made, F_made := F_made, f_Polynomial_neg := f_Polynomial_neg, fd_Polynomial_neg := PySem.W.fnOf "__neg__" "Polynomial.__neg__" (defArgs s_Polynomial_neg) (defBody s_Polynomial_neg) (defScope s_Polynomial_neg) .none kV_Polynomial_neg dc_Polynomial_neg pm_Polynomial_neg an_Polynomial_neg cd_Polynomial_neg ct_Polynomial_neg, F_Polynomial_neg := F_Polynomial_neg, f_Polynomial_scaled := f_Polynomial_scaled, fd_Polynomial_scaled := PySem.W.fnOf "scaled" "Polynomial.scaled" (defArgs s_Polynomial_scaled) (defBody s_Polynomial_scaled) (defScope s_Polynomial_scaled) .none kV_Polynomial_scaled dc_Polynomial_scaled pm_Polynomial_scaled an_Polynomial_scaled cd_Polynomial_scaled ct_Polynomial_scaled, F_Polynomial_scaled := F_Polynomial_scaled, f_Polynomial_raised := f_Polynomial_raised, fd_Polynomial_raised := PySem.W.fnOf "raised" "Polynomial.raised" (defArgs s_Polynomial_raised) (defBody s_Polynomial_raised) (defScope s_Polynomial_raised) .none kV_Polynomial_raised dc_Polynomial_raised pm_Polynomial_raised an_Polynomial_raised cd_Polynomial_raised ct_Polynomial_raised, F_Polynomial_raised := F_Polynomial_raised, f_Polynomial_power := f_Polynomial_power, fd_Polynomial_power := PySem.W.fnOf "power" "Polynomial.power" (defArgs s_Polynomial_power) (defBody s_Polynomial_power) (defScope s_Polynomial_power) .none kV_Polynomial_power dc_Polynomial_power pm_Polynomial_power an_Polynomial_power cd_Polynomial_power ct_Polynomial_power, F_Polynomial_power := F_Polynomial_power, f_Polynomial_eq := f_Polynomial_eq, fd_Polynomial_eq := PySem.W.fnOf "__eq__" "Polynomial.__eq__" (defArgs s_Polynomial_eq) (defBody s_Polynomial_eq) (defScope s_Polynomial_eq) .none kV_Polynomial_eq dc_Polynomial_eq pm_Polynomial_eq an_Polynomial_eq cd_Polynomial_eq ct_Polynomial_eq, F_Polynomial_eq := F_Polynomial_eq, f_law := fa, fd_law := PySem.W.fnOf "law" "law" (defArgs s_law) (defBody s_law) (defScope s_law) .none kV_law dc_law pm_law an_law cd_law ct_law, F_law := F_law, z_len := PySem.W.mg_none_of X G z_len, m_L_cell := PySem.W.mg_of X G a_L_cell, k_L_cell := k_L_cell, kb_L_cell_2 := kb_L_cell_2, z_int := PySem.W.mg_none_of X G z_int, z_abs := PySem.W.mg_none_of X G z_abs, z_range := PySem.W.mg_none_of X G z_range, m_L_row := PySem.W.mg_of X G a_L_row, k_L_row := k_L_row, kb_L_row_3 := kb_L_row_3, m_L_top := PySem.W.mg_of X G a_L_top, k_L_top := k_L_top, kb_L_top_1 := kb_L_top_1, m_L_pairs := PySem.W.mg_of X G a_L_pairs, k_L_pairs := k_L_pairs, kb_L_pairs_3 := kb_L_pairs_3, mg_Fraction := PySem.W.mg_of X G a_Fraction, mk_Fraction := ⟨mkh_Fraction, a_Fraction_init, i_Fraction_init, kc_Fraction⟩, kb_Fraction_init_3 := kb_Fraction_init_3, m_L_handed := PySem.W.mg_of X G a_L_handed, k_L_handed := k_L_handed, kb_L_handed_2 := kb_L_handed_2, cls_Polynomial := ⟨pg_Polynomial, hd_Polynomial, po_Polynomial, sa_Polynomial⟩, z_isinstance := PySem.W.mg_none_of X G z_isinstance, sub1 := sub1, sub2 := sub2, icl := icl, ityp := ityp, kb_Fraction_init_2 := kb_Fraction_init_2, cls_Fraction := ⟨pg_Fraction, hd_Fraction, po_Fraction, sa_Fraction⟩, ca_Fraction := ca_Fraction, cm_Fraction := cm_Fraction, cn := cn, ct := ct, m_as_fraction := PySem.W.mg_of X G a_as_fraction, k_as_fraction := k_as_fraction, kb_as_fraction_1 := kb_as_fraction_1, na_Fraction_top := na_Fraction_top, z_bool := PySem.W.mg_none_of X G z_bool, cmp_bool := ⟨a_Fraction_bool, i_Fraction_bool⟩, bb_Fraction_bool := F_Fraction_bool.binds (ps := ["self"]) fun _ _ _ _ _ _ us hl => match us, hl with | [_], _ => rfl, na_Fraction_bottom := na_Fraction_bottom, i_lcm := PySem.W.mg_of X G bi_lcm, m_common_bottom := PySem.W.mg_of X G a_common_bottom, k_common_bottom := k_common_bottom, kb_common_bottom_1 := kb_common_bottom_1, na_Polynomial__bottom := na_Polynomial__bottom, m_over_bottom := PySem.W.mg_of X G a_over_bottom, k_over_bottom := k_over_bottom, kb_over_bottom_2 := kb_over_bottom_2, na_Polynomial__tops := na_Polynomial__tops, mg_Polynomial := PySem.W.mg_of X G a_Polynomial, mk_Polynomial := ⟨mkh_Polynomial, a_Polynomial_init, i_Polynomial_init, kc_Polynomial⟩, kb_Polynomial_init_2 := kb_Polynomial_init_2, z_tuple := PySem.W.mg_none_of X G z_tuple, kb_Polynomial_init_1_coefficients := kb_Polynomial_init_1_coefficients, cmp_eq := ⟨a_Fraction_eq, i_Fraction_eq⟩, m_is_number := PySem.W.mg_of X G a_is_number, k_is_number := k_is_number, kb_is_number_1 := kb_is_number_1, m_order := PySem.W.mg_of X G a_order, k_order := k_order, kb_order_2 := kb_order_2, bb_Fraction_eq := F_Fraction_eq.binds (ps := ["self", "other"]) fun _ _ _ _ _ _ us hl => match us, hl with | [_, _], _ => rfl, z_all := PySem.W.mg_none_of X G z_all, m_L_cut := PySem.W.mg_of X G a_L_cut, k_L_cut := k_L_cut, kb_L_cut_1 := kb_L_cut_1, bb_Polynomial_degree := F_Polynomial_degree.binds (ps := ["self"]) fun _ _ _ _ _ _ us hl => match us, hl with | [_], _ => rfl, ca_Polynomial := ca_Polynomial, cm_Polynomial := cm_Polynomial, pf_Polynomial_degree := ⟨a_Polynomial_degree, g_Polynomial_degree, t_Polynomial_degree, _, r_Polynomial_degree⟩, cmpo_Polynomial_len := ⟨a_Polynomial_len, i_Polynomial_len⟩, bb_Polynomial_len := F_Polynomial_len.binds (ps := ["self"]) fun _ _ _ _ _ _ us hl => match us, hl with | [_], _ => rfl, me_Polynomial_coefficients := ⟨a_Polynomial_coefficients, i_Polynomial_coefficients, k_Polynomial_coefficients⟩, kb_Polynomial_coefficients_1 := kb_Polynomial_coefficients_1, z_list := PySem.W.mg_none_of X G z_list, m_L_is := PySem.W.mg_of X G a_L_is, k_L_is := k_L_is, kb_L_is_2 := kb_L_is_2, m_L_list := PySem.W.mg_of X G a_L_list, k_L_list := k_L_list, kb_L_list_2 := kb_L_list_2, fnin_Polynomial_getitem := fnin_Polynomial_getitem, cmpo_Polynomial_getitem := ⟨a_Polynomial_getitem, i_Polynomial_getitem⟩, bb_Polynomial_getitem := F_Polynomial_getitem.binds (ps := ["self", "at"]) fun _ _ _ _ _ _ us hl => match us, hl with | [_, _], _ => rfl, m_L_asked := PySem.W.mg_of X G a_L_asked, k_L_asked := k_L_asked, kb_L_asked_2 := kb_L_asked_2, fnin_Polynomial_call := fnin_Polynomial_call, cmpo_Polynomial_call := ⟨a_Polynomial_call, i_Polynomial_call⟩, bb_Polynomial_call := F_Polynomial_call.binds (ps := ["self", "x"]) fun _ _ _ _ _ _ us hl => match us, hl with | [_, _], _ => rfl, m_L_value := PySem.W.mg_of X G a_L_value, k_L_value := k_L_value, kb_L_value_2 := kb_L_value_2, i_gcd := PySem.W.mg_of X G bi_gcd, kb_Polynomial_init_1 := kb_Polynomial_init_1, m_made := PySem.W.mg_of X G a_made, k_made := k_made, kb_made_2 := kb_made_2, cmpo_Polynomial_neg := ⟨a_Polynomial_neg, i_Polynomial_neg⟩, bb_Polynomial_neg := F_Polynomial_neg.binds (ps := ["self"]) fun _ _ _ _ _ _ us hl => match us, hl with | [_], _ => rfl, me_Polynomial_scaled := ⟨a_Polynomial_scaled, i_Polynomial_scaled, k_Polynomial_scaled⟩, kb_Polynomial_scaled_2 := kb_Polynomial_scaled_2, me_Polynomial_raised := ⟨a_Polynomial_raised, i_Polynomial_raised, k_Polynomial_raised⟩, kb_Polynomial_raised_2 := kb_Polynomial_raised_2, sm_Polynomial_power := ⟨rd_Polynomial, ga_Polynomial, a_Polynomial_power, ⟨_, r_Polynomial_power⟩, k_Polynomial_power⟩, kb_Polynomial_power_1 := kb_Polynomial_power_1, cmpo_Polynomial_eq := ⟨a_Polynomial_eq, i_Polynomial_eq⟩, bb_Polynomial_eq := F_Polynomial_eq.binds (ps := ["self", "other"]) fun _ _ _ _ _ _ us hl => match us, hl with | [_, _], _ => rfl, er_BadFraction := ⟨PySem.W.mg_of X G a_BadFraction, x_BadFraction_exc, x_BadFraction_kp, x_BadFraction_be, x_BadFraction_ty, x_BadFraction_hd, x_BadFraction_self⟩ }
  exact ok_law T law_all
theorem walk {l : PySem.W.OpenLaw} {q : Program} {loose : List Str} {XP : (Str → Option Value) → Heap → Prop} {YP : World → Heap → Prop} {d : DefRec} {K : Params → PySem.W.Frag} (hn : l.most = some 63) (hdf : d.params.defaults = [])
    (hY : ∀ (w : World) (h : Heap), YP w h → (K w.params).In h)
    (F : ∀ (w : World) (mg : Str → Option Value) (fa : Addr) (h : Heap), (K w.params).In h → h.Ns mainGlobals mg → mg d.name = some (.ref fa) →
      ∃ fd : FuncData, (∀ (s : Shared) (u : Value), BindsTo s fd ⟨[u], []⟩ [("_law_script", u)]) ∧ ∀ base : Heap, (K w.params).In base → base.Ns mainGlobals mg → FnOk l.prog w (K w.params) mg base CX0 8 fa fd ["_law_script"] (spD (K w.params) 1 R_law)) :
    PySem.W.WalkO q loose XP YP l.row.toRowW d [] (fun f vs => PySem.call f vs) :=
  L2.walk_of (n := 63) (k := 8) (x := "_law_script") (CX := fun _ => CX0) (sp := fun w => spD (K w.params) 1 R_law) hn (by decide) hdf ⟨rfl, by decide, by decide⟩ hY F (fun _ _ a ns hl _ hS => sp_law hl hS fun _ => rfl) fun _ _ _ _ _ z => z
end Law

open PySem PySem.W PyProof.Rows in
set_option maxRecDepth 100000 in
set_option maxHeartbeats 0 in
theorem PySem.Challenge.cw_tracerline_k06_polynomial_parts_holds : PySem.Challenge.rw_tracerline_k06_polynomial_parts.Holds := by
  w_on; o_law; k_head; (case hw => w_witness2)
  k_fill
  refine Law.walk (l := PySem.Challenge.rw_tracerline_k06_polynomial_parts) rfl rfl (fun w h Y => PySem.W.kIn_of Y) ?F
  case F =>
    intro w mg fa h KX G hmg
    refine' Law.all_mk KX G hmg ?a_Fraction ?a_Polynomial ?a_BadFraction ?a_L_cell ?l_L_cell ?c_L_cell ?k_L_cell ?a_L_row ?l_L_row ?c_L_row ?k_L_row ?a_L_top ?l_L_top ?c_L_top ?k_L_top ?a_L_pairs ?l_L_pairs ?c_L_pairs ?k_L_pairs ?a_Fraction_init ?i_Fraction_init ?l_Fraction_init ?d_Fraction_init ?c_Fraction_init ?k_Fraction_init ?a_L_handed ?l_L_handed ?c_L_handed ?k_L_handed ?a_as_fraction ?l_as_fraction ?c_as_fraction ?k_as_fraction ?a_Fraction_bool ?i_Fraction_bool ?l_Fraction_bool ?c_Fraction_bool ?k_Fraction_bool ?a_common_bottom ?l_common_bottom ?c_common_bottom ?k_common_bottom ?a_over_bottom ?l_over_bottom ?c_over_bottom ?k_over_bottom ?a_Polynomial_init ?i_Polynomial_init ?l_Polynomial_init ?d_Polynomial_init ?e_TU_Polynomial_init_0 ?c_Polynomial_init ?k_Polynomial_init ?a_Fraction_eq ?i_Fraction_eq ?l_Fraction_eq ?c_Fraction_eq ?k_Fraction_eq ?a_is_number ?l_is_number ?c_is_number ?k_is_number ?a_order ?l_order ?c_order ?k_order ?a_L_cut ?l_L_cut ?c_L_cut ?k_L_cut ?a_Polynomial_coefficients ?i_Polynomial_coefficients ?l_Polynomial_coefficients ?c_Polynomial_coefficients ?k_Polynomial_coefficients ?a_Polynomial_degree ?g_Polynomial_degree ?t_Polynomial_degree ?r_Polynomial_degree ?l_Polynomial_degree ?c_Polynomial_degree ?k_Polynomial_degree ?a_Polynomial_len ?i_Polynomial_len ?l_Polynomial_len ?c_Polynomial_len ?k_Polynomial_len ?a_L_is ?l_L_is ?c_L_is ?k_L_is ?a_L_list ?l_L_list ?c_L_list ?k_L_list ?a_Polynomial_getitem ?i_Polynomial_getitem ?l_Polynomial_getitem ?c_Polynomial_getitem ?k_Polynomial_getitem ?a_L_asked ?l_L_asked ?c_L_asked ?k_L_asked ?a_Polynomial_call ?i_Polynomial_call ?l_Polynomial_call ?c_Polynomial_call ?k_Polynomial_call ?a_L_value ?l_L_value ?c_L_value ?k_L_value ?a_made ?l_made ?c_made ?k_made ?a_Polynomial_neg ?i_Polynomial_neg ?l_Polynomial_neg ?c_Polynomial_neg ?k_Polynomial_neg ?a_Polynomial_scaled ?i_Polynomial_scaled ?l_Polynomial_scaled ?c_Polynomial_scaled ?k_Polynomial_scaled ?a_Polynomial_raised ?i_Polynomial_raised ?l_Polynomial_raised ?c_Polynomial_raised ?k_Polynomial_raised ?a_Polynomial_power ?r_Polynomial_power ?rd_Polynomial ?ga_Polynomial ?l_Polynomial_power ?c_Polynomial_power ?k_Polynomial_power ?a_Polynomial_eq ?i_Polynomial_eq ?l_Polynomial_eq ?c_Polynomial_eq ?k_Polynomial_eq ?a_law ?l_law ?c_law ?k_law ?z_len ?z_int ?z_abs ?z_range ?mkh_Fraction ?kc_Fraction ?pg_Polynomial ?hd_Polynomial ?po_Polynomial ?sa_Polynomial ?z_isinstance ?sub1 ?sub2 ?icl ?ityp ?pg_Fraction ?hd_Fraction ?po_Fraction ?sa_Fraction ?ca_Fraction ?cm_Fraction ?cn ?ct ?na_Fraction_top ?z_bool ?na_Fraction_bottom ?bi_lcm ?na_Polynomial__bottom ?na_Polynomial__tops ?mkh_Polynomial ?kc_Polynomial ?z_tuple ?z_all ?ca_Polynomial ?cm_Polynomial ?z_list ?fnin_Polynomial_getitem ?fnin_Polynomial_call ?bi_gcd ?x_BadFraction_exc ?x_BadFraction_kp ?x_BadFraction_be ?x_BadFraction_ty ?x_BadFraction_hd ?x_BadFraction_self
    (case a_Fraction => k_is)
    (case a_Polynomial => k_is)
    (case a_BadFraction => k_is)
    (case a_L_cell => k_is)
    (case l_L_cell => k_is)
    (case c_L_cell => k_is)
    (case k_L_cell => k_is)
    (case a_L_row => k_is)
    (case l_L_row => k_is)
    (case c_L_row => k_is)
    (case k_L_row => k_is)
    (case a_L_top => k_is)
    (case l_L_top => k_is)
    (case c_L_top => k_is)
    (case k_L_top => k_is)
    (case a_L_pairs => k_is)
    (case l_L_pairs => k_is)
    (case c_L_pairs => k_is)
    (case k_L_pairs => k_is)
    (case a_Fraction_init => k_is)
    (case i_Fraction_init => k_is)
    (case l_Fraction_init => k_is)
    (case d_Fraction_init => k_is)
    (case c_Fraction_init => k_is)
    (case k_Fraction_init => k_is)
    (case a_L_handed => k_is)
    (case l_L_handed => k_is)
    (case c_L_handed => k_is)
    (case k_L_handed => k_is)
    (case a_as_fraction => k_is)
    (case l_as_fraction => k_is)
    (case c_as_fraction => k_is)
    (case k_as_fraction => k_is)
    (case a_Fraction_bool => k_is)
    (case i_Fraction_bool => k_is)
    (case l_Fraction_bool => k_is)
    (case c_Fraction_bool => k_is)
    (case k_Fraction_bool => k_is)
    (case a_common_bottom => k_is)
    (case l_common_bottom => k_is)
    (case c_common_bottom => k_is)
    (case k_common_bottom => k_is)
    (case a_over_bottom => k_is)
    (case l_over_bottom => k_is)
    (case c_over_bottom => k_is)
    (case k_over_bottom => k_is)
    (case a_Polynomial_init => k_is)
    (case i_Polynomial_init => k_is)
    (case l_Polynomial_init => k_is)
    (case d_Polynomial_init => k_is)
    (case e_TU_Polynomial_init_0 => k_is)
    (case c_Polynomial_init => k_is)
    (case k_Polynomial_init => k_is)
    (case a_Fraction_eq => k_is)
    (case i_Fraction_eq => k_is)
    (case l_Fraction_eq => k_is)
    (case c_Fraction_eq => k_is)
    (case k_Fraction_eq => k_is)
    (case a_is_number => k_is)
    (case l_is_number => k_is)
    (case c_is_number => k_is)
    (case k_is_number => k_is)
    (case a_order => k_is)
    (case l_order => k_is)
    (case c_order => k_is)
    (case k_order => k_is)
    (case a_L_cut => k_is)
    (case l_L_cut => k_is)
    (case c_L_cut => k_is)
    (case k_L_cut => k_is)
    (case a_Polynomial_coefficients => k_is)
    (case i_Polynomial_coefficients => k_is)
    (case l_Polynomial_coefficients => k_is)
    (case c_Polynomial_coefficients => k_is)
    (case k_Polynomial_coefficients => k_is)
    (case a_Polynomial_degree => k_is)
    (case g_Polynomial_degree => k_is)
    (case t_Polynomial_degree => k_is)
    (case r_Polynomial_degree => k_is)
    (case l_Polynomial_degree => k_is)
    (case c_Polynomial_degree => k_is)
    (case k_Polynomial_degree => k_is)
    (case a_Polynomial_len => k_is)
    (case i_Polynomial_len => k_is)
    (case l_Polynomial_len => k_is)
    (case c_Polynomial_len => k_is)
    (case k_Polynomial_len => k_is)
    (case a_L_is => k_is)
    (case l_L_is => k_is)
    (case c_L_is => k_is)
    (case k_L_is => k_is)
    (case a_L_list => k_is)
    (case l_L_list => k_is)
    (case c_L_list => k_is)
    (case k_L_list => k_is)
    (case a_Polynomial_getitem => k_is)
    (case i_Polynomial_getitem => k_is)
    (case l_Polynomial_getitem => k_is)
    (case c_Polynomial_getitem => k_is)
    (case k_Polynomial_getitem => k_is)
    (case a_L_asked => k_is)
    (case l_L_asked => k_is)
    (case c_L_asked => k_is)
    (case k_L_asked => k_is)
    (case a_Polynomial_call => k_is)
    (case i_Polynomial_call => k_is)
    (case l_Polynomial_call => k_is)
    (case c_Polynomial_call => k_is)
    (case k_Polynomial_call => k_is)
    (case a_L_value => k_is)
    (case l_L_value => k_is)
    (case c_L_value => k_is)
    (case k_L_value => k_is)
    (case a_made => k_is)
    (case l_made => k_is)
    (case c_made => k_is)
    (case k_made => k_is)
    (case a_Polynomial_neg => k_is)
    (case i_Polynomial_neg => k_is)
    (case l_Polynomial_neg => k_is)
    (case c_Polynomial_neg => k_is)
    (case k_Polynomial_neg => k_is)
    (case a_Polynomial_scaled => k_is)
    (case i_Polynomial_scaled => k_is)
    (case l_Polynomial_scaled => k_is)
    (case c_Polynomial_scaled => k_is)
    (case k_Polynomial_scaled => k_is)
    (case a_Polynomial_raised => k_is)
    (case i_Polynomial_raised => k_is)
    (case l_Polynomial_raised => k_is)
    (case c_Polynomial_raised => k_is)
    (case k_Polynomial_raised => k_is)
    (case a_Polynomial_power => k_is)
    (case r_Polynomial_power => k_is)
    (case rd_Polynomial => k_is)
    (case ga_Polynomial => k_is)
    (case l_Polynomial_power => k_is)
    (case c_Polynomial_power => k_is)
    (case k_Polynomial_power => k_is)
    (case a_Polynomial_eq => k_is)
    (case i_Polynomial_eq => k_is)
    (case l_Polynomial_eq => k_is)
    (case c_Polynomial_eq => k_is)
    (case k_Polynomial_eq => k_is)
    (case a_law => k_is)
    (case l_law => k_is)
    (case c_law => k_is)
    (case k_law => k_is)
    (case z_len => k_is)
    (case z_int => k_is)
    (case z_abs => k_is)
    (case z_range => k_is)
    (case mkh_Fraction => k_is)
    (case kc_Fraction => k_is)
    (case pg_Polynomial => k_is)
    (case hd_Polynomial => k_is)
    (case po_Polynomial => k_is)
    (case sa_Polynomial => k_is)
    (case z_isinstance => k_is)
    (case sub1 => k_is)
    (case sub2 => k_is)
    (case icl => k_is)
    (case ityp => k_is)
    (case pg_Fraction => k_is)
    (case hd_Fraction => k_is)
    (case po_Fraction => k_is)
    (case sa_Fraction => k_is)
    (case ca_Fraction => k_is)
    (case cm_Fraction => k_is)
    (case cn => k_is)
    (case ct => k_is)
    (case na_Fraction_top => k_is)
    (case z_bool => k_is)
    (case na_Fraction_bottom => k_is)
    (case bi_lcm => k_is)
    (case na_Polynomial__bottom => k_is)
    (case na_Polynomial__tops => k_is)
    (case mkh_Polynomial => k_is)
    (case kc_Polynomial => k_is)
    (case z_tuple => k_is)
    (case z_all => k_is)
    (case ca_Polynomial => k_is)
    (case cm_Polynomial => k_is)
    (case z_list => k_is)
    (case fnin_Polynomial_getitem => k_is)
    (case fnin_Polynomial_call => k_is)
    (case bi_gcd => k_is)
    (case x_BadFraction_exc => k_exc)
    (case x_BadFraction_kp => k_is)
    (case x_BadFraction_be => k_is)
    (case x_BadFraction_ty => k_is)
    (case x_BadFraction_hd => k_is)
    (case x_BadFraction_self => k_is)
