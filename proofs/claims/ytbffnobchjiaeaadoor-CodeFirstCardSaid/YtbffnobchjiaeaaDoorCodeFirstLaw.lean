/- CodeFirst: for every input the law returns true, and its arguments read behind the call as they read before. By contracts of what it calls, and one walk of the law itself. -/
import Derived.Test.YtbffnobchjiaeaaDoorCd21
import Derived.Test.YtbffnobchjiaeaaDoorRows
import Derived.Test.YtbffnobchjiaeaaDoorCards
import Derived.Test.YtbffnobchjiaeaaDoorTie
import Derived.Test.YtbffnobchjiaeaaDoorFlat
import Derived.LaidMore
import Derived.Deep.DeepWitnessRowRef
import Derived.LaidMore
import Derived.Deep.DeepWitnessRowRef
import Derived.WalkKit
import Derived.ProofKit
import Derived.OpenShut
import Derived.Deep.DeepHandedRow
import Derived.Lib.SmallJoins
import Derived.Test.YtbffnobchjiaeaaDoorPost
namespace Go.Proofs.YtbffnobchjiaeaaDoor.lawCodeFirst
open Go Go.ChangeShapes Go.WideShapes Go.ChangeAt Go.RowKit
open Go.ChangeMaps (open_string shut_string)
theorem own : ownKnob Tryd.prog.godebug = none := by kernel_rfl
theorem gn0 : Tryd.prog.globalNamed "glazier/order.spans" = some 2 := by kernel_rfl
theorem gt0 : ((Tryd.prog.globals[2]?).map (·.type)).bind (fun t => if contig Tryd.prog 9 t then some t else none) = (Tryd.prog.globals[2]?).map (·.type) := by kernel_rfl
theorem gs0 : ((Tryd.prog.globals[2]?).map (·.type)).isSome = true := by kernel_rfl
theorem gx0 : flat (H := Unit) Rows.laid_glazier_order_spans = some spanCells := by kernel_rfl
theorem gn1 : Tryd.prog.globalNamed "strings.asciiSpace" = some 0 := by kernel_rfl
theorem gt1 : ((Tryd.prog.globals[0]?).map (·.type)).bind (fun t => if contig Tryd.prog 9 t then some t else none) = (Tryd.prog.globals[0]?).map (·.type) := by kernel_rfl
theorem gs1 : ((Tryd.prog.globals[0]?).map (·.type)).isSome = true := by kernel_rfl
theorem gx1 : flat (H := Unit) Rows.laid_strings_asciiSpace = some spaceC := by kernel_rfl
theorem tables {W : World} (h : laidMetH Tryd.prog Rows.codeFirstRow.laid W) : RowAt 2 spanCells W ∧ RowAt 0 spaceC W := by
  have h0 : laidMet Tryd.prog Rows.codeFirstRow.laid W := h
  have r0 : RowAt 2 spanCells W := rowAt_of_laid' 9 gn0 gs0 gt0 gx0 (by first | (unfold spanCells; simp; done) | (unfold spanCells; simp; decide) | decide) h0
  have hh1 := laidTail h0
  have hh2 := laidTail hh1
  have r1 : RowAt 0 spaceC W := rowAt_of_laid' 9 gn1 gs1 gt1 gx1 (by first | (unfold spaceC; simp; done) | (unfold spaceC; simp; decide) | decide) hh2
  exact ⟨r0, r1⟩
set_option maxRecDepth 100000 in
theorem contract (H : Type) (enc : TypeId × Value → H) (W : World) (base : Nat) (args : Array Value) (ds gs : List (DataW H)) (before : List MemPlace)
    (hval : ∀ (j : Nat) t v, Tryd.f8.params[j]? = some t → args[j]? = some v → Value.okWide Tryd.prog W .any base t v)
    (hW : DataW.Whole enc Tryd.prog Tryd.f8.params.toList Rows.codeFirstSpec.vars false W args.toList ds gs before) (hL : laidMetH Tryd.prog Rows.codeFirstRow.laid W) :
    Calls Tryd.prog 8 args W fun e W' => ∃ v, e = .returned v ∧ Rows.codeFirstSpec.post enc Tryd.prog Tryd.f8 false true false false W args v W' := by
  have hW' := hW
  obtain ⟨p, q, hA0, hV, rfl, hfz, hnd⟩ := hW
  have hA : DataW.TrodAll enc Tryd.prog W 0 (fun _ => true) true Tryd.f8.params.toList args.toList ds p := hA0
  rw [Tryd.params8] at hA hval
  obtain ⟨v0, vs0, d0, ds0, p0, q0, hargs, rfl, rfl, h0, r0⟩ := trodAll_cons hA
  obtain ⟨rfl, rfl, rfl⟩ := trodAll_nil r0
  obtain rfl : args = #[v0] := by cases args; simp_all
  obtain ⟨rfl, rfl⟩ := trodVars_none hV
  obtain ⟨x0, rfl, rfl, rfl, wx0⟩ := open_int Tryd.underlying3 (hval 0 3 v0 rfl rfl) h0
  have bx0 := bounds_i64 wx0
  clear hA0
  simp only [List.append_nil] at hW'
  have ht := tables hL
  refine (lfirst_any x0 W ht.2 ht.1).mono fun e W' ⟨he, hg⟩ => ?_
  subst he
  exact ⟨_, rfl, post_below (pa := []) (pv := []) hW' (fun _ _ _ => trodAll_cons_mk (shut_bool Tryd.underlying4 _) trodAll_mk0) (fun sp hsp => (trodAll_cons_mk (shut_int Tryd.underlying3 wx0) trodAll_mk0)) (fun _ _ => rfl) rfl hg (ok_one (by kernel_rfl) rfl (okWide_bool_mk Tryd.underlying4 _))⟩
noncomputable def laidWorld (os : Os) : World :=
  World.doorLaid Tryd.prog 44 os
theorem laid_met (os : Os) : laidMet Tryd.prog Rows.codeFirstRow.laid ((laidWorld os).forCall (fun _ _ => 0) ⟨#[], #[.int .i64 0], []⟩).memory :=
  laidMet_of_run' 12 (by kernel_rfl) (by kernel_rfl)
theorem reads (os : Os) {H : Type} (enc : TypeId × Value → H) : ∃ places, DataW.whole enc Tryd.prog ((laidWorld os).forCall (fun _ _ => 0) ⟨#[], #[.int .i64 0], []⟩).memory Tryd.f8.params.toList Rows.codeFirstSpec.vars false (#[.int .i64 0] : Array Value).toList 12 = some ([.lit (.int .i64 0)], [], places) :=
  ⟨[], by kernel_rfl⟩
set_option maxRecDepth 100000 in
theorem lifted (os : Os) (started : os.Started) (H : Type) (enc : TypeId × Value → H) (F : Stop.Interp) :
    ReturnsInHanded {} Tryd.checked os 8 .any ((OpenSpec.ofChange Rows.codeFirstSpec).preRow enc Tryd.prog Tryd.f8 Rows.codeFirstRow.domain false Rows.codeFirstRow.laid) (((OpenSpec.ofChange Rows.codeFirstSpec).at F).post enc Tryd.prog Tryd.f8 false true false false) := by
  obtain ⟨places, hx⟩ := reads os enc
  refine returnsInHanded_of_row (C := Tryd.checked) (s := OpenSpec.ofChange Rows.codeFirstSpec) own started (by kernel_rfl) Tryd.func8
    (witness_row_atRef (enc := enc) (C := Tryd.checked) false (laidWorld os) #[.int .i64 0] rfl (by kernel_rfl) (by kernel_rfl) (by kernel_rfl)
      (OpenSpec.preRow_of_cond 12 hx (by kernel_rfl) (fun k hk => by cases hk) (by kernel_rfl) (laid_met os))) ?_
  intro W base args ds gs before hval hW _ _ _ hL _ _
  exact contract H enc W base args ds gs before hval hW hL
theorem said : Rows.CodeFirstSaid :=
  OpenClaim.holds_of_cond 8 Tryd.f8 rfl rfl rfl rfl rfl rfl rfl ⟨rfl, rfl, rfl, rfl, rfl⟩ rfl rfl rfl rfl rfl (by kernel_rfl) Tryd.func8 (by kernel_rfl)
    (of_decide_eq_true (by kernel_rfl)) (by unfold Func.isWrapper; first | (rw [if_pos (by decide +kernel)]; kernel_rfl) | (rw [if_neg (by decide +kernel)]; exact ⟨rfl, rfl⟩))
    (fun os started H enc _ F => by rw [OpenClaim.pre_eq_preRow]; exact lifted os started H enc F)
theorem plain (f : FuncId) (fn : Func) (hf : Tryd.pinned.checked.prog.funcNamed "glazier/glazierlaw03.CodeFirst" = some f) (hfn : Tryd.pinned.checked.prog.funcs[f]? = some fn) :
    false = Tryd.pinned.checked.prog.looks [] ∧ ∀ (j : Nat) t, fn.params[j]? = some t → Tryd.pinned.checked.prog.wantsStandIn t = false := by
  obtain rfl : f = 8 := Option.some.inj ((show Tryd.prog.funcNamed "glazier/glazierlaw03.CodeFirst" = some 8 by kernel_rfl).symm.trans hf) |>.symm
  obtain rfl : fn = Tryd.f8 := (Option.some.inj (Tryd.func8.symm.trans hfn)).symm
  refine ⟨by kernel_rfl, fun j t ht => ?_⟩
  rw [Tryd.params8] at ht
  have hm := Array.mem_of_getElem? ht
  have hall : ∀ t ∈ (#[3] : Array Nat), Tryd.prog.wantsStandIn t = false := by
    intro t ht
    simp only [List.mem_toArray, List.mem_cons, List.not_mem_nil, or_false] at ht
    obtain rfl := ht <;> kernel_rfl
  exact hall t hm
theorem card : Rows.CodeFirstCardSaid :=
  Claim7.holds_tied_plain_at .later [] _ _ _ _ said (fun _ h => by cases h) (by kernel_rfl) (fun _ h => by cases h) codeFirst_row_tie rfl ⟨rfl, rfl⟩ (by kernel_rfl) rfl plain (by kernel_rfl)
end Go.Proofs.YtbffnobchjiaeaaDoor.lawCodeFirst
