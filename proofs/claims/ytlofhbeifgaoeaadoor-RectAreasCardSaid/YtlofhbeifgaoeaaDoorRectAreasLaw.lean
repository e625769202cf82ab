/- RectAreas: for every input the law returns true, and its arguments read behind the call as they read before. By contracts of what it calls, and one walk of the law itself. -/
import Derived.Test.YtlofhbeifgaoeaaDoorRect30
import Derived.Test.YtlofhbeifgaoeaaDoorRows
import Derived.Test.YtlofhbeifgaoeaaDoorCards
import Derived.Test.YtlofhbeifgaoeaaDoorTie
import Derived.Test.YtlofhbeifgaoeaaDoorFlat
import Derived.WalkKit
import Derived.ProofKit
import Derived.OpenShut
import Derived.Deep.DeepHandedRow
import Derived.Lib.SmallJoins
import Derived.Test.YtlofhbeifgaoeaaDoorPost
namespace Go.Proofs.YtlofhbeifgaoeaaDoor.lawRectAreas
open Go Go.ChangeShapes Go.WideShapes Go.ChangeAt Go.RowKit
open Go.ChangeMaps (open_string shut_string)
theorem own : ownKnob Tryd.prog.godebug = none := by kernel_rfl
theorem gn0 : Tryd.prog.globalNamed "glazier/rect.none" = some 0 := by kernel_rfl
theorem gt0 : ((Tryd.prog.globals[0]?).map (·.type)).bind (fun t => if contig Tryd.prog 9 t then some t else none) = (Tryd.prog.globals[0]?).map (·.type) := by kernel_rfl
theorem gs0 : ((Tryd.prog.globals[0]?).map (·.type)).isSome = true := by kernel_rfl
theorem gx0 : flat (H := Unit) Rows.laid_glazier_rect_none = some noneCells := by rfl
theorem tables {W : World} (h : laidMetH Tryd.prog Rows.rectAreasRow.laid W) : RowAt 0 noneCells W := by
  have h0 : laidMet Tryd.prog Rows.rectAreasRow.laid W := h
  have r0 : RowAt 0 noneCells W := rowAt_of_laid' 9 gn0 gs0 gt0 gx0 (by unfold noneCells; first | (simp; done) | (simp; decide)) h0
  exact r0
theorem cells0 : Tryd.prog.cellsOf 23 = 4 := by kernel_rfl
theorem cells1 : Tryd.prog.cellsOf 23 = 4 := by kernel_rfl
set_option maxRecDepth 100000 in
theorem contract (H : Type) (enc : TypeId × Value → H) (W : World) (base : Nat) (args : Array Value) (ds gs : List (DataW H)) (before : List MemPlace)
    (hval : ∀ (j : Nat) t v, Tryd.f5.params[j]? = some t → args[j]? = some v → Value.okWide Tryd.prog W .any base t v)
    (hW : DataW.Whole enc Tryd.prog Tryd.f5.params.toList Rows.rectAreasSpec.vars false W args.toList ds gs before) (hL : laidMetH Tryd.prog Rows.rectAreasRow.laid W) :
    Calls Tryd.prog 5 args W fun e W' => ∃ v, e = .returned v ∧ Rows.rectAreasSpec.post enc Tryd.prog Tryd.f5 false true false false W args v W' := by
  have hW' := hW
  obtain ⟨p, q, hA0, hV, rfl, hfz, hnd⟩ := hW
  have hA : DataW.TrodAll enc Tryd.prog W 0 (fun _ => true) true Tryd.f5.params.toList args.toList ds p := hA0
  rw [Tryd.params5] at hA hval
  obtain ⟨v0, vs0, d0, ds0, p0, q0, hargs, rfl, rfl, h0, r0⟩ := trodAll_cons hA
  obtain ⟨v1, vs1, d1, ds1, p1, q1, rfl, rfl, rfl, h1, r1⟩ := trodAll_cons r0
  obtain ⟨rfl, rfl, rfl⟩ := trodAll_nil r1
  obtain rfl : args = #[v0, v1] := by cases args; simp_all
  obtain ⟨rfl, rfl⟩ := trodVars_none hV
  obtain ⟨a00, a01, a02, a03, y00, y01, y02, y03, m0, rfl, rfl, rfl, k00, k01, k02, k03⟩ := Joins.open_agg4 Tryd.underlying23 (by kernel_rfl) cells0 (hval 0 23 v0 rfl rfl) h0
  obtain ⟨x0_0, e00, rfl, wx0_0⟩ := DataW.trod_int Tryd.underlying3 k00
  obtain rfl : a00 = .int .i64 x0_0 := by simpa using e00
  have bx0_0 := bounds_i64 wx0_0
  obtain ⟨x0_1, e01, rfl, wx0_1⟩ := DataW.trod_int Tryd.underlying3 k01
  obtain rfl : a01 = .int .i64 x0_1 := by simpa using e01
  have bx0_1 := bounds_i64 wx0_1
  obtain ⟨x0_2, e02, rfl, wx0_2⟩ := DataW.trod_int Tryd.underlying3 k02
  obtain rfl : a02 = .int .i64 x0_2 := by simpa using e02
  have bx0_2 := bounds_i64 wx0_2
  obtain ⟨x0_3, e03, rfl, wx0_3⟩ := DataW.trod_int Tryd.underlying3 k03
  obtain rfl : a03 = .int .i64 x0_3 := by simpa using e03
  have bx0_3 := bounds_i64 wx0_3
  obtain ⟨a10, a11, a12, a13, y10, y11, y12, y13, m1, rfl, rfl, rfl, k10, k11, k12, k13⟩ := Joins.open_agg4 Tryd.underlying23 (by kernel_rfl) cells1 (hval 1 23 v1 rfl rfl) h1
  obtain ⟨x1_0, e10, rfl, wx1_0⟩ := DataW.trod_int Tryd.underlying3 k10
  obtain rfl : a10 = .int .i64 x1_0 := by simpa using e10
  have bx1_0 := bounds_i64 wx1_0
  obtain ⟨x1_1, e11, rfl, wx1_1⟩ := DataW.trod_int Tryd.underlying3 k11
  obtain rfl : a11 = .int .i64 x1_1 := by simpa using e11
  have bx1_1 := bounds_i64 wx1_1
  obtain ⟨x1_2, e12, rfl, wx1_2⟩ := DataW.trod_int Tryd.underlying3 k12
  obtain rfl : a12 = .int .i64 x1_2 := by simpa using e12
  have bx1_2 := bounds_i64 wx1_2
  obtain ⟨x1_3, e13, rfl, wx1_3⟩ := DataW.trod_int Tryd.underlying3 k13
  obtain rfl : a13 = .int .i64 x1_3 := by simpa using e13
  have bx1_3 := bounds_i64 wx1_3
  clear hA0
  simp only [List.append_nil] at hW'
  have ht := tables hL
  refine (lareas_any (x0_0, x0_1, x0_2, x0_3) (x1_0, x1_1, x1_2, x1_3) W ht).mono fun e W' ⟨he, hg⟩ => ?_
  subst he
  exact ⟨_, rfl, post_below (pa := []) (pv := []) hW' (fun _ _ _ => trodAll_cons_mk (shut_bool Tryd.underlying4 _) trodAll_mk0) (fun sp hsp => (trodAll_cons_mk (Joins.shut_agg4 (y0 := (.lit (.int .i64 x0_0), [])) (y1 := (.lit (.int .i64 x0_1), [])) (y2 := (.lit (.int .i64 x0_2), [])) (y3 := (.lit (.int .i64 x0_3), [])) Tryd.underlying23 (by kernel_rfl) cells0 ⟨1, by simp [DataW.trod, Tryd.underlying3, wx0_0]⟩ ⟨1, by simp [DataW.trod, Tryd.underlying3, wx0_1]⟩ ⟨1, by simp [DataW.trod, Tryd.underlying3, wx0_2]⟩ ⟨1, by simp [DataW.trod, Tryd.underlying3, wx0_3]⟩) (trodAll_cons_mk (Joins.shut_agg4 (y0 := (.lit (.int .i64 x1_0), [])) (y1 := (.lit (.int .i64 x1_1), [])) (y2 := (.lit (.int .i64 x1_2), [])) (y3 := (.lit (.int .i64 x1_3), [])) Tryd.underlying23 (by kernel_rfl) cells1 ⟨1, by simp [DataW.trod, Tryd.underlying3, wx1_0]⟩ ⟨1, by simp [DataW.trod, Tryd.underlying3, wx1_1]⟩ ⟨1, by simp [DataW.trod, Tryd.underlying3, wx1_2]⟩ ⟨1, by simp [DataW.trod, Tryd.underlying3, wx1_3]⟩) trodAll_mk0))) (fun _ _ => rfl) rfl hg (ok_one (by kernel_rfl) rfl (okWide_bool_mk Tryd.underlying4 _))⟩
noncomputable def laidWorld (os : Os) : World :=
  { World.holding Tryd.prog os ⟨#[], #[], []⟩ with heap := ((World.holding Tryd.prog os ⟨#[], #[], []⟩).heap.modify 0 fun | .cells _ t frozen => .cells (noneCells).toArray t frozen | o => o) }
theorem laid_met (os : Os) : laidMet Tryd.prog Rows.rectAreasRow.laid ((laidWorld os).forCall (fun _ _ => 0) ⟨#[], #[.agg #[.int .i64 0, .int .i64 0, .int .i64 0, .int .i64 0], .agg #[.int .i64 0, .int .i64 0, .int .i64 0, .int .i64 0]], []⟩).memory :=
  laidMet_of_run' 12 (by kernel_rfl) (by kernel_rfl)
theorem reads (os : Os) {H : Type} (enc : TypeId × Value → H) : ∃ places, DataW.whole enc Tryd.prog ((laidWorld os).forCall (fun _ _ => 0) ⟨#[], #[.agg #[.int .i64 0, .int .i64 0, .int .i64 0, .int .i64 0], .agg #[.int .i64 0, .int .i64 0, .int .i64 0, .int .i64 0]], []⟩).memory Tryd.f5.params.toList Rows.rectAreasSpec.vars false (#[.agg #[.int .i64 0, .int .i64 0, .int .i64 0, .int .i64 0], .agg #[.int .i64 0, .int .i64 0, .int .i64 0, .int .i64 0]] : Array Value).toList 12 = some ([.agg [.lit (.int .i64 0), .lit (.int .i64 0), .lit (.int .i64 0), .lit (.int .i64 0)], .agg [.lit (.int .i64 0), .lit (.int .i64 0), .lit (.int .i64 0), .lit (.int .i64 0)]], [], places) :=
  ⟨[], by kernel_rfl⟩
set_option maxRecDepth 100000 in
theorem lifted (os : Os) (started : os.Started) (H : Type) (enc : TypeId × Value → H) (F : Stop.Interp) :
    ReturnsInHanded {} Tryd.checked os 5 .any ((OpenSpec.ofChange Rows.rectAreasSpec).preRow enc Tryd.prog Tryd.f5 Rows.rectAreasRow.domain false Rows.rectAreasRow.laid) (((OpenSpec.ofChange Rows.rectAreasSpec).at F).post enc Tryd.prog Tryd.f5 false true false false) := by
  obtain ⟨places, hx⟩ := reads os enc
  refine returnsInHanded_of_row (C := Tryd.checked) (s := OpenSpec.ofChange Rows.rectAreasSpec) own started (by kernel_rfl) Tryd.func5
    (witness_row_at (enc := enc) (C := Tryd.checked) false (laidWorld os) #[.agg #[.int .i64 0, .int .i64 0, .int .i64 0, .int .i64 0], .agg #[.int .i64 0, .int .i64 0, .int .i64 0, .int .i64 0]] rfl (by kernel_rfl) (by kernel_rfl) (by kernel_rfl)
      (OpenSpec.preRow_of_cond 12 hx (by kernel_rfl) (fun k hk => by cases hk) (by kernel_rfl) (laid_met os))) ?_
  intro W base args ds gs before hval hW _ _ _ hL _ _
  exact contract H enc W base args ds gs before hval hW hL
theorem said : Rows.RectAreasSaid :=
  OpenClaim.holds_of_cond 5 Tryd.f5 rfl rfl rfl rfl rfl rfl rfl ⟨rfl, rfl, rfl, rfl, rfl⟩ rfl rfl rfl rfl rfl (by kernel_rfl) Tryd.func5 (by kernel_rfl)
    (of_decide_eq_true (by kernel_rfl)) (by unfold Func.isWrapper; first | (rw [if_pos (by decide +kernel)]; kernel_rfl) | (rw [if_neg (by decide +kernel)]; exact ⟨rfl, rfl⟩))
    (fun os started H enc _ F => by rw [OpenClaim.pre_eq_preRow]; exact lifted os started H enc F)
theorem plain (f : FuncId) (fn : Func) (hf : Tryd.pinned.checked.prog.funcNamed "glazier/glazierlaw12.RectAreas" = some f) (hfn : Tryd.pinned.checked.prog.funcs[f]? = some fn) :
    false = Tryd.pinned.checked.prog.looks [] ∧ ∀ (j : Nat) t, fn.params[j]? = some t → Tryd.pinned.checked.prog.wantsStandIn t = false := by
  obtain rfl : f = 5 := Option.some.inj ((show Tryd.prog.funcNamed "glazier/glazierlaw12.RectAreas" = some 5 by kernel_rfl).symm.trans hf) |>.symm
  obtain rfl : fn = Tryd.f5 := (Option.some.inj (Tryd.func5.symm.trans hfn)).symm
  refine ⟨by kernel_rfl, fun j t ht => ?_⟩
  rw [Tryd.params5] at ht
  have hm := Array.mem_of_getElem? ht
  have hall : ∀ t ∈ (#[23, 23] : Array Nat), Tryd.prog.wantsStandIn t = false := by
    intro t ht
    simp only [List.mem_toArray, List.mem_cons, List.not_mem_nil, or_false] at ht
    rcases ht with rfl | rfl <;> kernel_rfl
  exact hall t hm
theorem card : Rows.RectAreasCardSaid :=
  Claim7.holds_tied_plain_at .later [] _ _ _ _ said (fun _ h => by cases h) (by kernel_rfl) (fun _ h => by cases h) rectAreas_row_tie rfl ⟨rfl, rfl⟩ (by kernel_rfl) rfl plain (by kernel_rfl)
end Go.Proofs.YtlofhbeifgaoeaaDoor.lawRectAreas
