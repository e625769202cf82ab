/- PassiveFinds: for every input the law returns true, and its arguments read behind the call as they read before. By contracts of what it calls, and one walk of the law itself. -/
import Derived.Test.YtmcndiljldbkcaaActs2
import Derived.Test.YtmcndiljldbkcaaAgg9
import Derived.Test.YtmcndiljldbkcaaInts
import Derived.Test.YtmcndiljldbkcaaInts
import Derived.Test.YtmcndiljldbkcaaPs53
import Derived.Test.YtmcndiljldbkcaaRows
import Derived.Test.YtmcndiljldbkcaaFlat
import Derived.WalkKit
import Derived.ProofKit
import Derived.OpenShut
import Derived.Deep.DeepHandedRow
import Derived.Lib.SmallJoins
import Derived.Test.YtmcndiljldbkcaaPost
namespace Go.Proofs.Ytmcndiljldbkcaa.lawPassiveFinds
open Go Go.ChangeShapes Go.WideShapes Go.ChangeAt Go.RowKit
open Go.ChangeMaps (open_string shut_string)
theorem laidOut : laidOutB Try.prog = true := by kernel_rfl
theorem own : ownKnob Try.prog.godebug = none := by kernel_rfl
theorem rec0 : Try.prog.readableRec 22 = true := by kernel_rfl
theorem row0 : 22 < Try.prog.types.size := of_decide_eq_true (by kernel_rfl)
theorem ecell1 : Try.prog.cellsOf 33 = 1 := by kernel_rfl
theorem rec1 : Try.prog.readableRec 31 = true := by kernel_rfl
theorem row1 : 31 < Try.prog.types.size := of_decide_eq_true (by kernel_rfl)
theorem cells2 : Try.prog.cellsOf 35 = 9 := by kernel_rfl
theorem rec2 : Try.prog.readableRec 35 = true := by kernel_rfl
theorem row2 : 35 < Try.prog.types.size := of_decide_eq_true (by kernel_rfl)
set_option maxRecDepth 100000 in
theorem contract (H : Type) (enc : TypeId × Value → H) (W : World) (base : Nat) (args : Array Value) (ds gs : List (DataW H)) (before : List MemPlace)
    (hval : ∀ (j : Nat) t v, Try.f4.params[j]? = some t → args[j]? = some v → Value.okWide Try.prog W .any base t v)
    (hW : DataW.Whole enc Try.prog Try.f4.params.toList Rows.passiveFindsSpec.vars false W args.toList ds gs before) :
    Calls Try.prog 4 args W fun e W' => ∃ v, e = .returned v ∧ Rows.passiveFindsSpec.post enc Try.prog Try.f4 false true false false W args v W' := by
  have hW' := hW
  obtain ⟨p, q, hA0, hV, rfl, hfz, hnd⟩ := hW
  have hA : DataW.TrodAll enc Try.prog W 0 (fun _ => true) true Try.f4.params.toList args.toList ds p := hA0
  rw [Try.params4] at hA hval
  obtain ⟨v0, vs0, d0, ds0, p0, q0, hargs, rfl, rfl, h0, r0⟩ := trodAll_cons hA
  obtain ⟨v1, vs1, d1, ds1, p1, q1, rfl, rfl, rfl, h1, r1⟩ := trodAll_cons r0
  obtain ⟨v2, vs2, d2, ds2, p2, q2, rfl, rfl, rfl, h2, r2⟩ := trodAll_cons r1
  obtain ⟨rfl, rfl, rfl⟩ := trodAll_nil r2
  obtain rfl : args = #[v0, v1, v2] := by cases args; simp_all
  obtain ⟨rfl, rfl⟩ := trodVars_none hV
  obtain ⟨a0, l0, c0, rfl⟩ := okWide_slice Try.underlying22 (hval 0 22 v0 rfl rfl)
  have hlt0 : ∀ x ∈ p0, x.block < W.heap.size := fun x hx => hW'.lt x (by simp [hx])
  obtain ⟨x0, hx0, hl0, hid0⟩ := isActs2_of h0 hlt0
  subst hl0
  obtain ⟨a1, l1, c1, rfl⟩ := okWide_slice Try.underlying31 (hval 1 31 v1 rfl rfl)
  have hlt1 : ∀ x ∈ p1, x.block < W.heap.size := fun x hx => hW'.lt x (by simp [hx])
  obtain ⟨x1, hx1, hl1, wx1⟩ := isInts_of Try.underlying31 Try.underlying33 ecell1 h1 hlt1
  have hlt2 : ∀ x ∈ p2, x.block < W.heap.size := fun x hx => hW'.lt x (by simp [hx])
  obtain ⟨a20, a21, a22, a23, a24, a25, a26, a27, a28, y20, y21, y22, y23, y24, y25, y26, y27, y28, m2, rfl, hd2, hp2, k20, k21, k22, k23, k24, k25, k26, k27, k28⟩ := open_agg9 Try.underlying35 (by kernel_rfl) cells2 (hval 2 35 v2 rfl rfl) h2
  obtain ⟨g2_0, eb20, _⟩ := DataW.trod_int (k := .i64) (by kernel_rfl : Try.prog.underlying 3 = some (.int .i64)) k20
  obtain rfl : a20 = .int .i64 g2_0 := by simpa using eb20
  obtain ⟨g2_1, eb21, _⟩ := DataW.trod_int (k := .u32) (by kernel_rfl : Try.prog.underlying 33 = some (.int .u32)) k21
  obtain rfl : a21 = .int .u32 g2_1 := by simpa using eb21
  obtain ⟨g2_2, eb22, _⟩ := DataW.trod_bool Try.underlying4 k22
  obtain rfl : a22 = .bool g2_2 := by simpa using eb22
  obtain ⟨g2_3, eb23, _⟩ := DataW.trod_int (k := .i64) (by kernel_rfl : Try.prog.underlying 3 = some (.int .i64)) k23
  obtain rfl : a23 = .int .i64 g2_3 := by simpa using eb23
  obtain ⟨g2_4, eb24, _⟩ := DataW.trod_int (k := .i64) (by kernel_rfl : Try.prog.underlying 3 = some (.int .i64)) k24
  obtain rfl : a24 = .int .i64 g2_4 := by simpa using eb24
  obtain ⟨g2_5, eb25, _⟩ := DataW.trod_bool Try.underlying4 k25
  obtain rfl : a25 = .bool g2_5 := by simpa using eb25
  obtain ⟨g2_6, eb26, _⟩ := DataW.trod_int (k := .i64) (by kernel_rfl : Try.prog.underlying 3 = some (.int .i64)) k26
  obtain rfl : a26 = .int .i64 g2_6 := by simpa using eb26
  obtain ⟨g2_7, eb27, _⟩ := DataW.trod_int (k := .i64) (by kernel_rfl : Try.prog.underlying 3 = some (.int .i64)) k27
  obtain rfl : a27 = .int .i64 g2_7 := by simpa using eb27
  obtain ⟨g2_8, eb28, _⟩ := DataW.trod_int (k := .i64) (by kernel_rfl : Try.prog.underlying 3 = some (.int .i64)) k28
  obtain rfl : a28 = .int .i64 g2_8 := by simpa using eb28
  clear hA0
  simp only [List.append_nil] at hW'
  refine (lfinds_any a0 c0 x0 a1 l1 c1 x1 ⟨g2_0, g2_1, g2_2, g2_3, g2_4, g2_5, g2_6, g2_7, g2_8⟩ W hx0 hid0 hx1 hl1 (fun u hu => by have := bounds_u32 (wx1 u hu); omega)).mono fun e W' ⟨he, hg⟩ => ?_
  subst he
  exact ⟨_, rfl, post_below (pa := (p0 ++ (p1 ++ (p2 ++ [])))) (pv := []) hW' (fun _ _ _ => trodAll_cons_mk (shut_bool Try.underlying4 _) trodAll_mk0) (fun sp hsp => (trodAll_cons_mk (trod_below laidOut rec0 row0 h0 hg hlt0 (fun x hx => hsp x (by simp [hx]))) (trodAll_cons_mk (trod_below laidOut rec1 row1 h1 hg hlt1 (fun x hx => hsp x (by simp [hx]))) (trodAll_cons_mk (trod_below laidOut rec2 row2 h2 hg hlt2 (fun x hx => hsp x (by simp [hx]))) trodAll_mk0)))) (fun _ _ => rfl) (by simp) hg (ok_one (by kernel_rfl) rfl (okWide_bool_mk Try.underlying4 _))⟩
noncomputable def laidWorld (os : Os) : World :=
  World.holding Try.prog os ⟨#[], #[], []⟩
theorem laid_none (os : Os) : laidMet Try.prog Rows.passiveFindsRow.laid ((laidWorld os).forCall (fun _ _ => 0) ⟨#[], #[.slice none 0 0, .slice none 0 0, .agg #[.int .i64 0, .int .u32 0, .bool false, .int .i64 0, .int .i64 0, .bool false, .int .i64 0, .int .i64 0, .int .i64 0]], []⟩).memory :=
  laidMet_of_run' 12 (by kernel_rfl) (by kernel_rfl)
theorem reads (os : Os) {H : Type} (enc : TypeId × Value → H) : ∃ places, DataW.whole enc Try.prog ((laidWorld os).forCall (fun _ _ => 0) ⟨#[], #[.slice none 0 0, .slice none 0 0, .agg #[.int .i64 0, .int .u32 0, .bool false, .int .i64 0, .int .i64 0, .bool false, .int .i64 0, .int .i64 0, .int .i64 0]], []⟩).memory Try.f4.params.toList Rows.passiveFindsSpec.vars false (#[.slice none 0 0, .slice none 0 0, .agg #[.int .i64 0, .int .u32 0, .bool false, .int .i64 0, .int .i64 0, .bool false, .int .i64 0, .int .i64 0, .int .i64 0]] : Array Value).toList 12 = some ([.nil, .nil, .agg [.lit (.int .i64 0), .lit (.int .u32 0), .lit (.bool false), .lit (.int .i64 0), .lit (.int .i64 0), .lit (.bool false), .lit (.int .i64 0), .lit (.int .i64 0), .lit (.int .i64 0)]], [], places) :=
  ⟨[], by kernel_rfl⟩
set_option maxRecDepth 100000 in
theorem lifted (os : Os) (started : os.Started) (H : Type) (enc : TypeId × Value → H) (F : Stop.Interp) :
    ReturnsInHanded {} Try.checked os 4 .any ((OpenSpec.ofChange Rows.passiveFindsSpec).preRow enc Try.prog Try.f4 Rows.passiveFindsRow.domain false Rows.passiveFindsRow.laid) (((OpenSpec.ofChange Rows.passiveFindsSpec).at F).post enc Try.prog Try.f4 false true false false) := by
  obtain ⟨places, hx⟩ := reads os enc
  refine returnsInHanded_of_row (C := Try.checked) (s := OpenSpec.ofChange Rows.passiveFindsSpec) own started (by kernel_rfl) Try.func4
    (witness_row_at (enc := enc) (C := Try.checked) false (laidWorld os) #[.slice none 0 0, .slice none 0 0, .agg #[.int .i64 0, .int .u32 0, .bool false, .int .i64 0, .int .i64 0, .bool false, .int .i64 0, .int .i64 0, .int .i64 0]] rfl (by kernel_rfl) (by kernel_rfl) (by kernel_rfl)
      (OpenSpec.preRow_of_cond 12 hx (by kernel_rfl) (fun k hk => by cases hk) (by kernel_rfl) (laid_none os))) ?_
  intro W base args ds gs before hval hW _ _ _ hL _ _
  exact contract H enc W base args ds gs before hval hW
theorem said : Rows.PassiveFindsSaid :=
  OpenClaim.holds_of_cond 4 Try.f4 rfl rfl rfl rfl rfl rfl rfl ⟨rfl, rfl, rfl, rfl, rfl⟩ rfl rfl rfl rfl rfl (by kernel_rfl) Try.func4 (by kernel_rfl)
    (of_decide_eq_true (by kernel_rfl)) (by unfold Func.isWrapper; first | (rw [if_pos (by decide +kernel)]; kernel_rfl) | (rw [if_neg (by decide +kernel)]; exact ⟨rfl, rfl⟩))
    (fun os started H enc _ F => by rw [OpenClaim.pre_eq_preRow]; exact lifted os started H enc F)
end Go.Proofs.Ytmcndiljldbkcaa.lawPassiveFinds
