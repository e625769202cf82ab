/- PassivePresses: for every input the law returns true, and its arguments read behind the call as they read before. By contracts of what it calls, and one walk of the law itself. -/
import Derived.Test.YtmcndiljldbkcaaAgg9
import Derived.Test.YtmcndiljldbkcaaInts
import Derived.Test.YtmcndiljldbkcaaPs14
import Derived.Test.YtmcndiljldbkcaaRows
import Derived.Test.YtmcndiljldbkcaaFlat
import Derived.WalkKit
import Derived.ProofKit
import Derived.OpenShut
import Derived.Deep.DeepHandedRow
import Derived.Lib.SmallJoins
import Derived.Test.YtmcndiljldbkcaaPost
namespace Go.Proofs.Ytmcndiljldbkcaa.lawPassivePresses
open Go Go.ChangeShapes Go.WideShapes Go.ChangeAt Go.RowKit
open Go.ChangeMaps (open_string shut_string)
theorem laidOut : laidOutB Try.prog = true := by kernel_rfl
theorem own : ownKnob Try.prog.godebug = none := by kernel_rfl
theorem cells0 : Try.prog.cellsOf 35 = 9 := by kernel_rfl
theorem rec0 : Try.prog.readableRec 35 = true := by kernel_rfl
theorem row0 : 35 < Try.prog.types.size := of_decide_eq_true (by kernel_rfl)
theorem cells1 : Try.prog.cellsOf 35 = 9 := by kernel_rfl
theorem rec1 : Try.prog.readableRec 35 = true := by kernel_rfl
theorem row1 : 35 < Try.prog.types.size := of_decide_eq_true (by kernel_rfl)
set_option maxRecDepth 100000 in
theorem contract (H : Type) (enc : TypeId × Value → H) (W : World) (base : Nat) (args : Array Value) (ds gs : List (DataW H)) (before : List MemPlace)
    (hval : ∀ (j : Nat) t v, Try.f6.params[j]? = some t → args[j]? = some v → Value.okWide Try.prog W .any base t v)
    (hW : DataW.Whole enc Try.prog Try.f6.params.toList Rows.passivePressesSpec.vars false W args.toList ds gs before) :
    Calls Try.prog 6 args W fun e W' => ∃ v, e = .returned v ∧ Rows.passivePressesSpec.post enc Try.prog Try.f6 false true false false W args v W' := by
  have hW' := hW
  obtain ⟨p, q, hA0, hV, rfl, hfz, hnd⟩ := hW
  have hA : DataW.TrodAll enc Try.prog W 0 (fun _ => true) true Try.f6.params.toList args.toList ds p := hA0
  rw [Try.params6] at hA hval
  obtain ⟨v0, vs0, d0, ds0, p0, q0, hargs, rfl, rfl, h0, r0⟩ := trodAll_cons hA
  obtain ⟨v1, vs1, d1, ds1, p1, q1, rfl, rfl, rfl, h1, r1⟩ := trodAll_cons r0
  obtain ⟨rfl, rfl, rfl⟩ := trodAll_nil r1
  obtain rfl : args = #[v0, v1] := by cases args; simp_all
  obtain ⟨rfl, rfl⟩ := trodVars_none hV
  have hlt0 : ∀ x ∈ p0, x.block < W.heap.size := fun x hx => hW'.lt x (by simp [hx])
  obtain ⟨a00, a01, a02, a03, a04, a05, a06, a07, a08, y00, y01, y02, y03, y04, y05, y06, y07, y08, m0, rfl, hd0, hp0, k00, k01, k02, k03, k04, k05, k06, k07, k08⟩ := open_agg9 Try.underlying35 (by kernel_rfl) cells0 (hval 0 35 v0 rfl rfl) h0
  obtain ⟨g0_0, eb00, _⟩ := DataW.trod_int (k := .i64) (by kernel_rfl : Try.prog.underlying 3 = some (.int .i64)) k00
  obtain rfl : a00 = .int .i64 g0_0 := by simpa using eb00
  obtain ⟨g0_1, eb01, _⟩ := DataW.trod_int (k := .u32) (by kernel_rfl : Try.prog.underlying 33 = some (.int .u32)) k01
  obtain rfl : a01 = .int .u32 g0_1 := by simpa using eb01
  obtain ⟨g0_2, eb02, _⟩ := DataW.trod_bool Try.underlying4 k02
  obtain rfl : a02 = .bool g0_2 := by simpa using eb02
  obtain ⟨g0_3, eb03, _⟩ := DataW.trod_int (k := .i64) (by kernel_rfl : Try.prog.underlying 3 = some (.int .i64)) k03
  obtain rfl : a03 = .int .i64 g0_3 := by simpa using eb03
  obtain ⟨g0_4, eb04, _⟩ := DataW.trod_int (k := .i64) (by kernel_rfl : Try.prog.underlying 3 = some (.int .i64)) k04
  obtain rfl : a04 = .int .i64 g0_4 := by simpa using eb04
  obtain ⟨g0_5, eb05, _⟩ := DataW.trod_bool Try.underlying4 k05
  obtain rfl : a05 = .bool g0_5 := by simpa using eb05
  obtain ⟨g0_6, eb06, _⟩ := DataW.trod_int (k := .i64) (by kernel_rfl : Try.prog.underlying 3 = some (.int .i64)) k06
  obtain rfl : a06 = .int .i64 g0_6 := by simpa using eb06
  obtain ⟨g0_7, eb07, _⟩ := DataW.trod_int (k := .i64) (by kernel_rfl : Try.prog.underlying 3 = some (.int .i64)) k07
  obtain rfl : a07 = .int .i64 g0_7 := by simpa using eb07
  obtain ⟨g0_8, eb08, _⟩ := DataW.trod_int (k := .i64) (by kernel_rfl : Try.prog.underlying 3 = some (.int .i64)) k08
  obtain rfl : a08 = .int .i64 g0_8 := by simpa using eb08
  have hlt1 : ∀ x ∈ p1, x.block < W.heap.size := fun x hx => hW'.lt x (by simp [hx])
  obtain ⟨a10, a11, a12, a13, a14, a15, a16, a17, a18, y10, y11, y12, y13, y14, y15, y16, y17, y18, m1, rfl, hd1, hp1, k10, k11, k12, k13, k14, k15, k16, k17, k18⟩ := open_agg9 Try.underlying35 (by kernel_rfl) cells1 (hval 1 35 v1 rfl rfl) h1
  obtain ⟨g1_0, eb10, _⟩ := DataW.trod_int (k := .i64) (by kernel_rfl : Try.prog.underlying 3 = some (.int .i64)) k10
  obtain rfl : a10 = .int .i64 g1_0 := by simpa using eb10
  obtain ⟨g1_1, eb11, _⟩ := DataW.trod_int (k := .u32) (by kernel_rfl : Try.prog.underlying 33 = some (.int .u32)) k11
  obtain rfl : a11 = .int .u32 g1_1 := by simpa using eb11
  obtain ⟨g1_2, eb12, _⟩ := DataW.trod_bool Try.underlying4 k12
  obtain rfl : a12 = .bool g1_2 := by simpa using eb12
  obtain ⟨g1_3, eb13, _⟩ := DataW.trod_int (k := .i64) (by kernel_rfl : Try.prog.underlying 3 = some (.int .i64)) k13
  obtain rfl : a13 = .int .i64 g1_3 := by simpa using eb13
  obtain ⟨g1_4, eb14, _⟩ := DataW.trod_int (k := .i64) (by kernel_rfl : Try.prog.underlying 3 = some (.int .i64)) k14
  obtain rfl : a14 = .int .i64 g1_4 := by simpa using eb14
  obtain ⟨g1_5, eb15, _⟩ := DataW.trod_bool Try.underlying4 k15
  obtain rfl : a15 = .bool g1_5 := by simpa using eb15
  obtain ⟨g1_6, eb16, _⟩ := DataW.trod_int (k := .i64) (by kernel_rfl : Try.prog.underlying 3 = some (.int .i64)) k16
  obtain rfl : a16 = .int .i64 g1_6 := by simpa using eb16
  obtain ⟨g1_7, eb17, _⟩ := DataW.trod_int (k := .i64) (by kernel_rfl : Try.prog.underlying 3 = some (.int .i64)) k17
  obtain rfl : a17 = .int .i64 g1_7 := by simpa using eb17
  obtain ⟨g1_8, eb18, _⟩ := DataW.trod_int (k := .i64) (by kernel_rfl : Try.prog.underlying 3 = some (.int .i64)) k18
  obtain rfl : a18 = .int .i64 g1_8 := by simpa using eb18
  clear hA0
  simp only [List.append_nil] at hW'
  refine (lpresses_any ⟨g0_0, g0_1, g0_2, g0_3, g0_4, g0_5, g0_6, g0_7, g0_8⟩ ⟨g1_0, g1_1, g1_2, g1_3, g1_4, g1_5, g1_6, g1_7, g1_8⟩ W).mono fun e W' ⟨he, hg⟩ => ?_
  subst he
  exact ⟨_, rfl, post_below (pa := (p0 ++ (p1 ++ []))) (pv := []) hW' (fun _ _ _ => trodAll_cons_mk (shut_bool Try.underlying4 _) trodAll_mk0) (fun sp hsp => (trodAll_cons_mk (trod_below laidOut rec0 row0 h0 hg hlt0 (fun x hx => hsp x (by simp [hx]))) (trodAll_cons_mk (trod_below laidOut rec1 row1 h1 hg hlt1 (fun x hx => hsp x (by simp [hx]))) trodAll_mk0))) (fun _ _ => rfl) (by simp) hg (ok_one (by kernel_rfl) rfl (okWide_bool_mk Try.underlying4 _))⟩
noncomputable def laidWorld (os : Os) : World :=
  World.holding Try.prog os ⟨#[], #[], []⟩
theorem laid_none (os : Os) : laidMet Try.prog Rows.passivePressesRow.laid ((laidWorld os).forCall (fun _ _ => 0) ⟨#[], #[.agg #[.int .i64 0, .int .u32 0, .bool false, .int .i64 0, .int .i64 0, .bool false, .int .i64 0, .int .i64 0, .int .i64 0], .agg #[.int .i64 0, .int .u32 0, .bool false, .int .i64 0, .int .i64 0, .bool false, .int .i64 0, .int .i64 0, .int .i64 0]], []⟩).memory :=
  laidMet_of_run' 12 (by kernel_rfl) (by kernel_rfl)
theorem reads (os : Os) {H : Type} (enc : TypeId × Value → H) : ∃ places, DataW.whole enc Try.prog ((laidWorld os).forCall (fun _ _ => 0) ⟨#[], #[.agg #[.int .i64 0, .int .u32 0, .bool false, .int .i64 0, .int .i64 0, .bool false, .int .i64 0, .int .i64 0, .int .i64 0], .agg #[.int .i64 0, .int .u32 0, .bool false, .int .i64 0, .int .i64 0, .bool false, .int .i64 0, .int .i64 0, .int .i64 0]], []⟩).memory Try.f6.params.toList Rows.passivePressesSpec.vars false (#[.agg #[.int .i64 0, .int .u32 0, .bool false, .int .i64 0, .int .i64 0, .bool false, .int .i64 0, .int .i64 0, .int .i64 0], .agg #[.int .i64 0, .int .u32 0, .bool false, .int .i64 0, .int .i64 0, .bool false, .int .i64 0, .int .i64 0, .int .i64 0]] : Array Value).toList 12 = some ([.agg [.lit (.int .i64 0), .lit (.int .u32 0), .lit (.bool false), .lit (.int .i64 0), .lit (.int .i64 0), .lit (.bool false), .lit (.int .i64 0), .lit (.int .i64 0), .lit (.int .i64 0)], .agg [.lit (.int .i64 0), .lit (.int .u32 0), .lit (.bool false), .lit (.int .i64 0), .lit (.int .i64 0), .lit (.bool false), .lit (.int .i64 0), .lit (.int .i64 0), .lit (.int .i64 0)]], [], places) :=
  ⟨[], by kernel_rfl⟩
set_option maxRecDepth 100000 in
theorem lifted (os : Os) (started : os.Started) (H : Type) (enc : TypeId × Value → H) (F : Stop.Interp) :
    ReturnsInHanded {} Try.checked os 6 .any ((OpenSpec.ofChange Rows.passivePressesSpec).preRow enc Try.prog Try.f6 Rows.passivePressesRow.domain false Rows.passivePressesRow.laid) (((OpenSpec.ofChange Rows.passivePressesSpec).at F).post enc Try.prog Try.f6 false true false false) := by
  obtain ⟨places, hx⟩ := reads os enc
  refine returnsInHanded_of_row (C := Try.checked) (s := OpenSpec.ofChange Rows.passivePressesSpec) own started (by kernel_rfl) Try.func6
    (witness_row_at (enc := enc) (C := Try.checked) false (laidWorld os) #[.agg #[.int .i64 0, .int .u32 0, .bool false, .int .i64 0, .int .i64 0, .bool false, .int .i64 0, .int .i64 0, .int .i64 0], .agg #[.int .i64 0, .int .u32 0, .bool false, .int .i64 0, .int .i64 0, .bool false, .int .i64 0, .int .i64 0, .int .i64 0]] rfl (by kernel_rfl) (by kernel_rfl) (by kernel_rfl)
      (OpenSpec.preRow_of_cond 12 hx (by kernel_rfl) (fun k hk => by cases hk) (by kernel_rfl) (laid_none os))) ?_
  intro W base args ds gs before hval hW _ _ _ hL _ _
  exact contract H enc W base args ds gs before hval hW
theorem said : Rows.PassivePressesSaid :=
  OpenClaim.holds_of_cond 6 Try.f6 rfl rfl rfl rfl rfl rfl rfl ⟨rfl, rfl, rfl, rfl, rfl⟩ rfl rfl rfl rfl rfl (by kernel_rfl) Try.func6 (by kernel_rfl)
    (of_decide_eq_true (by kernel_rfl)) (by unfold Func.isWrapper; first | (rw [if_pos (by decide +kernel)]; kernel_rfl) | (rw [if_neg (by decide +kernel)]; exact ⟨rfl, rfl⟩))
    (fun os started H enc _ F => by rw [OpenClaim.pre_eq_preRow]; exact lifted os started H enc F)
end Go.Proofs.Ytmcndiljldbkcaa.lawPassivePresses
