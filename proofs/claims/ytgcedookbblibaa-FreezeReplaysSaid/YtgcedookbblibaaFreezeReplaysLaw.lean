/- FreezeReplays: for every input the law returns true, and its arguments read behind the call as they read before. By contracts of what it calls, and one walk of the law itself. -/
import Derived.Test.YtgcedookbblibaaInts
import Derived.Test.YtgcedookbblibaaFz11
import Derived.Test.YtgcedookbblibaaRows
import Derived.Test.YtgcedookbblibaaFlat
import Derived.WalkKit
import Derived.ProofKit
import Derived.OpenShut
import Derived.Deep.DeepHandedRow
import Derived.Lib.SmallJoins
import Derived.Test.YtgcedookbblibaaPost
namespace Go.Proofs.Ytgcedookbblibaa.lawFreezeReplays
open Go Go.ChangeShapes Go.WideShapes Go.ChangeAt Go.RowKit
open Go.ChangeMaps (open_string shut_string)
theorem laidOut : laidOutB Try.prog = true := by kernel_rfl
theorem own : ownKnob Try.prog.godebug = none := by kernel_rfl
theorem rec0 : Try.prog.readableRec 27 = true := by kernel_rfl
theorem row0 : 27 < Try.prog.types.size := of_decide_eq_true (by kernel_rfl)
theorem rec1 : Try.prog.readableRec 29 = true := by kernel_rfl
theorem row1 : 29 < Try.prog.types.size := of_decide_eq_true (by kernel_rfl)
theorem rec2 : Try.prog.readableRec 30 = true := by kernel_rfl
theorem row2 : 30 < Try.prog.types.size := of_decide_eq_true (by kernel_rfl)
set_option maxRecDepth 100000 in
theorem contract (H : Type) (enc : TypeId × Value → H) (W : World) (base : Nat) (args : Array Value) (ds gs : List (DataW H)) (before : List MemPlace)
    (hval : ∀ (j : Nat) t v, Try.f6.params[j]? = some t → args[j]? = some v → Value.okWide Try.prog W .any base t v)
    (hW : DataW.Whole enc Try.prog Try.f6.params.toList Rows.freezeReplaysSpec.vars false W args.toList ds gs before) :
    Calls Try.prog 6 args W fun e W' => ∃ v, e = .returned v ∧ Rows.freezeReplaysSpec.post enc Try.prog Try.f6 false true false false W args v W' := by
  have hW' := hW
  obtain ⟨p, q, hA0, hV, rfl, hfz, hnd⟩ := hW
  have hA : DataW.TrodAll enc Try.prog W 0 (fun _ => true) true Try.f6.params.toList args.toList ds p := hA0
  rw [Try.params6] at hA hval
  obtain ⟨v0, vs0, d0, ds0, p0, q0, hargs, rfl, rfl, h0, r0⟩ := trodAll_cons hA
  obtain ⟨v1, vs1, d1, ds1, p1, q1, rfl, rfl, rfl, h1, r1⟩ := trodAll_cons r0
  obtain ⟨v2, vs2, d2, ds2, p2, q2, rfl, rfl, rfl, h2, r2⟩ := trodAll_cons r1
  obtain ⟨rfl, rfl, rfl⟩ := trodAll_nil r2
  obtain rfl : args = #[v0, v1, v2] := by cases args; simp_all
  obtain ⟨rfl, rfl⟩ := trodVars_none hV
  have hlt0 : ∀ x ∈ p0, x.block < W.heap.size := fun x hx => hW'.lt x (by simp [hx])
  obtain ⟨cs0, rfl, _⟩ := okWide_struct Try.underlying27 (hval 0 27 v0 rfl rfl)
  obtain ⟨x0, ex0, qx0⟩ := (h0.elim fun _ hh => gr_cells hh : ∃ x, cs0.toList = grL x ∧ _)
  obtain rfl : cs0 = (grL x0).toArray := by rw [← ex0]
  have hlt1 : ∀ x ∈ p1, x.block < W.heap.size := fun x hx => hW'.lt x (by simp [hx])
  obtain ⟨cs1, rfl, _⟩ := okWide_struct Try.underlying29 (hval 1 29 v1 rfl rfl)
  obtain ⟨x1, ex1, qx1⟩ := (h1.elim fun _ hh => in_cells hh : ∃ x, cs1.toList = inL x ∧ _)
  obtain rfl : cs1 = (inL x1).toArray := by rw [← ex1]
  obtain ⟨a2, l2, c2, rfl⟩ := okWide_slice Try.underlying30 (hval 2 30 v2 rfl rfl)
  have hlt2 : ∀ x ∈ p2, x.block < W.heap.size := fun x hx => hW'.lt x (by simp [hx])
  obtain ⟨x2, b2, o2, hn2, rv2, hr2, qx2⟩ := rows_of (f := inL) (s := 6) inL_len (by decide) (by kernel_rfl) (by kernel_rfl) (fun hh => in_cells hh) h2 hlt2
  clear hA0
  simp only [List.append_nil] at hW'
  refine (lreplays39 x0.c x0.w x0.o x0.m x0.au x0.pa x0.co x0.ti x1.k x1.c x1.x x1.y x1.t x1.n a2 l2 c2 x2 b2 o2 W hn2 rv2 hr2).mono fun e W' ⟨he, hg⟩ => ?_
  subst he
  exact ⟨_, rfl, post_below (pa := (p0 ++ (p1 ++ (p2 ++ [])))) (pv := []) hW' (fun _ _ _ => trodAll_cons_mk (shut_bool Try.underlying4 _) trodAll_mk0) (fun sp hsp => (trodAll_cons_mk (trod_below laidOut rec0 row0 h0 hg hlt0 (fun x hx => hsp x (by simp [hx]))) (trodAll_cons_mk (trod_below laidOut rec1 row1 h1 hg hlt1 (fun x hx => hsp x (by simp [hx]))) (trodAll_cons_mk (trod_below laidOut rec2 row2 h2 hg hlt2 (fun x hx => hsp x (by simp [hx]))) trodAll_mk0)))) (fun _ _ => rfl) (by simp) hg (ok_one (by kernel_rfl) rfl (okWide_bool_mk Try.underlying4 _))⟩
noncomputable def laidWorld (os : Os) : World :=
  World.holding Try.prog os ⟨#[], #[], []⟩
theorem laid_none (os : Os) : laidMet Try.prog Rows.freezeReplaysRow.laid ((laidWorld os).forCall (fun _ _ => 0) ⟨#[], #[.agg #[.int .i64 0,.int .u32 0,.bool false,.int .i64 0,.bool false,.bool false,.int .i64 0,.int .u32 0], .agg #[.int .i64 0,.int .i64 0,.int .i64 0,.int .i64 0,.int .u32 0,.int .i64 0], .slice none 0 0], []⟩).memory :=
  laidMet_of_run' 12 (by kernel_rfl) (by kernel_rfl)
theorem reads (os : Os) {H : Type} (enc : TypeId × Value → H) : ∃ places, DataW.whole enc Try.prog ((laidWorld os).forCall (fun _ _ => 0) ⟨#[], #[.agg #[.int .i64 0,.int .u32 0,.bool false,.int .i64 0,.bool false,.bool false,.int .i64 0,.int .u32 0], .agg #[.int .i64 0,.int .i64 0,.int .i64 0,.int .i64 0,.int .u32 0,.int .i64 0], .slice none 0 0], []⟩).memory Try.f6.params.toList Rows.freezeReplaysSpec.vars false (#[.agg #[.int .i64 0,.int .u32 0,.bool false,.int .i64 0,.bool false,.bool false,.int .i64 0,.int .u32 0], .agg #[.int .i64 0,.int .i64 0,.int .i64 0,.int .i64 0,.int .u32 0,.int .i64 0], .slice none 0 0] : Array Value).toList 12 = some ([.agg [.lit (.int .i64 0),.lit (.int .u32 0),.lit (.bool false),.lit (.int .i64 0),.lit (.bool false),.lit (.bool false),.lit (.int .i64 0),.lit (.int .u32 0)], .agg [.lit (.int .i64 0),.lit (.int .i64 0),.lit (.int .i64 0),.lit (.int .i64 0),.lit (.int .u32 0),.lit (.int .i64 0)], .nil], [], places) :=
  ⟨[], by kernel_rfl⟩
set_option maxRecDepth 100000 in
theorem lifted (os : Os) (started : os.Started) (H : Type) (enc : TypeId × Value → H) (F : Stop.Interp) :
    ReturnsInHanded {} Try.checked os 6 .any ((OpenSpec.ofChange Rows.freezeReplaysSpec).preRow enc Try.prog Try.f6 Rows.freezeReplaysRow.domain false Rows.freezeReplaysRow.laid) (((OpenSpec.ofChange Rows.freezeReplaysSpec).at F).post enc Try.prog Try.f6 false true false false) := by
  obtain ⟨places, hx⟩ := reads os enc
  refine returnsInHanded_of_row (C := Try.checked) (s := OpenSpec.ofChange Rows.freezeReplaysSpec) own started (by kernel_rfl) Try.func6
    (witness_row_at (enc := enc) (C := Try.checked) false (laidWorld os) #[.agg #[.int .i64 0,.int .u32 0,.bool false,.int .i64 0,.bool false,.bool false,.int .i64 0,.int .u32 0], .agg #[.int .i64 0,.int .i64 0,.int .i64 0,.int .i64 0,.int .u32 0,.int .i64 0], .slice none 0 0] rfl (by kernel_rfl) (by kernel_rfl) (by kernel_rfl)
      (OpenSpec.preRow_of_cond 12 hx (by kernel_rfl) (fun k hk => by cases hk) (by kernel_rfl) (laid_none os))) ?_
  intro W base args ds gs before hval hW _ _ _ hL _ _
  exact contract H enc W base args ds gs before hval hW
theorem said : Rows.FreezeReplaysSaid :=
  OpenClaim.holds_of_cond 6 Try.f6 rfl rfl rfl rfl rfl rfl rfl ⟨rfl, rfl, rfl, rfl, rfl⟩ rfl rfl rfl rfl rfl (by kernel_rfl) Try.func6 (by kernel_rfl)
    (of_decide_eq_true (by kernel_rfl)) (by unfold Func.isWrapper; first | (rw [if_pos (by decide +kernel)]; kernel_rfl) | (rw [if_neg (by decide +kernel)]; exact ⟨rfl, rfl⟩))
    (fun os started H enc _ F => by rw [OpenClaim.pre_eq_preRow]; exact lifted os started H enc F)
end Go.Proofs.Ytgcedookbblibaa.lawFreezeReplays
