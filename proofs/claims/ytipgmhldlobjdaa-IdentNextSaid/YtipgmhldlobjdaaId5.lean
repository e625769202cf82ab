/- Layer 7: Fresh over no ids, over a list of the call's own; the walk of IdentFull. -/
import Derived.Test.YtipgmhldlobjdaaId3
import Derived.Laws.AppendOwn
namespace Go.Proofs.Ytipgmhldlobjdaa
open Go Go.RowKit Go.Maps
set_option linter.unusedSimpArgs false
set_option linter.unusedVariables false

set_option maxRecDepth 100000 in
set_option maxHeartbeats 2000000 in
theorem fresh_none (c : Int) (a : Option Addr) (cap : Nat) (w : World) (hcl : 1 ≤ c) (hcl' : c ≤ 8) :
    Calls Try.prog 15 #[i6 c, .slice a 0 cap] w fun e w' => e = .returned (freshRes (c * 1048576) []) ∧ Below w.heap.size w w' := by
  have hmm := @run_makeMap Try.prog
  have e1 : IntKind.u32.wrap (c * 1048576 + 1) = c * 1048576 + 1 := u32_in (by omega) (by omega)
  have e2 : IntKind.u32.wrap (c * 1048576 + 1048576) = c * 1048576 + 1048576 := u32_in (by omega) (by omega)
  have e4 : c * 1048576 + 1 < c * 1048576 + 1048576 := by omega
  have hwf := wf_u3 (g := c * 1048576 + 1) (by omega) (by omega)
  have hl : Least (c * 1048576) [] (c * 1048576 + 1) := ⟨by omega, by omega, by simp, fun x h1 h2 => by omega⟩
  have hf := freshOf_least hl
  have hown := World.ownsMap_made w Try.prog 23 (plainElem (H := Unit) Try.prog 4)
  go_enter Try.func15, Try.ntmps15
  go_wp2_with fail
  refine (base_ok _ _ hcl hcl').mono ?_
  rintro e w1 ⟨rfl, rfl⟩
  go_wp2_with fail
  refine wp_loop_rounds 1 ?_
  rw [rounds_succ]
  go_wp2_with fail
  refine wp_loop_rounds 1 ?_
  rw [rounds_succ]
  go_wp2_with (first
    | (at_lookup; refine wpList_lookup_marks _ rfl _ _ 44 rfl 23 4 und_id und_map und_bool (zero_bool _) w.heap.size 0 _ _ rfl hown marks_none (c * 1048576 + 1) rfl hwf false (by simp) ?_)
    | go_in)
  go_returns
  refine ⟨?_, (Below.refl _ _).alloc (Nat.le_refl _) _⟩
  unfold freshRes
  rw [hf, decide_eq_true (by omega)]
  rfl

theorem fresh_no (c : Int) (v : Value) (w : World) (h : c < 1 ∨ 8 < c) :
    Calls Try.prog 15 #[i6 c, v] w fun e w' => e = .returned (.tuple #[u3 0, .bool false]) ∧ w = w' := by
  go_enter Try.func15, Try.ntmps15
  go_wp2_with fail
  refine (base_no _ _ h).mono ?_
  rintro e w1 ⟨rfl, rfl⟩
  go_wp2_with fail
  go_returns
  exact ⟨rfl, rfl⟩

theorem und_ids : Try.prog.underlying 36 = some (.slice 23) := by kernel_rfl
theorem info_id : (Try.prog.info? 23).map (fun i => (i.zero, i.size, i.bytes)) = some (some (.int .u32 0), 1, 4) := by kernel_rfl

/-- Over a list of the call's own. -/
theorem fresh_own (c : Int) (us : List Int) (v : Value) (B : Nat) (w : World) (hcl : 1 ≤ c) (hcl' : c ≤ 8) (hreach : us.length ≤ 1000) (hwz : ∀ n ∈ us, 0 ≤ n ∧ n < 4294967296)
    (hown : w.ownsRow B 23 1 v us.length (us.map u3)) :
    Calls Try.prog 15 #[i6 c, v] w fun e w' => e = .returned (freshRes (c * 1048576) us) ∧ Below w.heap.size w w' := by
  have hown0 := hown
  obtain ⟨_, hcase⟩ := hown
  rcases hcase with ⟨rfl, h0⟩ | ⟨g, cap', cur, rfl, hg, hh, hn, hcap, hsz, htake⟩
  · have : us = [] := List.length_eq_zero_iff.1 h0
    subst this
    exact fresh_none c none 0 w hcl hcl'
  · refine fresh_some c g 0 us.length cap' us w hcl hcl' rfl hreach (Array.getElem?_eq_some_iff.1 hh).1 (fun j hj => ?_) hwz
    rw [Nat.zero_add, hown0.cellAt j (by simpa using hj)]
    simp [List.getD, List.getElem?_eq_getElem hj]
end Go.Proofs.Ytipgmhldlobjdaa
