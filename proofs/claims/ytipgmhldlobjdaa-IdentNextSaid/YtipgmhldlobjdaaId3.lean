/- Layer 7: the chapter's examples, and the walks of the laws that hand in no slice. -/
import Derived.Test.YtipgmhldlobjdaaId2
namespace Go.Proofs.Ytipgmhldlobjdaa
open Go Go.RowKit Go.Maps
set_option linter.unusedSimpArgs false
set_option linter.unusedVariables false

theorem least_awake : Least (2 * 1048576) [2097153, 2097155] 2097154 := by
  refine ⟨by omega, by omega, by simp, fun x h1 h2 => ?_⟩
  have : x = 2097153 := by omega
  simp [this]
theorem res_awake : freshRes (2 * 1048576) [2097153, 2097155] = .tuple #[u3 2097154, .bool true] := by
  unfold freshRes
  rw [freshOf_least least_awake]
  rfl
theorem cli_awake : cliRes 2097154 = .tuple #[i6 2, .bool true] := by
  rw [cliRes_ok (by omega) (by omega) (by omega) (by omega)]
  rfl
theorem whose_awake : whose 2097152 < 0 := by unfold whose; omega

set_option maxHeartbeats 1000000 in
theorem awake_any (w : World) : Calls Try.prog 13 #[] w fun e w' => e = .returned (.bool true) ∧ Below w.heap.size w w' := by
  go_enter Try.func13, Try.ntmps13
  go_wp2_with fail
  refine (base_ok 2 _ (by omega) (by omega)).mono ?_
  rintro e w1 ⟨rfl, rfl⟩
  go_wp2_with fail
  refine (fresh_some 2 w.heap.size 0 2 2 [2097153, 2097155] _ (by omega) (by omega) rfl (by omega) (by simp) (fun j hj => ?_) (by simp)).mono ?_
  · match j, hj with
    | 0, _ => exact cell_new rfl
    | 1, _ => exact cell_new rfl
  rw [res_awake]
  rintro e w1 ⟨rfl, hq⟩
  have hq1 := q_step (q_alloc (Below.refl _ _) _) hq
  clear hq
  go_wp2_with fail
  refine (client_any _ _ (by omega) (by omega)).mono ?_
  rw [cli_awake]
  rintro e w2 ⟨rfl, rfl⟩
  go_wp2_with fail
  refine (check_no _ _ (by omega) (by omega) whose_awake).mono ?_
  rintro e w2 ⟨rfl, rfl⟩
  go_wp2_with fail
  go_returns
  exact ⟨rfl, hq1⟩

set_option maxHeartbeats 1000000 in
theorem lwhose_any (g c : Int) (w : World) (h : 0 ≤ g) (h' : g < 4294967296) :
    Calls Try.prog 3 #[u3 g, i6 c] w fun e w' => e = .returned (.bool true) ∧ Below w.heap.size w w' := by
  have hrg := whose_range g
  by_cases hn : whose g < 0
  · have hr : cliRes g = .tuple #[i6 0, .bool false] := by unfold cliRes; rw [if_pos hn]
    have HR := Lib.hid hr
    have hm : mineB c g = false := decide_eq_false (by omega)
    have HM := Lib.hid hm
    clear hr hm
    by_cases hz : g = 0
    · subst hz
      go_enter Try.func3, Try.ntmps3
      go_wp2_with fail
      refine (client_any _ _ h h').mono ?_
      rintro e w1 ⟨rfl, rfl⟩
      rw [HR.out]
      go_wp2_with fail
      refine (rclient_any _ _ h h').mono ?_
      rintro e w1 ⟨rfl, rfl⟩
      go_wp2_with fail
      refine (check_zero _).mono ?_
      rintro e w1 ⟨rfl, rfl⟩
      go_wp2_with fail
      refine (mine_any _ _ _ h h').mono ?_
      rintro e w1 ⟨rfl, rfl⟩
      rw [HM.out]
      go_wp2_with fail
      refine (awake_any _).mono ?_
      rintro e w1 ⟨rfl, hq⟩
      go_wp2_with fail
      go_returns
      exact ⟨rfl, hq⟩
    · go_enter Try.func3, Try.ntmps3
      go_wp2_with fail
      refine (client_any _ _ h h').mono ?_
      rintro e w1 ⟨rfl, rfl⟩
      rw [HR.out]
      go_wp2_with fail
      refine (rclient_any _ _ h h').mono ?_
      rintro e w1 ⟨rfl, rfl⟩
      go_wp2_with fail
      refine (check_no _ _ (by omega) h' hn).mono ?_
      rintro e w1 ⟨rfl, rfl⟩
      go_wp2_with fail
      refine (mine_any _ _ _ h h').mono ?_
      rintro e w1 ⟨rfl, rfl⟩
      rw [HM.out]
      go_wp2_with fail
      refine (awake_any _).mono ?_
      rintro e w1 ⟨rfl, hq⟩
      go_wp2_with fail
      go_returns
      exact ⟨ret_bool (by simp [hz]), hq⟩
  · have hr : cliRes g = .tuple #[i6 (whose g), .bool true] := by unfold cliRes; rw [if_neg hn]
    have HR := Lib.hid hr
    have hpos : 0 < g := by
      rcases Int.lt_or_eq_of_le h with h1 | h1
      · exact h1
      · exfalso; apply hn; rw [← h1]; unfold whose; omega
    clear hr
    by_cases hc : whose g = c
    · by_cases h0 : 0 < whose g
      all_goals
        first
          | have hm : mineB c g = true := decide_eq_true (by omega)
          | have hm : mineB c g = false := decide_eq_false (by omega)
        have HM := Lib.hid hm
        clear hm
        go_enter Try.func3, Try.ntmps3
        go_wp2_with fail
        refine (client_any _ _ h h').mono ?_
        rintro e w1 ⟨rfl, rfl⟩
        rw [HR.out]
        go_wp2_with fail
        refine (rclient_any _ _ h h').mono ?_
        rintro e w1 ⟨rfl, rfl⟩
        go_wp2_with fail
        refine (check_ok _ _ hpos h' (by omega)).mono ?_
        rintro e w1 ⟨rfl, rfl⟩
        go_wp2_with fail
        refine (mine_any _ _ _ h h').mono ?_
        rintro e w1 ⟨rfl, rfl⟩
        rw [HM.out]
        go_wp2_with fail
        refine (awake_any _).mono ?_
        rintro e w1 ⟨rfl, hq⟩
        go_wp2_with fail
        go_returns
        exact ⟨rfl, hq⟩
    · by_cases h0 : 0 < whose g
      all_goals
        have hm : mineB c g = false := decide_eq_false (by omega)
        have HM := Lib.hid hm
        clear hm
        go_enter Try.func3, Try.ntmps3
        go_wp2_with fail
        refine (client_any _ _ h h').mono ?_
        rintro e w1 ⟨rfl, rfl⟩
        rw [HR.out]
        go_wp2_with fail
        refine (rclient_any _ _ h h').mono ?_
        rintro e w1 ⟨rfl, rfl⟩
        go_wp2_with fail
        refine (check_ok _ _ hpos h' (by omega)).mono ?_
        rintro e w1 ⟨rfl, rfl⟩
        go_wp2_with fail
        refine (mine_any _ _ _ h h').mono ?_
        rintro e w1 ⟨rfl, rfl⟩
        rw [HM.out]
        go_wp2_with fail
        refine (awake_any _).mono ?_
        rintro e w1 ⟨rfl, hq⟩
        go_wp2_with fail
        go_returns
        exact ⟨rfl, hq⟩
end Go.Proofs.Ytipgmhldlobjdaa
