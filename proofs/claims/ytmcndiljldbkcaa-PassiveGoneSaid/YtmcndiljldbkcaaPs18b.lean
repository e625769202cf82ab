/- Layer 38: Check of any grab (p, true). -/
import Derived.Test.YtmcndiljldbkcaaPs18
namespace Go.Proofs.Ytmcndiljldbkcaa
open Go Go.RowKit
set_option linter.unusedSimpArgs false
set_option linter.unusedVariables false
set_option maxRecDepth 100000 in
set_option maxHeartbeats 32000000 in
theorem chk_true (a0 a1 a3 a4 : Int) (a5 : Bool) (a6 a7 a8 : Int) (w : World) : Calls Try.prog 30 #[.agg #[i6 a0, u3 a1, .bool true, i6 a3, i6 a4, .bool a5, i6 a6, i6 a7, i6 a8]] w fun e w' => e = .returned (i6 (chkN ⟨a0, a1, true, a3, a4, a5, a6, a7, a8⟩)) ∧ Below w.heap.size w w' := by
  by_cases c1 : a0 < 1
  · have e1 : decide (a0 < 1) = true := decide_eq_true c1
    have hv : chkN ⟨a0, a1, true, a3, a4, a5, a6, a7, a8⟩ = 1 := by unfold chkN mostC; simp only [Bool.false_eq_true, if_false, if_true]; repeat (first | rw [if_pos (by omega)] | rw [if_neg (by omega)])
    rw [hv]
    clear hv
    go_enter Try.func30, Try.ntmps30
    go_wp2_with fail
    go_returns
    exact ⟨by first | rfl | (simp; done), by (repeat' (first | with_reducible exact Below.refl _ _ | with_reducible assumption | with_reducible refine q_alloc ?_ _ | with_reducible refine q_drew ?_ | with_reducible refine q_drewN _ ?_ | with_reducible refine q_setCell ?_ ?_ _ | (left; simp; done) | (right; simp; done) | (right; dsimp only; omega) | (left; dsimp only; omega)))⟩
  · have e1 : decide (a0 < 1) = false := decide_eq_false c1
    by_cases c2 : 8 < a0
    · have e2 : decide (8 < a0) = true := decide_eq_true c2
      have hv : chkN ⟨a0, a1, true, a3, a4, a5, a6, a7, a8⟩ = 1 := by unfold chkN mostC; simp only [Bool.false_eq_true, if_false, if_true]; repeat (first | rw [if_pos (by omega)] | rw [if_neg (by omega)])
      rw [hv]
      clear hv
      go_enter Try.func30, Try.ntmps30
      go_wp2_with fail
      go_returns
      exact ⟨by first | rfl | (simp; done), by (repeat' (first | with_reducible exact Below.refl _ _ | with_reducible assumption | with_reducible refine q_alloc ?_ _ | with_reducible refine q_drew ?_ | with_reducible refine q_drewN _ ?_ | with_reducible refine q_setCell ?_ ?_ _ | (left; simp; done) | (right; simp; done) | (right; dsimp only; omega) | (left; dsimp only; omega)))⟩
    · have e2 : decide (8 < a0) = false := decide_eq_false c2
      by_cases c3 : a1 = 0
      · subst c3
        have hv : chkN ⟨a0, 0, true, a3, a4, a5, a6, a7, a8⟩ = 6 := by unfold chkN mostC; simp only [Bool.false_eq_true, if_false, if_true]; repeat (first | rw [if_pos (by omega)] | rw [if_neg (by omega)])
        rw [hv]
        clear hv
        go_enter Try.func30, Try.ntmps30
        go_wp2_with fail
        go_returns
        exact ⟨by first | rfl | (simp; done), by (repeat' (first | with_reducible exact Below.refl _ _ | with_reducible assumption | with_reducible refine q_alloc ?_ _ | with_reducible refine q_drew ?_ | with_reducible refine q_drewN _ ?_ | with_reducible refine q_setCell ?_ ?_ _ | (left; simp; done) | (right; simp; done) | (right; dsimp only; omega) | (left; dsimp only; omega)))⟩
      · have e3 : (a1 == 0) = false := by simpa using c3
        by_cases c4 : a3 < 0
        · have e4 : decide (a3 < 0) = true := decide_eq_true c4
          have hv : chkN ⟨a0, a1, true, a3, a4, a5, a6, a7, a8⟩ = 1 := by unfold chkN mostC; simp only [Bool.false_eq_true, if_false, if_true]; repeat (first | rw [if_pos (by omega)] | rw [if_neg (by omega)])
          rw [hv]
          clear hv
          go_enter Try.func30, Try.ntmps30
          go_wp2_with fail
          go_quiet (fail)
          go_wp2_with fail
          go_returns
          exact ⟨by first | rfl | (simp; done), by (repeat' (first | with_reducible exact Below.refl _ _ | with_reducible assumption | with_reducible refine q_alloc ?_ _ | with_reducible refine q_drew ?_ | with_reducible refine q_drewN _ ?_ | with_reducible refine q_setCell ?_ ?_ _ | (left; simp; done) | (right; simp; done) | (right; dsimp only; omega) | (left; dsimp only; omega)))⟩
        · have e4 : decide (a3 < 0) = false := decide_eq_false c4
          by_cases c5 : 5 < a3
          · have e5 : decide (5 < a3) = true := decide_eq_true c5
            have hv : chkN ⟨a0, a1, true, a3, a4, a5, a6, a7, a8⟩ = 1 := by unfold chkN mostC; simp only [Bool.false_eq_true, if_false, if_true]; repeat (first | rw [if_pos (by omega)] | rw [if_neg (by omega)])
            rw [hv]
            clear hv
            go_enter Try.func30, Try.ntmps30
            go_wp2_with fail
            go_quiet ((go_at_call 26; first | exact quiet_eq (most_t _) | exact quiet_eq (most_f _)))
            go_wp2_with fail
            go_returns
            exact ⟨by first | rfl | (simp; done), by (repeat' (first | with_reducible exact Below.refl _ _ | with_reducible assumption | with_reducible refine q_alloc ?_ _ | with_reducible refine q_drew ?_ | with_reducible refine q_drewN _ ?_ | with_reducible refine q_setCell ?_ ?_ _ | (left; simp; done) | (right; simp; done) | (right; dsimp only; omega) | (left; dsimp only; omega)))⟩
          · have e5 : decide (5 < a3) = false := decide_eq_false c5
            by_cases c6 : a4 = 32768
            · subst c6
              by_cases c7 : a6 < 0
              · have e7 : decide (a6 < 0) = true := decide_eq_true c7
                have hv : chkN ⟨a0, a1, true, a3, 32768, a5, a6, a7, a8⟩ = 1 := by unfold chkN mostC; simp only [Bool.false_eq_true, if_false, if_true]; repeat (first | rw [if_pos (by omega)] | rw [if_neg (by omega)])
                rw [hv]
                clear hv
                go_enter Try.func30, Try.ntmps30
                go_wp2_with fail
                go_quiet ((go_at_call 26; first | exact quiet_eq (most_t _) | exact quiet_eq (most_f _)))
                go_wp2_with fail
                go_returns
                exact ⟨by first | rfl | (simp; done), by (repeat' (first | with_reducible exact Below.refl _ _ | with_reducible assumption | with_reducible refine q_alloc ?_ _ | with_reducible refine q_drew ?_ | with_reducible refine q_drewN _ ?_ | with_reducible refine q_setCell ?_ ?_ _ | (left; simp; done) | (right; simp; done) | (right; dsimp only; omega) | (left; dsimp only; omega)))⟩
              · have e7 : decide (a6 < 0) = false := decide_eq_false c7
                by_cases c8 : 8191 < a6
                · have e8 : decide (8191 < a6) = true := decide_eq_true c8
                  have hv : chkN ⟨a0, a1, true, a3, 32768, a5, a6, a7, a8⟩ = 1 := by unfold chkN mostC; simp only [Bool.false_eq_true, if_false, if_true]; repeat (first | rw [if_pos (by omega)] | rw [if_neg (by omega)])
                  rw [hv]
                  clear hv
                  go_enter Try.func30, Try.ntmps30
                  go_wp2_with fail
                  go_quiet ((go_at_call 26; first | exact quiet_eq (most_t _) | exact quiet_eq (most_f _)))
                  go_wp2_with fail
                  go_returns
                  exact ⟨by first | rfl | (simp; done), by (repeat' (first | with_reducible exact Below.refl _ _ | with_reducible assumption | with_reducible refine q_alloc ?_ _ | with_reducible refine q_drew ?_ | with_reducible refine q_drewN _ ?_ | with_reducible refine q_setCell ?_ ?_ _ | (left; simp; done) | (right; simp; done) | (right; dsimp only; omega) | (left; dsimp only; omega)))⟩
                · have e8 : decide (8191 < a6) = false := decide_eq_false c8
                  by_cases c9 : a7 = 0
                  · subst c9
                    by_cases c10 : a8 = 0
                    · subst c10
                      have hr := right_mktrue a0 a1 true a3 32768 a5 a6 0 0 (by omega) (by assumption) (by omega) (by unfold mostC; simp only [Bool.false_eq_true, if_false, if_true]; omega) (by omega) (by omega) (by omega) (by omega)
                      rw [chk_right hr]
                      exact check_ok ⟨a0, a1, true, a3, 32768, a5, a6, 0, 0⟩ w hr
                    · have e10 : (a8 != 0) = true := by simpa using c10
                      by_cases d10 : a8 = 1
                      · subst d10
                        have hr := right_mktrue a0 a1 true a3 32768 a5 a6 0 1 (by omega) (by assumption) (by omega) (by unfold mostC; simp only [Bool.false_eq_true, if_false, if_true]; omega) (by omega) (by omega) (by omega) (by omega)
                        rw [chk_right hr]
                        exact check_ok ⟨a0, a1, true, a3, 32768, a5, a6, 0, 1⟩ w hr
                      · have f10 : (a8 != 1) = true := by simpa using d10
                        have hv : chkN ⟨a0, a1, true, a3, 32768, a5, a6, 0, a8⟩ = 10 := by unfold chkN mostC; simp only [Bool.false_eq_true, if_false, if_true]; repeat (first | rw [if_pos (by omega)] | rw [if_neg (by omega)])
                        rw [hv]
                        clear hv
                        go_enter Try.func30, Try.ntmps30
                        go_wp2_with fail
                        go_quiet ((go_at_call 26; first | exact quiet_eq (most_t _) | exact quiet_eq (most_f _)))
                        go_wp2_with fail
                        refine (mode_ok _ (by omega) _).mono ?_
                        rintro e w1 ⟨rfl, rfl⟩
                        go_wp2_with fail
                        refine (mode_bad _ (by assumption) (by assumption) _).mono ?_
                        rintro e w1 ⟨rfl, rfl⟩
                        go_wp2_with fail
                        go_returns
                        exact ⟨by first | rfl | (simp; done), by (repeat' (first | with_reducible exact Below.refl _ _ | with_reducible assumption | with_reducible refine q_alloc ?_ _ | with_reducible refine q_drew ?_ | with_reducible refine q_drewN _ ?_ | with_reducible refine q_setCell ?_ ?_ _ | (left; simp; done) | (right; simp; done) | (right; dsimp only; omega) | (left; dsimp only; omega)))⟩
                  · have e9 : (a7 != 0) = true := by simpa using c9
                    by_cases d9 : a7 = 1
                    · subst d9
                      by_cases c10 : a8 = 0
                      · subst c10
                        have hr := right_mktrue a0 a1 true a3 32768 a5 a6 1 0 (by omega) (by assumption) (by omega) (by unfold mostC; simp only [Bool.false_eq_true, if_false, if_true]; omega) (by omega) (by omega) (by omega) (by omega)
                        rw [chk_right hr]
                        exact check_ok ⟨a0, a1, true, a3, 32768, a5, a6, 1, 0⟩ w hr
                      · have e10 : (a8 != 0) = true := by simpa using c10
                        by_cases d10 : a8 = 1
                        · subst d10
                          have hr := right_mktrue a0 a1 true a3 32768 a5 a6 1 1 (by omega) (by assumption) (by omega) (by unfold mostC; simp only [Bool.false_eq_true, if_false, if_true]; omega) (by omega) (by omega) (by omega) (by omega)
                          rw [chk_right hr]
                          exact check_ok ⟨a0, a1, true, a3, 32768, a5, a6, 1, 1⟩ w hr
                        · have f10 : (a8 != 1) = true := by simpa using d10
                          have hv : chkN ⟨a0, a1, true, a3, 32768, a5, a6, 1, a8⟩ = 10 := by unfold chkN mostC; simp only [Bool.false_eq_true, if_false, if_true]; repeat (first | rw [if_pos (by omega)] | rw [if_neg (by omega)])
                          rw [hv]
                          clear hv
                          go_enter Try.func30, Try.ntmps30
                          go_wp2_with fail
                          go_quiet ((go_at_call 26; first | exact quiet_eq (most_t _) | exact quiet_eq (most_f _)))
                          go_wp2_with fail
                          refine (mode_ok _ (by omega) _).mono ?_
                          rintro e w1 ⟨rfl, rfl⟩
                          go_wp2_with fail
                          refine (mode_bad _ (by assumption) (by assumption) _).mono ?_
                          rintro e w1 ⟨rfl, rfl⟩
                          go_wp2_with fail
                          go_returns
                          exact ⟨by first | rfl | (simp; done), by (repeat' (first | with_reducible exact Below.refl _ _ | with_reducible assumption | with_reducible refine q_alloc ?_ _ | with_reducible refine q_drew ?_ | with_reducible refine q_drewN _ ?_ | with_reducible refine q_setCell ?_ ?_ _ | (left; simp; done) | (right; simp; done) | (right; dsimp only; omega) | (left; dsimp only; omega)))⟩
                    · have f9 : (a7 != 1) = true := by simpa using d9
                      have hv : chkN ⟨a0, a1, true, a3, 32768, a5, a6, a7, a8⟩ = 10 := by unfold chkN mostC; simp only [Bool.false_eq_true, if_false, if_true]; repeat (first | rw [if_pos (by omega)] | rw [if_neg (by omega)])
                      rw [hv]
                      clear hv
                      go_enter Try.func30, Try.ntmps30
                      go_wp2_with fail
                      go_quiet ((go_at_call 26; first | exact quiet_eq (most_t _) | exact quiet_eq (most_f _)))
                      go_wp2_with fail
                      refine (mode_bad _ (by assumption) (by assumption) _).mono ?_
                      rintro e w1 ⟨rfl, rfl⟩
                      go_wp2_with fail
                      go_returns
                      exact ⟨by first | rfl | (simp; done), by (repeat' (first | with_reducible exact Below.refl _ _ | with_reducible assumption | with_reducible refine q_alloc ?_ _ | with_reducible refine q_drew ?_ | with_reducible refine q_drewN _ ?_ | with_reducible refine q_setCell ?_ ?_ _ | (left; simp; done) | (right; simp; done) | (right; dsimp only; omega) | (left; dsimp only; omega)))⟩
            · have e6 : (a4 != 32768) = true := by simpa using c6
              by_cases c6a : a4 < 0
              · have e6a : decide (a4 < 0) = true := decide_eq_true c6a
                have hv : chkN ⟨a0, a1, true, a3, a4, a5, a6, a7, a8⟩ = 22 := by unfold chkN mostC; simp only [Bool.false_eq_true, if_false, if_true]; repeat (first | rw [if_pos (by omega)] | rw [if_neg (by omega)])
                rw [hv]
                clear hv
                go_enter Try.func30, Try.ntmps30
                go_wp2_with fail
                go_quiet ((go_at_call 26; first | exact quiet_eq (most_t _) | exact quiet_eq (most_f _)))
                go_wp2_with fail
                go_returns
                exact ⟨by first | rfl | (simp; done), by (repeat' (first | with_reducible exact Below.refl _ _ | with_reducible assumption | with_reducible refine q_alloc ?_ _ | with_reducible refine q_drew ?_ | with_reducible refine q_drewN _ ?_ | with_reducible refine q_setCell ?_ ?_ _ | (left; simp; done) | (right; simp; done) | (right; dsimp only; omega) | (left; dsimp only; omega)))⟩
              · have e6a : decide (a4 < 0) = false := decide_eq_false c6a
                by_cases c6b : 255 < a4
                · have e6b : decide (255 < a4) = true := decide_eq_true c6b
                  have hv : chkN ⟨a0, a1, true, a3, a4, a5, a6, a7, a8⟩ = 22 := by unfold chkN mostC; simp only [Bool.false_eq_true, if_false, if_true]; repeat (first | rw [if_pos (by omega)] | rw [if_neg (by omega)])
                  rw [hv]
                  clear hv
                  go_enter Try.func30, Try.ntmps30
                  go_wp2_with fail
                  go_quiet ((go_at_call 26; first | exact quiet_eq (most_t _) | exact quiet_eq (most_f _)))
                  go_wp2_with fail
                  go_returns
                  exact ⟨by first | rfl | (simp; done), by (repeat' (first | with_reducible exact Below.refl _ _ | with_reducible assumption | with_reducible refine q_alloc ?_ _ | with_reducible refine q_drew ?_ | with_reducible refine q_drewN _ ?_ | with_reducible refine q_setCell ?_ ?_ _ | (left; simp; done) | (right; simp; done) | (right; dsimp only; omega) | (left; dsimp only; omega)))⟩
                · have e6b : decide (255 < a4) = false := decide_eq_false c6b
                  by_cases c7 : a6 < 0
                  · have e7 : decide (a6 < 0) = true := decide_eq_true c7
                    have hv : chkN ⟨a0, a1, true, a3, a4, a5, a6, a7, a8⟩ = 1 := by unfold chkN mostC; simp only [Bool.false_eq_true, if_false, if_true]; repeat (first | rw [if_pos (by omega)] | rw [if_neg (by omega)])
                    rw [hv]
                    clear hv
                    go_enter Try.func30, Try.ntmps30
                    go_wp2_with fail
                    go_quiet ((go_at_call 26; first | exact quiet_eq (most_t _) | exact quiet_eq (most_f _)))
                    go_wp2_with fail
                    go_returns
                    exact ⟨by first | rfl | (simp; done), by (repeat' (first | with_reducible exact Below.refl _ _ | with_reducible assumption | with_reducible refine q_alloc ?_ _ | with_reducible refine q_drew ?_ | with_reducible refine q_drewN _ ?_ | with_reducible refine q_setCell ?_ ?_ _ | (left; simp; done) | (right; simp; done) | (right; dsimp only; omega) | (left; dsimp only; omega)))⟩
                  · have e7 : decide (a6 < 0) = false := decide_eq_false c7
                    by_cases c8 : 8191 < a6
                    · have e8 : decide (8191 < a6) = true := decide_eq_true c8
                      have hv : chkN ⟨a0, a1, true, a3, a4, a5, a6, a7, a8⟩ = 1 := by unfold chkN mostC; simp only [Bool.false_eq_true, if_false, if_true]; repeat (first | rw [if_pos (by omega)] | rw [if_neg (by omega)])
                      rw [hv]
                      clear hv
                      go_enter Try.func30, Try.ntmps30
                      go_wp2_with fail
                      go_quiet ((go_at_call 26; first | exact quiet_eq (most_t _) | exact quiet_eq (most_f _)))
                      go_wp2_with fail
                      go_returns
                      exact ⟨by first | rfl | (simp; done), by (repeat' (first | with_reducible exact Below.refl _ _ | with_reducible assumption | with_reducible refine q_alloc ?_ _ | with_reducible refine q_drew ?_ | with_reducible refine q_drewN _ ?_ | with_reducible refine q_setCell ?_ ?_ _ | (left; simp; done) | (right; simp; done) | (right; dsimp only; omega) | (left; dsimp only; omega)))⟩
                    · have e8 : decide (8191 < a6) = false := decide_eq_false c8
                      by_cases c9 : a7 = 0
                      · subst c9
                        by_cases c10 : a8 = 0
                        · subst c10
                          have hr := right_mktrue a0 a1 true a3 a4 a5 a6 0 0 (by omega) (by assumption) (by omega) (by unfold mostC; simp only [Bool.false_eq_true, if_false, if_true]; omega) (by omega) (by omega) (by omega) (by omega)
                          rw [chk_right hr]
                          exact check_ok ⟨a0, a1, true, a3, a4, a5, a6, 0, 0⟩ w hr
                        · have e10 : (a8 != 0) = true := by simpa using c10
                          by_cases d10 : a8 = 1
                          · subst d10
                            have hr := right_mktrue a0 a1 true a3 a4 a5 a6 0 1 (by omega) (by assumption) (by omega) (by unfold mostC; simp only [Bool.false_eq_true, if_false, if_true]; omega) (by omega) (by omega) (by omega) (by omega)
                            rw [chk_right hr]
                            exact check_ok ⟨a0, a1, true, a3, a4, a5, a6, 0, 1⟩ w hr
                          · have f10 : (a8 != 1) = true := by simpa using d10
                            have hv : chkN ⟨a0, a1, true, a3, a4, a5, a6, 0, a8⟩ = 10 := by unfold chkN mostC; simp only [Bool.false_eq_true, if_false, if_true]; repeat (first | rw [if_pos (by omega)] | rw [if_neg (by omega)])
                            rw [hv]
                            clear hv
                            go_enter Try.func30, Try.ntmps30
                            go_wp2_with fail
                            go_quiet ((go_at_call 26; first | exact quiet_eq (most_t _) | exact quiet_eq (most_f _)))
                            go_wp2_with fail
                            refine (mode_ok _ (by omega) _).mono ?_
                            rintro e w1 ⟨rfl, rfl⟩
                            go_wp2_with fail
                            refine (mode_bad _ (by assumption) (by assumption) _).mono ?_
                            rintro e w1 ⟨rfl, rfl⟩
                            go_wp2_with fail
                            go_returns
                            exact ⟨by first | rfl | (simp; done), by (repeat' (first | with_reducible exact Below.refl _ _ | with_reducible assumption | with_reducible refine q_alloc ?_ _ | with_reducible refine q_drew ?_ | with_reducible refine q_drewN _ ?_ | with_reducible refine q_setCell ?_ ?_ _ | (left; simp; done) | (right; simp; done) | (right; dsimp only; omega) | (left; dsimp only; omega)))⟩
                      · have e9 : (a7 != 0) = true := by simpa using c9
                        by_cases d9 : a7 = 1
                        · subst d9
                          by_cases c10 : a8 = 0
                          · subst c10
                            have hr := right_mktrue a0 a1 true a3 a4 a5 a6 1 0 (by omega) (by assumption) (by omega) (by unfold mostC; simp only [Bool.false_eq_true, if_false, if_true]; omega) (by omega) (by omega) (by omega) (by omega)
                            rw [chk_right hr]
                            exact check_ok ⟨a0, a1, true, a3, a4, a5, a6, 1, 0⟩ w hr
                          · have e10 : (a8 != 0) = true := by simpa using c10
                            by_cases d10 : a8 = 1
                            · subst d10
                              have hr := right_mktrue a0 a1 true a3 a4 a5 a6 1 1 (by omega) (by assumption) (by omega) (by unfold mostC; simp only [Bool.false_eq_true, if_false, if_true]; omega) (by omega) (by omega) (by omega) (by omega)
                              rw [chk_right hr]
                              exact check_ok ⟨a0, a1, true, a3, a4, a5, a6, 1, 1⟩ w hr
                            · have f10 : (a8 != 1) = true := by simpa using d10
                              have hv : chkN ⟨a0, a1, true, a3, a4, a5, a6, 1, a8⟩ = 10 := by unfold chkN mostC; simp only [Bool.false_eq_true, if_false, if_true]; repeat (first | rw [if_pos (by omega)] | rw [if_neg (by omega)])
                              rw [hv]
                              clear hv
                              go_enter Try.func30, Try.ntmps30
                              go_wp2_with fail
                              go_quiet ((go_at_call 26; first | exact quiet_eq (most_t _) | exact quiet_eq (most_f _)))
                              go_wp2_with fail
                              refine (mode_ok _ (by omega) _).mono ?_
                              rintro e w1 ⟨rfl, rfl⟩
                              go_wp2_with fail
                              refine (mode_bad _ (by assumption) (by assumption) _).mono ?_
                              rintro e w1 ⟨rfl, rfl⟩
                              go_wp2_with fail
                              go_returns
                              exact ⟨by first | rfl | (simp; done), by (repeat' (first | with_reducible exact Below.refl _ _ | with_reducible assumption | with_reducible refine q_alloc ?_ _ | with_reducible refine q_drew ?_ | with_reducible refine q_drewN _ ?_ | with_reducible refine q_setCell ?_ ?_ _ | (left; simp; done) | (right; simp; done) | (right; dsimp only; omega) | (left; dsimp only; omega)))⟩
                        · have f9 : (a7 != 1) = true := by simpa using d9
                          have hv : chkN ⟨a0, a1, true, a3, a4, a5, a6, a7, a8⟩ = 10 := by unfold chkN mostC; simp only [Bool.false_eq_true, if_false, if_true]; repeat (first | rw [if_pos (by omega)] | rw [if_neg (by omega)])
                          rw [hv]
                          clear hv
                          go_enter Try.func30, Try.ntmps30
                          go_wp2_with fail
                          go_quiet ((go_at_call 26; first | exact quiet_eq (most_t _) | exact quiet_eq (most_f _)))
                          go_wp2_with fail
                          refine (mode_bad _ (by assumption) (by assumption) _).mono ?_
                          rintro e w1 ⟨rfl, rfl⟩
                          go_wp2_with fail
                          go_returns
                          exact ⟨by first | rfl | (simp; done), by (repeat' (first | with_reducible exact Below.refl _ _ | with_reducible assumption | with_reducible refine q_alloc ?_ _ | with_reducible refine q_drew ?_ | with_reducible refine q_drewN _ ?_ | with_reducible refine q_setCell ?_ ?_ _ | (left; simp; done) | (right; simp; done) | (right; dsimp only; omega) | (left; dsimp only; omega)))⟩
end Go.Proofs.Ytmcndiljldbkcaa
