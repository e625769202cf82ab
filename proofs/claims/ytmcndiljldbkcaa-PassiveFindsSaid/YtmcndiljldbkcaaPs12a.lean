/- Layer 38: the document's Check refuses a wrong grab of a key. -/
import Derived.Test.YtmcndiljldbkcaaPs2
namespace Go.Proofs.Ytmcndiljldbkcaa
open Go Go.RowKit
set_option linter.unusedSimpArgs false
set_option linter.unusedVariables false
theorem right_mk_a (a0 a1 : Int) (a2 : Bool) (a3 a4 : Int) (a5 : Bool) (a6 a7 a8 : Int) (h1 : 1 ≤ a0 ∧ a0 ≤ 8) (h2 : ¬ a1 = 0) (h3 : 0 ≤ a3) (h4 : a3 ≤ mostC a2) (h5 : a4 = 32768 ∨ 0 ≤ a4 ∧ a4 ≤ 255) (h6 : 0 ≤ a6 ∧ a6 ≤ 8191) (h7 : a7 = 0 ∨ a7 = 1) (h8 : a8 = 0 ∨ a8 = 1) : RightG ⟨a0, a1, a2, a3, a4, a5, a6, a7, a8⟩ := ⟨h1, h2, ⟨h3, h4⟩, h5, h6, h7, h8⟩
set_option maxRecDepth 100000 in
set_option maxHeartbeats 16000000 in
theorem rcheck_bad_false (a0 a1 a3 a4 : Int) (a5 : Bool) (a6 a7 a8 : Int) (w : World) (hbad : ¬ RightG ⟨a0, a1, false, a3, a4, a5, a6, a7, a8⟩) : Calls Try.prog 19 #[.agg #[i6 a0, u3 a1, .bool false, i6 a3, i6 a4, .bool a5, i6 a6, i6 a7, i6 a8]] w fun e w' => ∃ n, e = .returned (i6 n) ∧ n ≠ 0 ∧ Below w.heap.size w w' := by
  by_cases c1 : a0 < 1
  · have e1 : decide (a0 < 1) = true := decide_eq_true c1
    go_enter Try.func19, Try.ntmps19
    go_wp2_with fail
    go_returns
    exact ⟨1, by first | rfl | (simp; done), by decide, by (repeat' (first | with_reducible exact Below.refl _ _ | with_reducible assumption | with_reducible refine q_alloc ?_ _ | with_reducible refine q_drew ?_ | with_reducible refine q_drewN _ ?_ | with_reducible refine q_setCell ?_ ?_ _ | (left; simp; done) | (right; simp; done) | (right; dsimp only; omega) | (left; dsimp only; omega)))⟩
  · have e1 : decide (a0 < 1) = false := decide_eq_false c1
    by_cases c2 : 8 < a0
    · have e2 : decide (8 < a0) = true := decide_eq_true c2
      go_enter Try.func19, Try.ntmps19
      go_wp2_with fail
      go_returns
      exact ⟨1, by first | rfl | (simp; done), by decide, by (repeat' (first | with_reducible exact Below.refl _ _ | with_reducible assumption | with_reducible refine q_alloc ?_ _ | with_reducible refine q_drew ?_ | with_reducible refine q_drewN _ ?_ | with_reducible refine q_setCell ?_ ?_ _ | (left; simp; done) | (right; simp; done) | (right; dsimp only; omega) | (left; dsimp only; omega)))⟩
    · have e2 : decide (8 < a0) = false := decide_eq_false c2
      by_cases c3 : a1 = 0
      · subst c3
        go_enter Try.func19, Try.ntmps19
        go_wp2_with fail
        go_returns
        exact ⟨6, by first | rfl | (simp; done), by decide, by (repeat' (first | with_reducible exact Below.refl _ _ | with_reducible assumption | with_reducible refine q_alloc ?_ _ | with_reducible refine q_drew ?_ | with_reducible refine q_drewN _ ?_ | with_reducible refine q_setCell ?_ ?_ _ | (left; simp; done) | (right; simp; done) | (right; dsimp only; omega) | (left; dsimp only; omega)))⟩
      · have e3 : (a1 == 0) = false := by simpa using c3
        by_cases c4 : a3 < 0
        · have e4 : decide (a3 < 0) = true := decide_eq_true c4
          go_enter Try.func19, Try.ntmps19
          go_wp2_with fail
          go_returns
          exact ⟨1, by first | rfl | (simp; done), by decide, by (repeat' (first | with_reducible exact Below.refl _ _ | with_reducible assumption | with_reducible refine q_alloc ?_ _ | with_reducible refine q_drew ?_ | with_reducible refine q_drewN _ ?_ | with_reducible refine q_setCell ?_ ?_ _ | (left; simp; done) | (right; simp; done) | (right; dsimp only; omega) | (left; dsimp only; omega)))⟩
        · have e4 : decide (a3 < 0) = false := decide_eq_false c4
          by_cases c5 : 255 < a3
          · have e5 : decide (255 < a3) = true := decide_eq_true c5
            go_enter Try.func19, Try.ntmps19
            go_wp2_with fail
            go_returns
            exact ⟨1, by first | rfl | (simp; done), by decide, by (repeat' (first | with_reducible exact Below.refl _ _ | with_reducible assumption | with_reducible refine q_alloc ?_ _ | with_reducible refine q_drew ?_ | with_reducible refine q_drewN _ ?_ | with_reducible refine q_setCell ?_ ?_ _ | (left; simp; done) | (right; simp; done) | (right; dsimp only; omega) | (left; dsimp only; omega)))⟩
          · have e5 : decide (255 < a3) = false := decide_eq_false c5
            by_cases c6 : a4 = 32768
            · subst c6
              by_cases c7 : a6 < 0
              · have e7 : decide (a6 < 0) = true := decide_eq_true c7
                go_enter Try.func19, Try.ntmps19
                go_wp2_with fail
                go_returns
                exact ⟨1, by first | rfl | (simp; done), by decide, by (repeat' (first | with_reducible exact Below.refl _ _ | with_reducible assumption | with_reducible refine q_alloc ?_ _ | with_reducible refine q_drew ?_ | with_reducible refine q_drewN _ ?_ | with_reducible refine q_setCell ?_ ?_ _ | (left; simp; done) | (right; simp; done) | (right; dsimp only; omega) | (left; dsimp only; omega)))⟩
              · have e7 : decide (a6 < 0) = false := decide_eq_false c7
                by_cases c8 : 8191 < a6
                · have e8 : decide (8191 < a6) = true := decide_eq_true c8
                  go_enter Try.func19, Try.ntmps19
                  go_wp2_with fail
                  go_returns
                  exact ⟨1, by first | rfl | (simp; done), by decide, by (repeat' (first | with_reducible exact Below.refl _ _ | with_reducible assumption | with_reducible refine q_alloc ?_ _ | with_reducible refine q_drew ?_ | with_reducible refine q_drewN _ ?_ | with_reducible refine q_setCell ?_ ?_ _ | (left; simp; done) | (right; simp; done) | (right; dsimp only; omega) | (left; dsimp only; omega)))⟩
                · have e8 : decide (8191 < a6) = false := decide_eq_false c8
                  by_cases c9 : a7 = 0
                  · subst c9
                    by_cases c10 : a8 = 0
                    · subst c10
                      exact absurd (right_mk_a _ _ _ _ _ _ _ _ _ (by omega) (by assumption) (by omega) (by unfold mostC; simp only [Bool.false_eq_true, if_false, if_true]; omega) (by omega) (by omega) (by omega) (by omega)) hbad
                    · have e10 : (a8 != 0) = true := by simpa using c10
                      by_cases d10 : a8 = 1
                      · subst d10
                        exact absurd (right_mk_a _ _ _ _ _ _ _ _ _ (by omega) (by assumption) (by omega) (by unfold mostC; simp only [Bool.false_eq_true, if_false, if_true]; omega) (by omega) (by omega) (by omega) (by omega)) hbad
                      · have f10 : (a8 != 1) = true := by simpa using d10
                        go_enter Try.func19, Try.ntmps19
                        go_wp2_with fail
                        go_returns
                        exact ⟨10, by first | rfl | (simp; done), by decide, by (repeat' (first | with_reducible exact Below.refl _ _ | with_reducible assumption | with_reducible refine q_alloc ?_ _ | with_reducible refine q_drew ?_ | with_reducible refine q_drewN _ ?_ | with_reducible refine q_setCell ?_ ?_ _ | (left; simp; done) | (right; simp; done) | (right; dsimp only; omega) | (left; dsimp only; omega)))⟩
                  · have e9 : (a7 != 0) = true := by simpa using c9
                    by_cases d9 : a7 = 1
                    · subst d9
                      by_cases c10 : a8 = 0
                      · subst c10
                        exact absurd (right_mk_a _ _ _ _ _ _ _ _ _ (by omega) (by assumption) (by omega) (by unfold mostC; simp only [Bool.false_eq_true, if_false, if_true]; omega) (by omega) (by omega) (by omega) (by omega)) hbad
                      · have e10 : (a8 != 0) = true := by simpa using c10
                        by_cases d10 : a8 = 1
                        · subst d10
                          exact absurd (right_mk_a _ _ _ _ _ _ _ _ _ (by omega) (by assumption) (by omega) (by unfold mostC; simp only [Bool.false_eq_true, if_false, if_true]; omega) (by omega) (by omega) (by omega) (by omega)) hbad
                        · have f10 : (a8 != 1) = true := by simpa using d10
                          go_enter Try.func19, Try.ntmps19
                          go_wp2_with fail
                          go_returns
                          exact ⟨10, by first | rfl | (simp; done), by decide, by (repeat' (first | with_reducible exact Below.refl _ _ | with_reducible assumption | with_reducible refine q_alloc ?_ _ | with_reducible refine q_drew ?_ | with_reducible refine q_drewN _ ?_ | with_reducible refine q_setCell ?_ ?_ _ | (left; simp; done) | (right; simp; done) | (right; dsimp only; omega) | (left; dsimp only; omega)))⟩
                    · have f9 : (a7 != 1) = true := by simpa using d9
                      go_enter Try.func19, Try.ntmps19
                      go_wp2_with fail
                      go_returns
                      exact ⟨10, by first | rfl | (simp; done), by decide, by (repeat' (first | with_reducible exact Below.refl _ _ | with_reducible assumption | with_reducible refine q_alloc ?_ _ | with_reducible refine q_drew ?_ | with_reducible refine q_drewN _ ?_ | with_reducible refine q_setCell ?_ ?_ _ | (left; simp; done) | (right; simp; done) | (right; dsimp only; omega) | (left; dsimp only; omega)))⟩
            · have e6 : (a4 != 32768) = true := by simpa using c6
              by_cases c6a : a4 < 0
              · have e6a : decide (a4 < 0) = true := decide_eq_true c6a
                go_enter Try.func19, Try.ntmps19
                go_wp2_with fail
                go_returns
                exact ⟨22, by first | rfl | (simp; done), by decide, by (repeat' (first | with_reducible exact Below.refl _ _ | with_reducible assumption | with_reducible refine q_alloc ?_ _ | with_reducible refine q_drew ?_ | with_reducible refine q_drewN _ ?_ | with_reducible refine q_setCell ?_ ?_ _ | (left; simp; done) | (right; simp; done) | (right; dsimp only; omega) | (left; dsimp only; omega)))⟩
              · have e6a : decide (a4 < 0) = false := decide_eq_false c6a
                by_cases c6b : 255 < a4
                · have e6b : decide (255 < a4) = true := decide_eq_true c6b
                  go_enter Try.func19, Try.ntmps19
                  go_wp2_with fail
                  go_returns
                  exact ⟨22, by first | rfl | (simp; done), by decide, by (repeat' (first | with_reducible exact Below.refl _ _ | with_reducible assumption | with_reducible refine q_alloc ?_ _ | with_reducible refine q_drew ?_ | with_reducible refine q_drewN _ ?_ | with_reducible refine q_setCell ?_ ?_ _ | (left; simp; done) | (right; simp; done) | (right; dsimp only; omega) | (left; dsimp only; omega)))⟩
                · have e6b : decide (255 < a4) = false := decide_eq_false c6b
                  by_cases c7 : a6 < 0
                  · have e7 : decide (a6 < 0) = true := decide_eq_true c7
                    go_enter Try.func19, Try.ntmps19
                    go_wp2_with fail
                    go_returns
                    exact ⟨1, by first | rfl | (simp; done), by decide, by (repeat' (first | with_reducible exact Below.refl _ _ | with_reducible assumption | with_reducible refine q_alloc ?_ _ | with_reducible refine q_drew ?_ | with_reducible refine q_drewN _ ?_ | with_reducible refine q_setCell ?_ ?_ _ | (left; simp; done) | (right; simp; done) | (right; dsimp only; omega) | (left; dsimp only; omega)))⟩
                  · have e7 : decide (a6 < 0) = false := decide_eq_false c7
                    by_cases c8 : 8191 < a6
                    · have e8 : decide (8191 < a6) = true := decide_eq_true c8
                      go_enter Try.func19, Try.ntmps19
                      go_wp2_with fail
                      go_returns
                      exact ⟨1, by first | rfl | (simp; done), by decide, by (repeat' (first | with_reducible exact Below.refl _ _ | with_reducible assumption | with_reducible refine q_alloc ?_ _ | with_reducible refine q_drew ?_ | with_reducible refine q_drewN _ ?_ | with_reducible refine q_setCell ?_ ?_ _ | (left; simp; done) | (right; simp; done) | (right; dsimp only; omega) | (left; dsimp only; omega)))⟩
                    · have e8 : decide (8191 < a6) = false := decide_eq_false c8
                      by_cases c9 : a7 = 0
                      · subst c9
                        by_cases c10 : a8 = 0
                        · subst c10
                          exact absurd (right_mk_a _ _ _ _ _ _ _ _ _ (by omega) (by assumption) (by omega) (by unfold mostC; simp only [Bool.false_eq_true, if_false, if_true]; omega) (by omega) (by omega) (by omega) (by omega)) hbad
                        · have e10 : (a8 != 0) = true := by simpa using c10
                          by_cases d10 : a8 = 1
                          · subst d10
                            exact absurd (right_mk_a _ _ _ _ _ _ _ _ _ (by omega) (by assumption) (by omega) (by unfold mostC; simp only [Bool.false_eq_true, if_false, if_true]; omega) (by omega) (by omega) (by omega) (by omega)) hbad
                          · have f10 : (a8 != 1) = true := by simpa using d10
                            go_enter Try.func19, Try.ntmps19
                            go_wp2_with fail
                            go_returns
                            exact ⟨10, by first | rfl | (simp; done), by decide, by (repeat' (first | with_reducible exact Below.refl _ _ | with_reducible assumption | with_reducible refine q_alloc ?_ _ | with_reducible refine q_drew ?_ | with_reducible refine q_drewN _ ?_ | with_reducible refine q_setCell ?_ ?_ _ | (left; simp; done) | (right; simp; done) | (right; dsimp only; omega) | (left; dsimp only; omega)))⟩
                      · have e9 : (a7 != 0) = true := by simpa using c9
                        by_cases d9 : a7 = 1
                        · subst d9
                          by_cases c10 : a8 = 0
                          · subst c10
                            exact absurd (right_mk_a _ _ _ _ _ _ _ _ _ (by omega) (by assumption) (by omega) (by unfold mostC; simp only [Bool.false_eq_true, if_false, if_true]; omega) (by omega) (by omega) (by omega) (by omega)) hbad
                          · have e10 : (a8 != 0) = true := by simpa using c10
                            by_cases d10 : a8 = 1
                            · subst d10
                              exact absurd (right_mk_a _ _ _ _ _ _ _ _ _ (by omega) (by assumption) (by omega) (by unfold mostC; simp only [Bool.false_eq_true, if_false, if_true]; omega) (by omega) (by omega) (by omega) (by omega)) hbad
                            · have f10 : (a8 != 1) = true := by simpa using d10
                              go_enter Try.func19, Try.ntmps19
                              go_wp2_with fail
                              go_returns
                              exact ⟨10, by first | rfl | (simp; done), by decide, by (repeat' (first | with_reducible exact Below.refl _ _ | with_reducible assumption | with_reducible refine q_alloc ?_ _ | with_reducible refine q_drew ?_ | with_reducible refine q_drewN _ ?_ | with_reducible refine q_setCell ?_ ?_ _ | (left; simp; done) | (right; simp; done) | (right; dsimp only; omega) | (left; dsimp only; omega)))⟩
                        · have f9 : (a7 != 1) = true := by simpa using d9
                          go_enter Try.func19, Try.ntmps19
                          go_wp2_with fail
                          go_returns
                          exact ⟨10, by first | rfl | (simp; done), by decide, by (repeat' (first | with_reducible exact Below.refl _ _ | with_reducible assumption | with_reducible refine q_alloc ?_ _ | with_reducible refine q_drew ?_ | with_reducible refine q_drewN _ ?_ | with_reducible refine q_setCell ?_ ?_ _ | (left; simp; done) | (right; simp; done) | (right; dsimp only; omega) | (left; dsimp only; omega)))⟩
end Go.Proofs.Ytmcndiljldbkcaa
