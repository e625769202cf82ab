/- Layer 38: the document's Check lets a right grab pass. -/
import Derived.Test.YtmcndiljldbkcaaPs2
namespace Go.Proofs.Ytmcndiljldbkcaa
open Go Go.RowKit
set_option linter.unusedSimpArgs false
set_option linter.unusedVariables false
set_option maxRecDepth 100000 in
set_option maxHeartbeats 16000000 in
theorem rcheck_ok (g : G) (w : World) (h : RightG g) : Calls Try.prog 19 #[gV g] w fun e w' => e = .returned (i6 0) ∧ Below w.heap.size w w' := by
  obtain ⟨a0, a1, a2, a3, a4, a5, a6, a7, a8⟩ := g
  obtain ⟨⟨h1, h2⟩, h3, ⟨h4, h5⟩, h6, ⟨h7, h8⟩, h9, h10⟩ := h
  dsimp only at h1 h2 h3 h4 h5 h6 h7 h8 h9 h10 ⊢
  have e1 : decide (a0 < 1) = false := decide_eq_false (by omega)
  have e2 : decide (8 < a0) = false := decide_eq_false (by omega)
  have e3 : (a1 == 0) = false := by simpa using h3
  have e4 : decide (a3 < 0) = false := decide_eq_false (by omega)
  have e7 : decide (a6 < 0) = false := decide_eq_false (by omega)
  have e8 : decide (8191 < a6) = false := decide_eq_false (by omega)
  have g1 : ¬ a0 < 1 := by omega
  have g2 : ¬ 8 < a0 := by omega
  have g4 : ¬ a3 < 0 := by omega
  have g7 : ¬ a6 < 0 := by omega
  have g8 : ¬ 8191 < a6 := by omega
  clear h3
  cases a2
  all_goals
    unfold mostC at h5
    simp only [Bool.false_eq_true, if_false, if_true] at h5
    rcases h6 with rfl | ⟨h61, h62⟩
  all_goals
    try (have e61 : decide (a4 < 0) = false := decide_eq_false (by omega))
    try (have e62 : decide (255 < a4) = false := decide_eq_false (by omega))
    try (have g61 : ¬ a4 < 0 := by omega)
    try (have g62 : ¬ 255 < a4 := by omega)
    try (have e63 : (a4 != 32768) = true := by simp; omega)
    try (have e5 : decide (255 < a3) = false := decide_eq_false (by omega))
    try (have g5 : ¬ 255 < a3 := by omega)
    try (have e5 : decide (5 < a3) = false := decide_eq_false (by omega))
    try (have g5 : ¬ 5 < a3 := by omega)
    rcases h9 with rfl | rfl <;> rcases h10 with rfl | rfl
    all_goals
      go_enter Try.func19, Try.ntmps19
      go_wp2_with fail
      go_returns
      exact ⟨by first | rfl | (simp; done), by (repeat' (first | with_reducible exact Below.refl _ _ | with_reducible assumption | with_reducible refine q_alloc ?_ _ | with_reducible refine q_drew ?_ | with_reducible refine q_drewN _ ?_ | with_reducible refine q_setCell ?_ ?_ _ | (left; simp; done) | (right; simp; done) | (right; dsimp only; omega) | (left; dsimp only; omega)))⟩
end Go.Proofs.Ytmcndiljldbkcaa
