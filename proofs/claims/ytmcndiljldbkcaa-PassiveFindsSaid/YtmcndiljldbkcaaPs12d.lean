/- Layer 38: the document's Activates. -/
import Derived.Test.YtmcndiljldbkcaaPs2
namespace Go.Proofs.Ytmcndiljldbkcaa
open Go Go.RowKit
set_option linter.unusedSimpArgs false
set_option linter.unusedVariables false
def ractB (b : Bool) (c m : Int) (x : G) : Bool := (x.bu == b) && (decide (x.co = c) || decide (x.co = 0)) && (decide (x.mo = m) || decide (x.mo = 32768))
set_option maxRecDepth 100000 in
set_option maxHeartbeats 16000000 in
theorem ract_any (x : G) (b : Bool) (c m : Int) (w : World) : Calls Try.prog 20 #[gV x, .bool b, i6 c, i6 m] w fun e w' => e = .returned (.bool (ractB b c m x)) ∧ Below w.heap.size w w' := by
  obtain ⟨b0, b1, b2, b3, b4, b5, b6, b7, b8⟩ := x
  unfold ractB
  dsimp only
  cases b2 <;> cases b
  all_goals try (
    go_enter Try.func20, Try.ntmps20
    go_wp2_with fail
    go_returns
    exact ⟨by first | rfl | (simp; done) | (simp [*]; done), by (repeat' (first | with_reducible exact Below.refl _ _ | with_reducible assumption | with_reducible refine q_alloc ?_ _ | with_reducible refine q_drew ?_ | with_reducible refine q_drewN _ ?_ | with_reducible refine q_setCell ?_ ?_ _ | (left; simp; done) | (right; simp; done) | (right; dsimp only; omega) | (left; dsimp only; omega)))⟩
    done)
  all_goals
    by_cases k3 : b3 = c
    · subst k3
      by_cases k4 : b4 = m
      · subst k4
        go_enter Try.func20, Try.ntmps20
        go_wp2_with fail
        go_returns
        exact ⟨by first | rfl | (simp; done) | (simp [*]; done), by (repeat' (first | with_reducible exact Below.refl _ _ | with_reducible assumption | with_reducible refine q_alloc ?_ _ | with_reducible refine q_drew ?_ | with_reducible refine q_drewN _ ?_ | with_reducible refine q_setCell ?_ ?_ _ | (left; simp; done) | (right; simp; done) | (right; dsimp only; omega) | (left; dsimp only; omega)))⟩
      · have q4 : (b4 == m) = false := by simpa using k4
        by_cases k5 : b4 = 32768
        · subst k5
          go_enter Try.func20, Try.ntmps20
          go_wp2_with fail
          go_returns
          exact ⟨by first | rfl | (simp; done) | (simp [*]; done), by (repeat' (first | with_reducible exact Below.refl _ _ | with_reducible assumption | with_reducible refine q_alloc ?_ _ | with_reducible refine q_drew ?_ | with_reducible refine q_drewN _ ?_ | with_reducible refine q_setCell ?_ ?_ _ | (left; simp; done) | (right; simp; done) | (right; dsimp only; omega) | (left; dsimp only; omega)))⟩
        · have q5 : (b4 == 32768) = false := by simpa using k5
          go_enter Try.func20, Try.ntmps20
          go_wp2_with fail
          go_returns
          exact ⟨by first | rfl | (simp; done) | (simp [*]; done), by (repeat' (first | with_reducible exact Below.refl _ _ | with_reducible assumption | with_reducible refine q_alloc ?_ _ | with_reducible refine q_drew ?_ | with_reducible refine q_drewN _ ?_ | with_reducible refine q_setCell ?_ ?_ _ | (left; simp; done) | (right; simp; done) | (right; dsimp only; omega) | (left; dsimp only; omega)))⟩
    · have q3 : (b3 == c) = false := by simpa using k3
      by_cases k6 : b3 = 0
      · subst k6
        by_cases k4 : b4 = m
        · subst k4
          go_enter Try.func20, Try.ntmps20
          go_wp2_with fail
          go_returns
          exact ⟨by first | rfl | (simp; done) | (simp [*]; done), by (repeat' (first | with_reducible exact Below.refl _ _ | with_reducible assumption | with_reducible refine q_alloc ?_ _ | with_reducible refine q_drew ?_ | with_reducible refine q_drewN _ ?_ | with_reducible refine q_setCell ?_ ?_ _ | (left; simp; done) | (right; simp; done) | (right; dsimp only; omega) | (left; dsimp only; omega)))⟩
        · have q4 : (b4 == m) = false := by simpa using k4
          by_cases k5 : b4 = 32768
          · subst k5
            go_enter Try.func20, Try.ntmps20
            go_wp2_with fail
            go_returns
            exact ⟨by first | rfl | (simp; done) | (simp [*]; done), by (repeat' (first | with_reducible exact Below.refl _ _ | with_reducible assumption | with_reducible refine q_alloc ?_ _ | with_reducible refine q_drew ?_ | with_reducible refine q_drewN _ ?_ | with_reducible refine q_setCell ?_ ?_ _ | (left; simp; done) | (right; simp; done) | (right; dsimp only; omega) | (left; dsimp only; omega)))⟩
          · have q5 : (b4 == 32768) = false := by simpa using k5
            go_enter Try.func20, Try.ntmps20
            go_wp2_with fail
            go_returns
            exact ⟨by first | rfl | (simp; done) | (simp [*]; done), by (repeat' (first | with_reducible exact Below.refl _ _ | with_reducible assumption | with_reducible refine q_alloc ?_ _ | with_reducible refine q_drew ?_ | with_reducible refine q_drewN _ ?_ | with_reducible refine q_setCell ?_ ?_ _ | (left; simp; done) | (right; simp; done) | (right; dsimp only; omega) | (left; dsimp only; omega)))⟩
      · have q6 : (b3 == 0) = false := by simpa using k6
        go_enter Try.func20, Try.ntmps20
        go_wp2_with fail
        go_returns
        exact ⟨by first | rfl | (simp; done) | (simp [*]; done), by (repeat' (first | with_reducible exact Below.refl _ _ | with_reducible assumption | with_reducible refine q_alloc ?_ _ | with_reducible refine q_drew ?_ | with_reducible refine q_drewN _ ?_ | with_reducible refine q_setCell ?_ ?_ _ | (left; simp; done) | (right; simp; done) | (right; dsimp only; omega) | (left; dsimp only; omega)))⟩
end Go.Proofs.Ytmcndiljldbkcaa
