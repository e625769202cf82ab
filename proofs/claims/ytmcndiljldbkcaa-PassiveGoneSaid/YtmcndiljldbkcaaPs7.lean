/- Layer 38: which grab a press activates. -/
import Derived.Test.YtmcndiljldbkcaaPs6
namespace Go.Proofs.Ytmcndiljldbkcaa
open Go Go.RowKit
set_option linter.unusedSimpArgs false
set_option linter.unusedVariables false
def actB (id : Int) (b : Bool) (c m : Int) (x : G) : Bool := decide (x.wi = id) && (x.bu == b) && (decide (x.co = c) || decide (x.co = 0)) && (decide (x.mo = m) || decide (x.mo = 32768))
set_option maxRecDepth 100000 in
set_option maxHeartbeats 8000000 in
theorem act_any (c1 c2 c3 c4 : Nat) (id : Int) (b : Bool) (c m : Int) (x : G) (w : World) (h1 : w.cell? ⟨c1, 0, none⟩ = some (u3 id)) (h2 : w.cell? ⟨c2, 0, none⟩ = some (.bool b)) (h3 : w.cell? ⟨c3, 0, none⟩ = some (i6 c)) (h4 : w.cell? ⟨c4, 0, none⟩ = some (i6 m)) :
    Calls Try.prog 28 #[gV x, .pointer (some ⟨c1, 0, none⟩), .pointer (some ⟨c2, 0, none⟩), .pointer (some ⟨c3, 0, none⟩), .pointer (some ⟨c4, 0, none⟩)] w fun e w' => e = .returned (.bool (actB id b c m x)) ∧ Below w.heap.size w w' := by
  obtain ⟨b0, b1, b2, b3, b4, b5, b6, b7, b8⟩ := x
  unfold actB
  dsimp only
  have z1 := block_lt_of_cell h1
  have z2 := block_lt_of_cell h2
  have z3 := block_lt_of_cell h3
  have z4 := block_lt_of_cell h4
  dsimp only at z1 z2 z3 z4
  by_cases k1 : b1 = id
  · subst k1
    cases b2 <;> cases b
    all_goals try (
      go_enter Try.func28, Try.ntmps28
      go_wp2_with fail
      go_returns
      exact ⟨by first | rfl | (simp; done) | (simp [*]; done), by (repeat' (first | with_reducible exact Below.refl _ _ | with_reducible assumption | with_reducible refine q_alloc ?_ _ | with_reducible refine q_drew ?_ | with_reducible refine q_drewN _ ?_ | with_reducible refine q_setCell ?_ ?_ _ | (left; simp; done) | (right; simp; done) | (right; dsimp only; omega) | (left; dsimp only; omega)))⟩
      done)
    all_goals
      by_cases k3 : b3 = c
      · subst k3
        by_cases k4 : b4 = m
        · subst k4
          go_enter Try.func28, Try.ntmps28
          go_wp2_with fail
          go_returns
          exact ⟨by first | rfl | (simp; done) | (simp [*]; done), by (repeat' (first | with_reducible exact Below.refl _ _ | with_reducible assumption | with_reducible refine q_alloc ?_ _ | with_reducible refine q_drew ?_ | with_reducible refine q_drewN _ ?_ | with_reducible refine q_setCell ?_ ?_ _ | (left; simp; done) | (right; simp; done) | (right; dsimp only; omega) | (left; dsimp only; omega)))⟩
        · have q4 : (b4 == m) = false := by simpa using k4
          by_cases k5 : b4 = 32768
          · subst k5
            go_enter Try.func28, Try.ntmps28
            go_wp2_with fail
            go_returns
            exact ⟨by first | rfl | (simp; done) | (simp [*]; done), by (repeat' (first | with_reducible exact Below.refl _ _ | with_reducible assumption | with_reducible refine q_alloc ?_ _ | with_reducible refine q_drew ?_ | with_reducible refine q_drewN _ ?_ | with_reducible refine q_setCell ?_ ?_ _ | (left; simp; done) | (right; simp; done) | (right; dsimp only; omega) | (left; dsimp only; omega)))⟩
          · have q5 : (b4 == 32768) = false := by simpa using k5
            go_enter Try.func28, Try.ntmps28
            go_wp2_with fail
            go_returns
            exact ⟨by first | rfl | (simp; done) | (simp [*]; done), by (repeat' (first | with_reducible exact Below.refl _ _ | with_reducible assumption | with_reducible refine q_alloc ?_ _ | with_reducible refine q_drew ?_ | with_reducible refine q_drewN _ ?_ | with_reducible refine q_setCell ?_ ?_ _ | (left; simp; done) | (right; simp; done) | (right; dsimp only; omega) | (left; dsimp only; omega)))⟩
      · have q3 : (b3 == c) = false := by simpa using k3
        by_cases k6 : b3 = 0
        · subst k6
          by_cases k4 : b4 = m
          · subst k4
            go_enter Try.func28, Try.ntmps28
            go_wp2_with fail
            go_returns
            exact ⟨by first | rfl | (simp; done) | (simp [*]; done), by (repeat' (first | with_reducible exact Below.refl _ _ | with_reducible assumption | with_reducible refine q_alloc ?_ _ | with_reducible refine q_drew ?_ | with_reducible refine q_drewN _ ?_ | with_reducible refine q_setCell ?_ ?_ _ | (left; simp; done) | (right; simp; done) | (right; dsimp only; omega) | (left; dsimp only; omega)))⟩
          · have q4 : (b4 == m) = false := by simpa using k4
            by_cases k5 : b4 = 32768
            · subst k5
              go_enter Try.func28, Try.ntmps28
              go_wp2_with fail
              go_returns
              exact ⟨by first | rfl | (simp; done) | (simp [*]; done), by (repeat' (first | with_reducible exact Below.refl _ _ | with_reducible assumption | with_reducible refine q_alloc ?_ _ | with_reducible refine q_drew ?_ | with_reducible refine q_drewN _ ?_ | with_reducible refine q_setCell ?_ ?_ _ | (left; simp; done) | (right; simp; done) | (right; dsimp only; omega) | (left; dsimp only; omega)))⟩
            · have q5 : (b4 == 32768) = false := by simpa using k5
              go_enter Try.func28, Try.ntmps28
              go_wp2_with fail
              go_returns
              exact ⟨by first | rfl | (simp; done) | (simp [*]; done), by (repeat' (first | with_reducible exact Below.refl _ _ | with_reducible assumption | with_reducible refine q_alloc ?_ _ | with_reducible refine q_drew ?_ | with_reducible refine q_drewN _ ?_ | with_reducible refine q_setCell ?_ ?_ _ | (left; simp; done) | (right; simp; done) | (right; dsimp only; omega) | (left; dsimp only; omega)))⟩
        · have q6 : (b3 == 0) = false := by simpa using k6
          go_enter Try.func28, Try.ntmps28
          go_wp2_with fail
          go_returns
          exact ⟨by first | rfl | (simp; done) | (simp [*]; done), by (repeat' (first | with_reducible exact Below.refl _ _ | with_reducible assumption | with_reducible refine q_alloc ?_ _ | with_reducible refine q_drew ?_ | with_reducible refine q_drewN _ ?_ | with_reducible refine q_setCell ?_ ?_ _ | (left; simp; done) | (right; simp; done) | (right; dsimp only; omega) | (left; dsimp only; omega)))⟩
  · have q1 : (b1 == id) = false := by simpa using k1
    go_enter Try.func28, Try.ntmps28
    go_wp2_with fail
    go_returns
    exact ⟨by first | rfl | (simp; done) | (simp [*]; done), by (repeat' (first | with_reducible exact Below.refl _ _ | with_reducible assumption | with_reducible refine q_alloc ?_ _ | with_reducible refine q_drew ?_ | with_reducible refine q_drewN _ ?_ | with_reducible refine q_setCell ?_ ?_ _ | (left; simp; done) | (right; simp; done) | (right; dsimp only; omega) | (left; dsimp only; omega)))⟩
end Go.Proofs.Ytmcndiljldbkcaa
