/- Layer 38: the document's Meet; PassiveMeets' walk. -/
import Derived.Test.YtmcndiljldbkcaaPs9
namespace Go.Proofs.Ytmcndiljldbkcaa
open Go Go.RowKit
set_option linter.unusedSimpArgs false
set_option linter.unusedVariables false
set_option maxRecDepth 100000 in
set_option maxHeartbeats 16000000 in
theorem rmeet_any (g h : G) (w : World) : Calls Try.prog 17 #[gV g, gV h] w fun e w' => e = .returned (.bool (meetG g h)) ∧ Below w.heap.size w w' := by
  obtain ⟨a0, a1, a2, a3, a4, a5, a6, a7, a8⟩ := g
  obtain ⟨b0, b1, b2, b3, b4, b5, b6, b7, b8⟩ := h
  unfold meetG meetsB
  dsimp only
  by_cases hw : a1 = b1
  · subst hw
    cases a2 <;> cases b2
    all_goals try (
      go_enter Try.func17, Try.ntmps17
      go_wp2_with fail
      go_returns
      exact ⟨by first | rfl | (simp; done) | (simp [*]; done), by (repeat' (first | with_reducible exact Below.refl _ _ | with_reducible assumption | with_reducible refine q_alloc ?_ _ | with_reducible refine q_drew ?_ | with_reducible refine q_drewN _ ?_ | with_reducible refine q_setCell ?_ ?_ _ | (left; simp; done) | (right; simp; done) | (right; dsimp only; omega) | (left; dsimp only; omega)))⟩
      done)
    all_goals
      by_cases c1 : a3 = b3
      · subst c1
        by_cases m1 : a4 = b4
        · subst m1
          go_enter Try.func17, Try.ntmps17
          go_wp2_with fail
          go_returns
          exact ⟨by first | rfl | (simp; done) | (simp [*]; done), by (repeat' (first | with_reducible exact Below.refl _ _ | with_reducible assumption | with_reducible refine q_alloc ?_ _ | with_reducible refine q_drew ?_ | with_reducible refine q_drewN _ ?_ | with_reducible refine q_setCell ?_ ?_ _ | (left; simp; done) | (right; simp; done) | (right; dsimp only; omega) | (left; dsimp only; omega)))⟩
        · have mq1 : (a4 == b4) = false := by simpa using m1
          by_cases m2 : a4 = 32768
          · subst m2
            go_enter Try.func17, Try.ntmps17
            go_wp2_with fail
            go_returns
            exact ⟨by first | rfl | (simp; done) | (simp [*]; done), by (repeat' (first | with_reducible exact Below.refl _ _ | with_reducible assumption | with_reducible refine q_alloc ?_ _ | with_reducible refine q_drew ?_ | with_reducible refine q_drewN _ ?_ | with_reducible refine q_setCell ?_ ?_ _ | (left; simp; done) | (right; simp; done) | (right; dsimp only; omega) | (left; dsimp only; omega)))⟩
          · have mq2 : (a4 == 32768) = false := by simpa using m2
            by_cases m3 : b4 = 32768
            · subst m3
              go_enter Try.func17, Try.ntmps17
              go_wp2_with fail
              go_returns
              exact ⟨by first | rfl | (simp; done) | (simp [*]; done), by (repeat' (first | with_reducible exact Below.refl _ _ | with_reducible assumption | with_reducible refine q_alloc ?_ _ | with_reducible refine q_drew ?_ | with_reducible refine q_drewN _ ?_ | with_reducible refine q_setCell ?_ ?_ _ | (left; simp; done) | (right; simp; done) | (right; dsimp only; omega) | (left; dsimp only; omega)))⟩
            · have mq3 : (b4 == 32768) = false := by simpa using m3
              go_enter Try.func17, Try.ntmps17
              go_wp2_with fail
              go_returns
              exact ⟨by first | rfl | (simp; done) | (simp [*]; done), by (repeat' (first | with_reducible exact Below.refl _ _ | with_reducible assumption | with_reducible refine q_alloc ?_ _ | with_reducible refine q_drew ?_ | with_reducible refine q_drewN _ ?_ | with_reducible refine q_setCell ?_ ?_ _ | (left; simp; done) | (right; simp; done) | (right; dsimp only; omega) | (left; dsimp only; omega)))⟩
      · have cq1 : (a3 == b3) = false := by simpa using c1
        by_cases c2 : a3 = 0
        · subst c2
          by_cases m1 : a4 = b4
          · subst m1
            go_enter Try.func17, Try.ntmps17
            go_wp2_with fail
            go_returns
            exact ⟨by first | rfl | (simp; done) | (simp [*]; done), by (repeat' (first | with_reducible exact Below.refl _ _ | with_reducible assumption | with_reducible refine q_alloc ?_ _ | with_reducible refine q_drew ?_ | with_reducible refine q_drewN _ ?_ | with_reducible refine q_setCell ?_ ?_ _ | (left; simp; done) | (right; simp; done) | (right; dsimp only; omega) | (left; dsimp only; omega)))⟩
          · have mq1 : (a4 == b4) = false := by simpa using m1
            by_cases m2 : a4 = 32768
            · subst m2
              go_enter Try.func17, Try.ntmps17
              go_wp2_with fail
              go_returns
              exact ⟨by first | rfl | (simp; done) | (simp [*]; done), by (repeat' (first | with_reducible exact Below.refl _ _ | with_reducible assumption | with_reducible refine q_alloc ?_ _ | with_reducible refine q_drew ?_ | with_reducible refine q_drewN _ ?_ | with_reducible refine q_setCell ?_ ?_ _ | (left; simp; done) | (right; simp; done) | (right; dsimp only; omega) | (left; dsimp only; omega)))⟩
            · have mq2 : (a4 == 32768) = false := by simpa using m2
              by_cases m3 : b4 = 32768
              · subst m3
                go_enter Try.func17, Try.ntmps17
                go_wp2_with fail
                go_returns
                exact ⟨by first | rfl | (simp; done) | (simp [*]; done), by (repeat' (first | with_reducible exact Below.refl _ _ | with_reducible assumption | with_reducible refine q_alloc ?_ _ | with_reducible refine q_drew ?_ | with_reducible refine q_drewN _ ?_ | with_reducible refine q_setCell ?_ ?_ _ | (left; simp; done) | (right; simp; done) | (right; dsimp only; omega) | (left; dsimp only; omega)))⟩
              · have mq3 : (b4 == 32768) = false := by simpa using m3
                go_enter Try.func17, Try.ntmps17
                go_wp2_with fail
                go_returns
                exact ⟨by first | rfl | (simp; done) | (simp [*]; done), by (repeat' (first | with_reducible exact Below.refl _ _ | with_reducible assumption | with_reducible refine q_alloc ?_ _ | with_reducible refine q_drew ?_ | with_reducible refine q_drewN _ ?_ | with_reducible refine q_setCell ?_ ?_ _ | (left; simp; done) | (right; simp; done) | (right; dsimp only; omega) | (left; dsimp only; omega)))⟩
        · have cq2 : (a3 == 0) = false := by simpa using c2
          by_cases c3 : b3 = 0
          · subst c3
            by_cases m1 : a4 = b4
            · subst m1
              go_enter Try.func17, Try.ntmps17
              go_wp2_with fail
              go_returns
              exact ⟨by first | rfl | (simp; done) | (simp [*]; done), by (repeat' (first | with_reducible exact Below.refl _ _ | with_reducible assumption | with_reducible refine q_alloc ?_ _ | with_reducible refine q_drew ?_ | with_reducible refine q_drewN _ ?_ | with_reducible refine q_setCell ?_ ?_ _ | (left; simp; done) | (right; simp; done) | (right; dsimp only; omega) | (left; dsimp only; omega)))⟩
            · have mq1 : (a4 == b4) = false := by simpa using m1
              by_cases m2 : a4 = 32768
              · subst m2
                go_enter Try.func17, Try.ntmps17
                go_wp2_with fail
                go_returns
                exact ⟨by first | rfl | (simp; done) | (simp [*]; done), by (repeat' (first | with_reducible exact Below.refl _ _ | with_reducible assumption | with_reducible refine q_alloc ?_ _ | with_reducible refine q_drew ?_ | with_reducible refine q_drewN _ ?_ | with_reducible refine q_setCell ?_ ?_ _ | (left; simp; done) | (right; simp; done) | (right; dsimp only; omega) | (left; dsimp only; omega)))⟩
              · have mq2 : (a4 == 32768) = false := by simpa using m2
                by_cases m3 : b4 = 32768
                · subst m3
                  go_enter Try.func17, Try.ntmps17
                  go_wp2_with fail
                  go_returns
                  exact ⟨by first | rfl | (simp; done) | (simp [*]; done), by (repeat' (first | with_reducible exact Below.refl _ _ | with_reducible assumption | with_reducible refine q_alloc ?_ _ | with_reducible refine q_drew ?_ | with_reducible refine q_drewN _ ?_ | with_reducible refine q_setCell ?_ ?_ _ | (left; simp; done) | (right; simp; done) | (right; dsimp only; omega) | (left; dsimp only; omega)))⟩
                · have mq3 : (b4 == 32768) = false := by simpa using m3
                  go_enter Try.func17, Try.ntmps17
                  go_wp2_with fail
                  go_returns
                  exact ⟨by first | rfl | (simp; done) | (simp [*]; done), by (repeat' (first | with_reducible exact Below.refl _ _ | with_reducible assumption | with_reducible refine q_alloc ?_ _ | with_reducible refine q_drew ?_ | with_reducible refine q_drewN _ ?_ | with_reducible refine q_setCell ?_ ?_ _ | (left; simp; done) | (right; simp; done) | (right; dsimp only; omega) | (left; dsimp only; omega)))⟩
          · have cq3 : (b3 == 0) = false := by simpa using c3
            go_enter Try.func17, Try.ntmps17
            go_wp2_with fail
            go_returns
            exact ⟨by first | rfl | (simp; done) | (simp [*]; done), by (repeat' (first | with_reducible exact Below.refl _ _ | with_reducible assumption | with_reducible refine q_alloc ?_ _ | with_reducible refine q_drew ?_ | with_reducible refine q_drewN _ ?_ | with_reducible refine q_setCell ?_ ?_ _ | (left; simp; done) | (right; simp; done) | (right; dsimp only; omega) | (left; dsimp only; omega)))⟩
  · have ew : (a1 == b1) = false := by simpa using hw
    go_enter Try.func17, Try.ntmps17
    go_wp2_with fail
    go_returns
    exact ⟨by first | rfl | (simp; done) | (simp [*]; done), by (repeat' (first | with_reducible exact Below.refl _ _ | with_reducible assumption | with_reducible refine q_alloc ?_ _ | with_reducible refine q_drew ?_ | with_reducible refine q_drewN _ ?_ | with_reducible refine q_setCell ?_ ?_ _ | (left; simp; done) | (right; simp; done) | (right; dsimp only; omega) | (left; dsimp only; omega)))⟩

end Go.Proofs.Ytmcndiljldbkcaa
