/- Layer 38: the document's Add. -/
import Derived.Test.YtmcndiljldbkcaaPs26
import Derived.Test.YtmcndiljldbkcaaPs21
import Derived.Test.YtmcndiljldbkcaaPs10
namespace Go.Proofs.Ytmcndiljldbkcaa
open Go Go.RowKit Go.Maps
set_option linter.unusedSimpArgs false
set_option linter.unusedVariables false
set_option maxRecDepth 100000 in
set_option maxHeartbeats 16000000 in
theorem alike_any (x g : G) (w : World) : Calls Try.prog 46 #[gV x, gV g] w fun e w' => e = .returned (.bool (likeB g x)) ∧ Below w.heap.size w w' := by
  obtain ⟨a0, a1, a2, a3, a4, a5, a6, a7, a8⟩ := x
  obtain ⟨b0, b1, b2, b3, b4, b5, b6, b7, b8⟩ := g
  obtain ⟨R, hR⟩ : ∃ R, likeB ⟨b0, b1, b2, b3, b4, b5, b6, b7, b8⟩ ⟨a0, a1, a2, a3, a4, a5, a6, a7, a8⟩ = R := ⟨_, rfl⟩
  rw [hR]
  unfold likeB at hR
  dsimp only at hR
  by_cases h0 : a0 = b0
  · have y0 : (a0 == b0) = true := by simpa using h0
    by_cases h1 : a1 = b1
    · have y1 : (a1 == b1) = true := by simpa using h1
      by_cases h2 : a2 = b2
      · have y2 : (a2 == b2) = true := by simpa using h2
        by_cases h3 : a3 = b3
        · have y3 : (a3 == b3) = true := by simpa using h3
          by_cases h4 : a4 = b4
          · have y4 : (a4 == b4) = true := by simpa using h4
            have hv : R = true := by rw [← hR]; simp [h0, h1, h2, h3, h4]
            subst hv
            clear h0 h1 h2 h3 h4
            have HR := Lib.hid hR
            clear hR
            go_enter Try.func46, Try.ntmps46
            go_wp2_with fail
            go_returns
            exact ⟨by first | rfl | (simp; done), by (repeat' (first | with_reducible exact Below.refl _ _ | with_reducible assumption | with_reducible refine q_alloc ?_ _ | with_reducible refine q_drew ?_ | with_reducible refine q_drewN _ ?_ | with_reducible refine q_setCell ?_ ?_ _ | (left; simp; done) | (right; simp; done) | (right; dsimp only; omega) | (left; dsimp only; omega)))⟩
          · have q4 : (a4 == b4) = false := by simpa using h4
            have hv : R = false := by rw [← hR]; simp [h0, h1, h2, h3, h4]
            subst hv
            clear h0 h1 h2 h3 h4
            have HR := Lib.hid hR
            clear hR
            go_enter Try.func46, Try.ntmps46
            go_wp2_with fail
            go_returns
            exact ⟨by first | rfl | (simp; done), by (repeat' (first | with_reducible exact Below.refl _ _ | with_reducible assumption | with_reducible refine q_alloc ?_ _ | with_reducible refine q_drew ?_ | with_reducible refine q_drewN _ ?_ | with_reducible refine q_setCell ?_ ?_ _ | (left; simp; done) | (right; simp; done) | (right; dsimp only; omega) | (left; dsimp only; omega)))⟩
        · have q3 : (a3 == b3) = false := by simpa using h3
          have hv : R = false := by rw [← hR]; simp [h0, h1, h2, h3]
          subst hv
          clear h0 h1 h2 h3
          have HR := Lib.hid hR
          clear hR
          go_enter Try.func46, Try.ntmps46
          go_wp2_with fail
          go_returns
          exact ⟨by first | rfl | (simp; done), by (repeat' (first | with_reducible exact Below.refl _ _ | with_reducible assumption | with_reducible refine q_alloc ?_ _ | with_reducible refine q_drew ?_ | with_reducible refine q_drewN _ ?_ | with_reducible refine q_setCell ?_ ?_ _ | (left; simp; done) | (right; simp; done) | (right; dsimp only; omega) | (left; dsimp only; omega)))⟩
      · have q2 : (a2 == b2) = false := by simpa using h2
        have hv : R = false := by rw [← hR]; simp [h0, h1, h2]
        subst hv
        clear h0 h1 h2
        have HR := Lib.hid hR
        clear hR
        go_enter Try.func46, Try.ntmps46
        go_wp2_with fail
        go_returns
        exact ⟨by first | rfl | (simp; done), by (repeat' (first | with_reducible exact Below.refl _ _ | with_reducible assumption | with_reducible refine q_alloc ?_ _ | with_reducible refine q_drew ?_ | with_reducible refine q_drewN _ ?_ | with_reducible refine q_setCell ?_ ?_ _ | (left; simp; done) | (right; simp; done) | (right; dsimp only; omega) | (left; dsimp only; omega)))⟩
    · have q1 : (a1 == b1) = false := by simpa using h1
      have hv : R = false := by rw [← hR]; simp [h0, h1]
      subst hv
      clear h0 h1
      have HR := Lib.hid hR
      clear hR
      go_enter Try.func46, Try.ntmps46
      go_wp2_with fail
      go_returns
      exact ⟨by first | rfl | (simp; done), by (repeat' (first | with_reducible exact Below.refl _ _ | with_reducible assumption | with_reducible refine q_alloc ?_ _ | with_reducible refine q_drew ?_ | with_reducible refine q_drewN _ ?_ | with_reducible refine q_setCell ?_ ?_ _ | (left; simp; done) | (right; simp; done) | (right; dsimp only; omega) | (left; dsimp only; omega)))⟩
  · have q0 : (a0 == b0) = false := by simpa using h0
    have hv : R = false := by rw [← hR]; simp [h0]
    subst hv
    clear h0
    have HR := Lib.hid hR
    clear hR
    go_enter Try.func46, Try.ntmps46
    go_wp2_with fail
    go_returns
    exact ⟨by first | rfl | (simp; done), by (repeat' (first | with_reducible exact Below.refl _ _ | with_reducible assumption | with_reducible refine q_alloc ?_ _ | with_reducible refine q_drew ?_ | with_reducible refine q_drewN _ ?_ | with_reducible refine q_setCell ?_ ?_ _ | (left; simp; done) | (right; simp; done) | (right; dsimp only; omega) | (left; dsimp only; omega)))⟩
end Go.Proofs.Ytmcndiljldbkcaa
