/- Layer 42: the reference's Kind. -/
import Derived.Test.YtlaejolgjchfcaaPc9
namespace Go.Proofs.Ytlaejolgjchfcaa
open Go Go.RowKit
set_option linter.unusedSimpArgs false
set_option linter.unusedVariables false
def kindR (a : Bool) (t : Int) (n : Nat) (l ok : Bool) : Int :=
  if 16382 < n ∨ ok = false then -1 else if a = false ∧ l = true ∧ t = n then 0 else if a = true ∧ l = false ∧ n = 0 ∧ 1 ≤ t ∧ t ≤ 65536 then 1 else if a = true ∧ l = false ∧ 0 < n ∧ t = 0 then 2 else if a = true ∧ l = true ∧ n = 0 ∧ t = 0 then 3 else -1
set_option maxRecDepth 100000 in
set_option maxHeartbeats 8000000 in
theorem rkind_any (a : Bool) (t : Int) (dv : Value) (l : Bool) (us : List Int) (w : World) (hv : IsI w dv us) (hl : us.length ≤ 1000000) :
    Calls Try.prog 32 #[pV a t dv l] w fun e w' => e = .returned (i6 (kindR a t us.length l (numsB us))) ∧ Below w.heap.size w w' := by
  obtain ⟨aa, cap, rfl, _⟩ := isI_form hv
  have HV := Lib.hid hv
  clear hv
  obtain ⟨N, hN⟩ : ∃ N, us.length = N := ⟨_, rfl⟩
  obtain ⟨R, hR⟩ : ∃ R, kindR a t us.length l (numsB us) = R := ⟨_, rfl⟩
  rw [hR]
  rw [hN] at hR hl
  have HR := Lib.hid hR
  rw [hN] at HV ⊢
  have HN := Lib.hid hN
  clear hR hN
  by_cases h1 : 16382 < N
  · have hr : R = -1 := by rw [← HR.out]; simp [kindR, h1]
    subst hr
    have hz : (16382 : Int) < (N : Int) := by omega
    go_enter Try.func32, Try.ntmps32
    go_wp2_with fail
    go_returns
    exact ⟨by first | rfl | (simp; done), by (repeat' (first | with_reducible exact Below.refl _ _ | with_reducible assumption | with_reducible refine q_alloc ?_ _ | with_reducible refine q_drew ?_ | with_reducible refine q_drewN _ ?_ | with_reducible refine q_setCell ?_ ?_ _ | (left; simp; done) | (right; simp; done) | (right; dsimp only; omega) | (left; dsimp only; omega)))⟩
  · have hz : ¬ (16382 : Int) < (N : Int) := by omega
    go_enter Try.func32, Try.ntmps32
    go_wp2_with fail
    refine (rright_any _ us _ (HV.out.below (by (repeat' (first | with_reducible exact Below.refl _ _ | with_reducible assumption | with_reducible refine q_alloc ?_ _ | with_reducible refine q_drew ?_ | with_reducible refine q_drewN _ ?_ | with_reducible refine q_setCell ?_ ?_ _ | (left; simp; done) | (right; simp; done) | (right; dsimp only; omega) | (left; dsimp only; omega))))) (by rw [HN.out]; omega)).mono ?_
    rintro e w2 ⟨rfl, rfl⟩
    generalize numsB us = OK at HR ⊢
    clear hz
    cases OK
    · have hr : R = -1 := by rw [← HR.out]; simp [kindR, h1]
      subst hr
      clear HR
      go_wp2_with fail; go_returns; exact ⟨by first | rfl | (simp; done), by (repeat' (first | with_reducible exact Below.refl _ _ | with_reducible assumption | with_reducible refine q_alloc ?_ _ | with_reducible refine q_drew ?_ | with_reducible refine q_drewN _ ?_ | with_reducible refine q_setCell ?_ ?_ _ | (left; simp; done) | (right; simp; done) | (right; dsimp only; omega) | (left; dsimp only; omega)))⟩
    cases a
    all_goals cases l
    · have hr : R = -1 := by rw [← HR.out]; simp [kindR, h1]
      subst hr
      clear HR
      go_wp2_with fail; go_returns; exact ⟨by first | rfl | (simp; done), by (repeat' (first | with_reducible exact Below.refl _ _ | with_reducible assumption | with_reducible refine q_alloc ?_ _ | with_reducible refine q_drew ?_ | with_reducible refine q_drewN _ ?_ | with_reducible refine q_setCell ?_ ?_ _ | (left; simp; done) | (right; simp; done) | (right; dsimp only; omega) | (left; dsimp only; omega)))⟩
    · by_cases ht : t = N
      · have hr : R = 0 := by rw [← HR.out]; simp [kindR, h1, ht]
        subst hr
        clear HR
        go_wp2_with fail; go_returns; exact ⟨by first | rfl | (simp; done), by (repeat' (first | with_reducible exact Below.refl _ _ | with_reducible assumption | with_reducible refine q_alloc ?_ _ | with_reducible refine q_drew ?_ | with_reducible refine q_drewN _ ?_ | with_reducible refine q_setCell ?_ ?_ _ | (left; simp; done) | (right; simp; done) | (right; dsimp only; omega) | (left; dsimp only; omega)))⟩
      · have hr : R = -1 := by rw [← HR.out]; simp [kindR, h1, ht]
        subst hr
        clear HR
        go_wp2_with fail; go_returns; exact ⟨by first | rfl | (simp; done), by (repeat' (first | with_reducible exact Below.refl _ _ | with_reducible assumption | with_reducible refine q_alloc ?_ _ | with_reducible refine q_drew ?_ | with_reducible refine q_drewN _ ?_ | with_reducible refine q_setCell ?_ ?_ _ | (left; simp; done) | (right; simp; done) | (right; dsimp only; omega) | (left; dsimp only; omega)))⟩
    · by_cases hn0 : N = 0
      · by_cases ht1 : 1 ≤ t
        · by_cases ht2 : t ≤ 65536
          · have hr : R = 1 := by rw [← HR.out]; simp [kindR, h1, hn0, ht1, ht2]
            subst hr
            clear HR
            go_wp2_with fail; go_returns; exact ⟨by first | rfl | (simp; done), by (repeat' (first | with_reducible exact Below.refl _ _ | with_reducible assumption | with_reducible refine q_alloc ?_ _ | with_reducible refine q_drew ?_ | with_reducible refine q_drewN _ ?_ | with_reducible refine q_setCell ?_ ?_ _ | (left; simp; done) | (right; simp; done) | (right; dsimp only; omega) | (left; dsimp only; omega)))⟩
          · have hr : R = -1 := by rw [← HR.out]; simp [kindR, h1, hn0, ht1, ht2]
            subst hr
            clear HR
            go_wp2_with fail; go_returns; exact ⟨by first | rfl | (simp; done), by (repeat' (first | with_reducible exact Below.refl _ _ | with_reducible assumption | with_reducible refine q_alloc ?_ _ | with_reducible refine q_drew ?_ | with_reducible refine q_drewN _ ?_ | with_reducible refine q_setCell ?_ ?_ _ | (left; simp; done) | (right; simp; done) | (right; dsimp only; omega) | (left; dsimp only; omega)))⟩
        · have hr : R = -1 := by rw [← HR.out]; simp [kindR, h1, hn0, ht1]
          subst hr
          clear HR
          go_wp2_with fail; go_returns; exact ⟨by first | rfl | (simp; done), by (repeat' (first | with_reducible exact Below.refl _ _ | with_reducible assumption | with_reducible refine q_alloc ?_ _ | with_reducible refine q_drew ?_ | with_reducible refine q_drewN _ ?_ | with_reducible refine q_setCell ?_ ?_ _ | (left; simp; done) | (right; simp; done) | (right; dsimp only; omega) | (left; dsimp only; omega)))⟩
      · have hp : 0 < N := by omega
        by_cases ht : t = 0
        · subst ht
          · have hr : R = 2 := by rw [← HR.out]; simp [kindR, h1, hn0, hp]
            subst hr
            clear HR
            go_wp2_with fail; go_returns; exact ⟨by first | rfl | (simp; done), by (repeat' (first | with_reducible exact Below.refl _ _ | with_reducible assumption | with_reducible refine q_alloc ?_ _ | with_reducible refine q_drew ?_ | with_reducible refine q_drewN _ ?_ | with_reducible refine q_setCell ?_ ?_ _ | (left; simp; done) | (right; simp; done) | (right; dsimp only; omega) | (left; dsimp only; omega)))⟩
        · have hr : R = -1 := by rw [← HR.out]; simp [kindR, h1, hn0, hp, ht]
          subst hr
          clear HR
          go_wp2_with fail; go_returns; exact ⟨by first | rfl | (simp; done), by (repeat' (first | with_reducible exact Below.refl _ _ | with_reducible assumption | with_reducible refine q_alloc ?_ _ | with_reducible refine q_drew ?_ | with_reducible refine q_drewN _ ?_ | with_reducible refine q_setCell ?_ ?_ _ | (left; simp; done) | (right; simp; done) | (right; dsimp only; omega) | (left; dsimp only; omega)))⟩
    · by_cases hn0 : N = 0
      · by_cases ht : t = 0
        · subst ht
          · have hr : R = 3 := by rw [← HR.out]; simp [kindR, h1, hn0]
            subst hr
            clear HR
            go_wp2_with fail; go_returns; exact ⟨by first | rfl | (simp; done), by (repeat' (first | with_reducible exact Below.refl _ _ | with_reducible assumption | with_reducible refine q_alloc ?_ _ | with_reducible refine q_drew ?_ | with_reducible refine q_drewN _ ?_ | with_reducible refine q_setCell ?_ ?_ _ | (left; simp; done) | (right; simp; done) | (right; dsimp only; omega) | (left; dsimp only; omega)))⟩
        · have hr : R = -1 := by rw [← HR.out]; simp [kindR, h1, hn0, ht]
          subst hr
          clear HR
          go_wp2_with fail; go_returns; exact ⟨by first | rfl | (simp; done), by (repeat' (first | with_reducible exact Below.refl _ _ | with_reducible assumption | with_reducible refine q_alloc ?_ _ | with_reducible refine q_drew ?_ | with_reducible refine q_drewN _ ?_ | with_reducible refine q_setCell ?_ ?_ _ | (left; simp; done) | (right; simp; done) | (right; dsimp only; omega) | (left; dsimp only; omega)))⟩
      · have hr : R = -1 := by rw [← HR.out]; simp [kindR, h1, hn0]
        subst hr
        clear HR
        go_wp2_with fail; go_returns; exact ⟨by first | rfl | (simp; done), by (repeat' (first | with_reducible exact Below.refl _ _ | with_reducible assumption | with_reducible refine q_alloc ?_ _ | with_reducible refine q_drew ?_ | with_reducible refine q_drewN _ ?_ | with_reducible refine q_setCell ?_ ?_ _ | (left; simp; done) | (right; simp; done) | (right; dsimp only; omega) | (left; dsimp only; omega)))⟩
end Go.Proofs.Ytlaejolgjchfcaa
