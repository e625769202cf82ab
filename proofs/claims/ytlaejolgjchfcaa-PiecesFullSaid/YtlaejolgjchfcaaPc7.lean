/- Layer 42: how many there may be. -/
import Derived.Test.YtlaejolgjchfcaaPc6
namespace Go.Proofs.Ytlaejolgjchfcaa
open Go Go.RowKit
set_option linter.unusedSimpArgs false
set_option linter.unusedVariables false
theorem isI_made (w : World) (n : Nat) (t : TypeId) (hm : n ≤ 1000000) : IsI (w.alloc (.cells (madeCells #[i6 0] n) t)) (.slice (some ⟨w.heap.size, 0, none⟩) n n) (List.replicate n 0) := by
  refine isI_row (t := t) (fr := (0, 0)) ?_ (by simp) (Nat.le_refl _) (by unfold maxLen; omega)
  rw [heap_alloc_new]
  congr 2
  apply Array.ext'
  rw [List.map_replicate]
  apply List.ext_getElem
  · simp [madeCells]
  · intro i h1 h2; simp [madeCells, Nat.mod_one]
theorem numsB_zeros (n : Nat) : numsB (List.replicate n 0) = true := by
  unfold numsB
  rw [List.all_eq_true]
  intro x hx
  rw [List.mem_replicate] at hx
  rw [hx.2]; rfl
/-- The error alone. -/
theorem new_err (v : Value) (us : List Int) (most : Int) (w : World) (hv : IsI w v us) (hn : numsB us = true) (hl : us.length ≤ 1000000) (E : Int) (hE : E = if most < 1 ∨ 16382 < most then 17 else if 65536 < us.length then 4 else 0) :
    Calls Try.prog 11 #[v, i6 most] w fun e w' => ∃ da dn dc m a n, e = .returned (.tuple #[gV (.slice da dn dc) m a n, i6 E]) ∧ Below w.heap.size w w' := by
  by_cases h1 : most < 1 ∨ 16382 < most
  · rw [if_pos h1] at hE
    subst hE
    exact (new_size v most w h1).mono fun e w' h => ⟨_, _, _, _, _, _, h.1, h.2⟩
  · rw [if_neg h1] at hE
    by_cases h2 : 65536 < us.length
    · rw [if_pos h2] at hE
      subst hE
      obtain ⟨a, cap, rfl, _⟩ := isI_form hv
      exact (new_long a us.length cap most w (by omega) (by omega) h2).mono fun e w' h => ⟨_, _, _, _, _, _, h.1, h.2⟩
    · rw [if_neg h2] at hE
      subst hE
      refine (new_any v us most w hv (by omega) (by omega) (by omega)).mono ?_
      rintro e w' ⟨h | ⟨_, dv, rfl, hd⟩, hb⟩
      · rw [hn] at h; exact absurd h.1 (by decide)
      · obtain ⟨da, dc, rfl, _⟩ := isI_form hd
        exact ⟨_, _, _, _, _, _, rfl, hb⟩
set_option maxRecDepth 100000 in
set_option maxHeartbeats 4000000 in
theorem lfull_any (c most : Int) (w : World) (hc0 : 0 ≤ c) (hc1 : c < 256) :
    Calls Try.prog 9 #[.int .u8 c, i6 most] w fun e w' => e = .returned (.bool true) ∧ Below w.heap.size w w' := by
  obtain ⟨K, hK⟩ : ∃ K : Nat, c.toNat % 12 = K := ⟨_, rfl⟩
  have hK12 : K < 12 := by omega
  have f1 : c.tmod 12 = (K : Int) := by rw [Int.tmod_eq_emod_of_nonneg hc0]; omega
  have f2 : IntKind.u8.wrap (K : Int) = (K : Int) := by simp only [IntKind.wrap, IntKind.bits, IntKind.signed]; simp; omega
  have f3 : IntKind.i64.wrap (K : Int) = (K : Int) := IntWalk.i64_in _ (by omega)
  obtain ⟨N, hN⟩ : ∃ N : Nat, 65530 + K = N := ⟨_, rfl⟩
  have f4 : IntKind.i64.wrap (65530 + (K : Int)) = (N : Int) := by rw [show (65530 + (K : Int)) = (N : Int) by omega]; exact IntWalk.i64_in _ (by omega)
  have hmk := fun ww => run_make_row' (P := Try.prog) 22 2 (i6 0) 8 und_i64s info_i64 rfl .i64 .i64 N (by omega) (by omega) ww
  have hN2 : N ≤ 65541 := by omega
  clear hK
  obtain ⟨E, hE⟩ : ∃ E : Int, E = if (16382 : Int) < 1 ∨ (16382 : Int) < 16382 then 17 else if 65536 < (List.replicate N (0 : Int)).length then 4 else 0 := ⟨_, rfl⟩
  obtain ⟨F, hF⟩ : ∃ F : Int, F = if most < 1 ∨ 16382 < most then 17 else if 65536 < ([] : List Int).length then 4 else 0 := ⟨_, rfl⟩
  have HE := Lib.hid hE
  have HF := Lib.hid hF
  have hE2 : (E = 0 ∧ N ≤ 65536) ∨ (E = 4 ∧ 65536 < N) := by
    rw [if_neg (by decide), List.length_replicate] at hE
    split at hE <;> omega
  have hF2 : (F = 0 ∧ 1 ≤ most ∧ most ≤ 16382) ∨ (F = 17 ∧ most < 1) ∨ (F = 17 ∧ ¬ most < 1 ∧ 16382 < most) := by
    rw [show (if 65536 < ([] : List Int).length then (4 : Int) else 0) = 0 by decide] at hF
    split at hF <;> omega
  have HE2 := Lib.hid hE2
  have HF2 := Lib.hid hF2
  clear hE hF hE2 hF2 hN hc0 hc1 hK12
  go_enter Try.func9, Try.ntmps9
  go_wp2_with fail
  refine (new_err _ (List.replicate N 0) 16382 _ (isI_made _ N _ (by omega)) (numsB_zeros N) (by rw [List.length_replicate]; omega) E HE.out).mono ?_
  rintro e w1 ⟨da, dn, dc, m, a, n, rfl, hb⟩
  have hq1 : Below w.heap.size w w1 := q_step (by (repeat' (first | with_reducible exact Below.refl _ _ | with_reducible assumption | with_reducible refine q_alloc ?_ _ | with_reducible refine q_drew ?_ | with_reducible refine q_drewN _ ?_ | with_reducible refine q_setCell ?_ ?_ _ | (left; simp; done) | (right; simp; done) | (right; dsimp only; omega) | (left; dsimp only; omega)))) hb
  clear hb hmk f1 f2 f3 f4
  go_wp2_with fail
  refine (new_err _ [] most _ (Or.inl ⟨_, _, rfl, rfl⟩) rfl (by decide) F HF.out).mono ?_
  rintro e w2 ⟨da, dn, dc, m, a, n, rfl, hb⟩
  have hq2 : Below w.heap.size w w2 := q_step (by (repeat' (first | with_reducible exact Below.refl _ _ | with_reducible assumption | with_reducible refine q_alloc ?_ _ | with_reducible refine q_drew ?_ | with_reducible refine q_drewN _ ?_ | with_reducible refine q_setCell ?_ ?_ _ | (left; simp; done) | (right; simp; done) | (right; dsimp only; omega) | (left; dsimp only; omega)))) hb
  clear hb hq1
  rcases HE2.out with ⟨rfl, hN⟩ | ⟨rfl, hN⟩ <;> rcases HF2.out with ⟨rfl, h1, h2⟩ | ⟨rfl, h1⟩ | ⟨rfl, h1, h2⟩
  all_goals
    first
      | have hn1 : (N : Int) ≤ 65536 := by omega
      | have hn1 : ¬ (N : Int) ≤ 65536 := by omega
    first
      | have hm1 : 1 ≤ most := by omega
      | have hm1 : ¬ 1 ≤ most := by omega
    first
      | have hm2 : most ≤ 16382 := by omega
      | have hm2 : ¬ most ≤ 16382 := by omega
    go_wp2_with fail
    refine (awake42 _).mono ?_
    rintro e w3 ⟨rfl, hb⟩
    have hq3 : Below w.heap.size w w3 := q_step (by (repeat' (first | with_reducible exact Below.refl _ _ | with_reducible assumption | with_reducible refine q_alloc ?_ _ | with_reducible refine q_drew ?_ | with_reducible refine q_drewN _ ?_ | with_reducible refine q_setCell ?_ ?_ _ | (left; simp; done) | (right; simp; done) | (right; dsimp only; omega) | (left; dsimp only; omega)))) hb
    go_wp2_with fail
    go_returns
    exact ⟨by first | rfl | (simp; done) | (simp; omega), hq3⟩
end Go.Proofs.Ytlaejolgjchfcaa
