/- Layer 42: gives. -/
import Derived.Test.YtlaejolgjchfcaaPc2a
namespace Go.Proofs.Ytlaejolgjchfcaa
open Go Go.RowKit
set_option linter.unusedSimpArgs false
set_option linter.unusedVariables false
set_option maxRecDepth 100000 in
theorem same_eq (v1 v2 : Value) (us : List Int) (w : World) (h1 : IsI w v1 us) (h2 : IsI w v2 us) (hl : us.length ≤ 1000000) :
    Calls Try.prog 22 #[v1, v2] w fun e w' => e = .returned (.bool true) ∧ Below w.heap.size w w' := by
  obtain ⟨a1, c1, rfl, hf1⟩ := isI_form h1
  obtain ⟨a2, c2, rfl, hf2⟩ := isI_form h2
  have HF1 := Lib.hid hf1
  have HF2 := Lib.hid hf2
  clear hf1 hf2 h1 h2
  have J0 : Below w.heap.size w w := Below.refl _ _
  go_enter Try.func22, Try.ntmps22
  go_wp2_with fail
  go_loopw [5] (fun i wr => ∃ k : Nat, k ≤ us.length ∧ i = .int .i64 k ∧ Below w.heap.size w wr)
    (fun i _ => us.length - (intOf i).toNat)
  case atStart => exact ⟨0, Nat.zero_le _, rfl, J0⟩
  case round =>
    clear J0
    obtain ⟨k, hk, rfl, J⟩ := hrel
    by_cases hlt : k < us.length
    · obtain ⟨b, off, rfl, hc1, hc2, hb, hlay⟩ := HF1.out (by omega)
      obtain ⟨b', off', rfl, hc1', hc2', hb', hlay'⟩ := HF2.out (by omega)
      have hlk : us[k]? = some us[k] := List.getElem?_eq_getElem hlt
      have d0 := cell_below J (hlay k _ hlk)
      have d1 := cell_below J (hlay' k _ hlk)
      clear hlay hlay' hlk
      generalize us[k] = u at d0 d1
      have hki : (k : Int) < (us.length : Int) := by omega
      go_wp2_with fail
      go_quiet (fail)
      have J2 : Below w.heap.size w (wr.drewN nq) := q_drewN _ J
      go_wp2_with fail
      go_roundw
      case rel => exact ⟨k + 1, by omega, by go_num, J2⟩
      case measure => simp [intOf]; omega
    · obtain rfl : k = us.length := by omega
      go_wp2_with fail
      go_returns
      exact ⟨by first | rfl | (simp; done), J⟩
abbrev gV (dv : Value) (m a n : Int) : Value := .agg #[dv, i6 m, i6 a, i6 n]
theorem done_any (dv : Value) (m a n : Int) (w : World) :
    Calls Try.prog 14 #[gV dv m a n] w fun e w' => e = .returned (.bool (decide (n ≤ a))) ∧ Below w.heap.size w w' := by
  go_enter Try.func14, Try.ntmps14
  go_wp2_with fail
  go_returns
  exact ⟨by first | rfl | (simp; done), by (repeat' (first | with_reducible exact Below.refl _ _ | with_reducible assumption | with_reducible refine q_alloc ?_ _ | with_reducible refine q_drew ?_ | with_reducible refine q_drewN _ ?_ | with_reducible refine q_setCell ?_ ?_ _ | (left; simp; done) | (right; simp; done) | (right; dsimp only; omega) | (left; dsimp only; omega)))⟩
def goneA (a n : Int) : Int := if n ≤ a then a else a + 1
set_option maxRecDepth 100000 in
theorem gone_any (da : Option Addr) (dn dc : Nat) (m a n : Int) (w : World) (h0 : 0 ≤ a) (h1 : a ≤ 1000000) :
    Calls Try.prog 17 #[gV (.slice da dn dc) m a n] w fun e w' => e = .returned (gV (.slice da dn dc) m (goneA a n) n) ∧ Below w.heap.size w w' := by
  obtain ⟨R, hR⟩ : ∃ R, goneA a n = R := ⟨_, rfl⟩
  rw [hR]
  go_enter Try.func17, Try.ntmps17
  go_wp2_with fail
  refine calls_world (fun W => Below w.heap.size w W ∧ Blk W w.heap.size [.slice da dn dc, i6 m, i6 a, i6 n] ∧ Blk W (w.heap.size + 1) [.slice none 0 0, i6 0, i6 0, i6 0]) ⟨by (repeat' (first | with_reducible exact Below.refl _ _ | with_reducible assumption | with_reducible refine q_alloc ?_ _ | with_reducible refine q_drew ?_ | with_reducible refine q_drewN _ ?_ | with_reducible refine q_setCell ?_ ?_ _ | (left; simp; done) | (right; simp; done) | (right; dsimp only; omega) | (left; dsimp only; omega))), (Blk.new rfl).alloc _, blk_new1 rfl⟩ ?_
  intro W1 ⟨hq1, b0, b1⟩
  refine (done_any (.slice da dn dc) m a n _).mono ?_
  rintro e w2 ⟨rfl, hb⟩
  replace b0 := b0.below hb
  replace b1 := b1.below hb
  have hq := q_step hq1 hb
  clear hb hq1
  have c0 := b0.cell 0 rfl
  have c1 := b0.cell 1 rfl
  have c2 := b0.cell 2 rfl
  have c3 := b0.cell 3 rfl
  have f2 := b0.froz 2 rfl
  have d0 := b1.cell 0 rfl
  have d1 := b1.cell 1 rfl
  have d2 := b1.cell 2 rfl
  have d3 := b1.cell 3 rfl
  have e0 := b1.froz 0 rfl
  have e1 := b1.froz 1 rfl
  have e2 := b1.froz 2 rfl
  have e3 := b1.froz 3 rfl
  have hw : IntKind.i64.wrap (a + 1) = a + 1 := IntWalk.i64_in _ (by omega)
  clear b0
  unfold goneA at hR
  obtain ⟨D, hD⟩ : ∃ D, decide (n ≤ a) = D := ⟨_, rfl⟩
  rw [hD]
  by_cases hc : n ≤ a
  · obtain rfl : true = D := by rw [← hD]; simp [hc]
    clear hD
    rw [if_pos hc] at hR
    subst hR
    go_wp2_with fail
    refine body_world (fun W => Below w.heap.size w W ∧ Blk W (w.heap.size + 1) [.slice da dn dc, i6 m, i6 a, i6 n]) ⟨by (repeat' (first | with_reducible exact Below.refl _ _ | with_reducible assumption | with_reducible refine q_alloc ?_ _ | with_reducible refine q_drew ?_ | with_reducible refine q_drewN _ ?_ | with_reducible refine q_setCell ?_ ?_ _ | (left; simp; done) | (right; simp; done) | (right; dsimp only; omega) | (left; dsimp only; omega))), b1.set4⟩ ?_
    intro W4 ⟨hq4, b5⟩
    clear d0 d1 d2 d3 e0 e1 e2 e3
    have d0 := b5.cell 0 rfl
    have d1 := b5.cell 1 rfl
    have d2 := b5.cell 2 rfl
    have d3 := b5.cell 3 rfl
    exact bodyPost_ret (v := gV (.slice da dn dc) m a n) (by simp [results, Try.results17, go_sem, d0, d1, d2, d3]) rfl ⟨rfl, hq4⟩
  · obtain rfl : false = D := by rw [← hD]; simp [hc]
    clear hD
    rw [if_neg hc] at hR
    subst hR
    go_wp2_with fail
    refine body_world (fun W => Below w.heap.size w W ∧ Blk W (w.heap.size + 1) [.slice da dn dc, i6 m, i6 (a + 1), i6 n]) ⟨by (repeat' (first | with_reducible exact Below.refl _ _ | with_reducible assumption | with_reducible refine q_alloc ?_ _ | with_reducible refine q_drew ?_ | with_reducible refine q_drewN _ ?_ | with_reducible refine q_setCell ?_ ?_ _ | (left; simp; done) | (right; simp; done) | (right; dsimp only; omega) | (left; dsimp only; omega))), (b1.set_far (p := ⟨w.heap.size, 2, none⟩) (by show w.heap.size ≠ w.heap.size + 1; omega) _).set4⟩ ?_
    intro W4 ⟨hq4, b5⟩
    clear d0 d1 d2 d3 e0 e1 e2 e3
    have d0 := b5.cell 0 rfl
    have d1 := b5.cell 1 rfl
    have d2 := b5.cell 2 rfl
    have d3 := b5.cell 3 rfl
    exact bodyPost_ret (v := gV (.slice da dn dc) m (a + 1) n) (by simp [results, Try.results17, go_sem, d0, d1, d2, d3]) rfl ⟨rfl, hq4⟩
def cntP (len : Nat) (most : Int) : Int := if most < len then 2 + ((len : Int) + most - 1) / most else 1
set_option maxRecDepth 100000 in
set_option maxHeartbeats 1000000 in
theorem new_size (v : Value) (most : Int) (w : World) (h : most < 1 ∨ 16382 < most) :
    Calls Try.prog 11 #[v, i6 most] w fun e w' => e = .returned (.tuple #[gV (.slice none 0 0) 0 0 0, i6 17]) ∧ Below w.heap.size w w' := by
  by_cases h1 : most < 1
  · clear h
    go_enter Try.func11, Try.ntmps11
    go_wp2_with fail
    go_returns
    exact ⟨by first | rfl | (simp; done), by (repeat' (first | with_reducible exact Below.refl _ _ | with_reducible assumption | with_reducible refine q_alloc ?_ _ | with_reducible refine q_drew ?_ | with_reducible refine q_drewN _ ?_ | with_reducible refine q_setCell ?_ ?_ _ | (left; simp; done) | (right; simp; done) | (right; dsimp only; omega) | (left; dsimp only; omega)))⟩
  · have h2 : 16382 < most := by omega
    clear h
    go_enter Try.func11, Try.ntmps11
    go_wp2_with fail
    go_returns
    exact ⟨by first | rfl | (simp; done), by (repeat' (first | with_reducible exact Below.refl _ _ | with_reducible assumption | with_reducible refine q_alloc ?_ _ | with_reducible refine q_drew ?_ | with_reducible refine q_drewN _ ?_ | with_reducible refine q_setCell ?_ ?_ _ | (left; simp; done) | (right; simp; done) | (right; dsimp only; omega) | (left; dsimp only; omega)))⟩
set_option maxRecDepth 100000 in
set_option maxHeartbeats 1000000 in
theorem new_long (a : Option Addr) (n cap : Nat) (most : Int) (w : World) (h1 : 1 ≤ most) (h2 : most ≤ 16382) (hn : 65536 < n) :
    Calls Try.prog 11 #[.slice a n cap, i6 most] w fun e w' => e = .returned (.tuple #[gV (.slice none 0 0) 0 0 0, i6 4]) ∧ Below w.heap.size w w' := by
  have g1 : ¬ most < 1 := by omega
  have g2 : ¬ 16382 < most := by omega
  have g3 : (65536 : Int) < n := by omega
  clear h1 h2
  go_enter Try.func11, Try.ntmps11
  go_wp2_with fail
  go_returns
  exact ⟨by first | rfl | (simp; done), by (repeat' (first | with_reducible exact Below.refl _ _ | with_reducible assumption | with_reducible refine q_alloc ?_ _ | with_reducible refine q_drew ?_ | with_reducible refine q_drewN _ ?_ | with_reducible refine q_setCell ?_ ?_ _ | (left; simp; done) | (right; simp; done) | (right; dsimp only; omega) | (left; dsimp only; omega)))⟩
set_option maxRecDepth 100000 in
set_option maxHeartbeats 4000000 in
theorem new_any (v : Value) (us : List Int) (most : Int) (w : World) (hv : IsI w v us) (h1 : 1 ≤ most) (h2 : most ≤ 16382) (hn : us.length ≤ 65536) :
    Calls Try.prog 11 #[v, i6 most] w fun e w' => (numsB us = false ∧ e = .returned (.tuple #[gV (.slice none 0 0) 0 0 0, i6 1]) ∨ numsB us = true ∧ ∃ dv, e = .returned (.tuple #[gV dv most 0 (cntP us.length most), i6 0]) ∧ IsI w' dv us) ∧ Below w.heap.size w w' := by
  obtain ⟨a, cap, rfl, _⟩ := isI_form hv
  have HV := Lib.hid hv
  have g1 : ¬ most < 1 := by omega
  have g2 : ¬ 16382 < most := by omega
  have g3 : ¬ (65536 : Int) < us.length := by omega
  have hq1 : Below w.heap.size w (w.alloc (.cells #[.slice none 0 0, i6 0, i6 0, i6 0] 25)) := q_alloc (Below.refl _ _) _
  clear hv
  obtain ⟨C, hC⟩ : ∃ C, cntP us.length most = C := ⟨_, rfl⟩
  rw [hC]
  unfold cntP at hC
  go_enter Try.func11, Try.ntmps11
  go_wp2_with fail
  refine (are_any _ us _ (HV.out.below hq1) (by omega)).mono ?_
  rintro e w1 ⟨rfl, rfl⟩
  cases hnb : numsB us with
  | false =>
    go_wp2_with fail
    go_returns
    exact ⟨Or.inl ⟨hnb, by first | rfl | (simp; done)⟩, by (repeat' (first | with_reducible exact Below.refl _ _ | with_reducible assumption | with_reducible refine q_alloc ?_ _ | with_reducible refine q_drew ?_ | with_reducible refine q_drewN _ ?_ | with_reducible refine q_setCell ?_ ?_ _ | (left; simp; done) | (right; simp; done) | (right; dsimp only; omega) | (left; dsimp only; omega)))⟩
  | true =>
    go_wp2_with fail
    refine calls_world (fun W => Below w.heap.size w W ∧ Blk W w.heap.size [.slice none 0 0, i6 0, i6 0, i6 0]) ⟨by (repeat' (first | with_reducible exact Below.refl _ _ | with_reducible assumption | with_reducible refine q_alloc ?_ _ | with_reducible refine q_drew ?_ | with_reducible refine q_drewN _ ?_ | with_reducible refine q_setCell ?_ ?_ _ | (left; simp; done) | (right; simp; done) | (right; dsimp only; omega) | (left; dsimp only; omega))), Blk.new rfl⟩ ?_
    intro W1 ⟨hq, b1⟩
    have hw1 := b1.lt
    refine (copied_any _ us _ (HV.out.below hq) (by omega)).mono ?_
    rintro e w2 ⟨rfl, hdv, hb⟩
    replace hq := q_step hq hb
    replace b1 := b1.below hb
    clear hb
    have HDV := Lib.hid hdv
    clear hdv
    have hws := b1.lt
    have HB1 := Lib.hid b1
    by_cases hc : most < us.length
    · rw [if_pos hc] at hC
      have hd0 : 0 ≤ ((us.length : Int) + most - 1) / most := Int.ediv_nonneg (by omega) (by omega)
      have hd1 : ((us.length : Int) + most - 1) / most ≤ (us.length : Int) + most - 1 := Int.ediv_le_self _ (by omega)
      have k1 : IntKind.i64.wrap ((us.length : Int) + most) = (us.length : Int) + most := IntWalk.i64_in _ (by omega)
      have k2 : IntKind.i64.wrap ((us.length : Int) + most - 1) = (us.length : Int) + most - 1 := IntWalk.i64_in _ (by omega)
      have k3 : ((us.length : Int) + most - 1).tdiv most = ((us.length : Int) + most - 1) / most := Int.tdiv_eq_ediv_of_nonneg (by omega)
      have k4 : IntKind.i64.wrap (((us.length : Int) + most - 1) / most) = ((us.length : Int) + most - 1) / most := IntWalk.i64_in _ (by omega)
      have k5 : IntKind.i64.wrap (2 + ((us.length : Int) + most - 1) / most) = C := by rw [hC]; exact IntWalk.i64_in _ (by omega)
      have k6 : ¬ most = 0 := by omega
      clear hd0 hd1
      generalize ((us.length : Int) + most - 1) / most = Q at k3 k4 k5 hC
      clear hC
      have c0 := b1.cell 0 rfl
      go_upto_region 10 with fail
      refine code_world (fun W => Below w.heap.size w W ∧ Blk W w.heap.size [.slice none 0 0, i6 0, i6 0, i6 0] ∧ Blk W w2.heap.size [.slice (some ⟨W1.heap.size, 0, none⟩) us.length us.length, i6 most, i6 0, i6 C] ∧ IsI W (.slice (some ⟨W1.heap.size, 0, none⟩) us.length us.length) us) ⟨by (repeat' (first | with_reducible exact Below.refl _ _ | with_reducible assumption | with_reducible refine q_alloc ?_ _ | with_reducible refine q_drew ?_ | with_reducible refine q_drewN _ ?_ | with_reducible refine q_setCell ?_ ?_ _ | (left; simp; done) | (right; simp; done) | (right; dsimp only; omega) | (left; dsimp only; omega))), b1.below (by (repeat' (first | with_reducible exact Below.refl _ _ | with_reducible assumption | with_reducible refine q_alloc ?_ _ | with_reducible refine q_drew ?_ | with_reducible refine q_drewN _ ?_ | with_reducible refine q_setCell ?_ ?_ _ | (left; simp; done) | (right; simp; done) | (right; dsimp only; omega) | (left; dsimp only; omega)))), Blk.new rfl, HDV.out.below (by (repeat' (first | with_reducible exact Below.refl _ _ | with_reducible assumption | with_reducible refine q_alloc ?_ _ | with_reducible refine q_drew ?_ | with_reducible refine q_drewN _ ?_ | with_reducible refine q_setCell ?_ ?_ _ | (left; simp; done) | (right; simp; done) | (right; dsimp only; omega) | (left; dsimp only; omega))))⟩ ?_
      intro W3 ⟨hq3, b3, b4, hdv⟩
      have HD3 := Lib.hid hdv
      clear b1 hq hdv
      have hne : ¬ w2.heap.size = w.heap.size := by omega
      have hnw : w.heap.size ≠ W1.heap.size := by omega
      generalize w2.heap.size = B at b4 hne ⊢
      have c0 := b4.cell 0 rfl
      have c1 := b4.cell 1 rfl
      have c2 := b4.cell 2 rfl
      have c3 := b4.cell 3 rfl
      have d0 := b3.cell 0 rfl
      have d1 := b3.cell 1 rfl
      have d2 := b3.cell 2 rfl
      have d3 := b3.cell 3 rfl
      have e0 := b3.froz 0 rfl
      have e1 := b3.froz 1 rfl
      have e2 := b3.froz 2 rfl
      have e3 := b3.froz 3 rfl
      go_wp2_with fail
      refine body_world (fun W => Below w.heap.size w W ∧ Blk W w.heap.size [.slice (some ⟨W1.heap.size, 0, none⟩) us.length us.length, i6 most, i6 0, i6 C] ∧ IsI W (.slice (some ⟨W1.heap.size, 0, none⟩) us.length us.length) us) ⟨by (repeat' (first | with_reducible exact Below.refl _ _ | with_reducible assumption | with_reducible refine q_alloc ?_ _ | with_reducible refine q_drew ?_ | with_reducible refine q_drewN _ ?_ | with_reducible refine q_setCell ?_ ?_ _ | (left; simp; done) | (right; simp; done) | (right; dsimp only; omega) | (left; dsimp only; omega))), b3.set4, isI_set (isI_set (isI_set (isI_set HD3.out hnw) hnw) hnw) hnw⟩ ?_
      intro W4 ⟨hq4, b5, hd5⟩
      clear d0 d1 d2 d3 e0 e1 e2 e3 b3
      have d0 := b5.cell 0 rfl
      have d1 := b5.cell 1 rfl
      have d2 := b5.cell 2 rfl
      have d3 := b5.cell 3 rfl
      exact bodyPost_ret (v := .tuple #[gV (.slice (some ⟨W1.heap.size, 0, none⟩) us.length us.length) most 0 C, i6 0]) (by simp [results, Try.results11, go_sem, d0, d1, d2, d3]) rfl ⟨Or.inr ⟨hnb, _, rfl, hd5⟩, hq4⟩
    · rw [if_neg hc] at hC
      go_upto_region 10 with fail
      refine code_world (fun W => Below w.heap.size w W ∧ Blk W w.heap.size [.slice none 0 0, i6 0, i6 0, i6 0] ∧ Blk W w2.heap.size [.slice (some ⟨W1.heap.size, 0, none⟩) us.length us.length, i6 most, i6 0, i6 C] ∧ IsI W (.slice (some ⟨W1.heap.size, 0, none⟩) us.length us.length) us) ⟨by (repeat' (first | with_reducible exact Below.refl _ _ | with_reducible assumption | with_reducible refine q_alloc ?_ _ | with_reducible refine q_drew ?_ | with_reducible refine q_drewN _ ?_ | with_reducible refine q_setCell ?_ ?_ _ | (left; simp; done) | (right; simp; done) | (right; dsimp only; omega) | (left; dsimp only; omega))), b1.below (by (repeat' (first | with_reducible exact Below.refl _ _ | with_reducible assumption | with_reducible refine q_alloc ?_ _ | with_reducible refine q_drew ?_ | with_reducible refine q_drewN _ ?_ | with_reducible refine q_setCell ?_ ?_ _ | (left; simp; done) | (right; simp; done) | (right; dsimp only; omega) | (left; dsimp only; omega)))), Blk.new rfl, HDV.out.below (by (repeat' (first | with_reducible exact Below.refl _ _ | with_reducible assumption | with_reducible refine q_alloc ?_ _ | with_reducible refine q_drew ?_ | with_reducible refine q_drewN _ ?_ | with_reducible refine q_setCell ?_ ?_ _ | (left; simp; done) | (right; simp; done) | (right; dsimp only; omega) | (left; dsimp only; omega))))⟩ ?_
      intro W3 ⟨hq3, b3, b4, hdv⟩
      have HD3 := Lib.hid hdv
      clear b1 hq hdv
      have hne : ¬ w2.heap.size = w.heap.size := by omega
      have hnw : w.heap.size ≠ W1.heap.size := by omega
      generalize w2.heap.size = B at b4 hne ⊢
      have c0 := b4.cell 0 rfl
      have c1 := b4.cell 1 rfl
      have c2 := b4.cell 2 rfl
      have c3 := b4.cell 3 rfl
      have d0 := b3.cell 0 rfl
      have d1 := b3.cell 1 rfl
      have d2 := b3.cell 2 rfl
      have d3 := b3.cell 3 rfl
      have e0 := b3.froz 0 rfl
      have e1 := b3.froz 1 rfl
      have e2 := b3.froz 2 rfl
      have e3 := b3.froz 3 rfl
      go_wp2_with fail
      refine body_world (fun W => Below w.heap.size w W ∧ Blk W w.heap.size [.slice (some ⟨W1.heap.size, 0, none⟩) us.length us.length, i6 most, i6 0, i6 C] ∧ IsI W (.slice (some ⟨W1.heap.size, 0, none⟩) us.length us.length) us) ⟨by (repeat' (first | with_reducible exact Below.refl _ _ | with_reducible assumption | with_reducible refine q_alloc ?_ _ | with_reducible refine q_drew ?_ | with_reducible refine q_drewN _ ?_ | with_reducible refine q_setCell ?_ ?_ _ | (left; simp; done) | (right; simp; done) | (right; dsimp only; omega) | (left; dsimp only; omega))), b3.set4, isI_set (isI_set (isI_set (isI_set HD3.out hnw) hnw) hnw) hnw⟩ ?_
      intro W4 ⟨hq4, b5, hd5⟩
      clear d0 d1 d2 d3 e0 e1 e2 e3 b3
      have d0 := b5.cell 0 rfl
      have d1 := b5.cell 1 rfl
      have d2 := b5.cell 2 rfl
      have d3 := b5.cell 3 rfl
      exact bodyPost_ret (v := .tuple #[gV (.slice (some ⟨W1.heap.size, 0, none⟩) us.length us.length) most 0 C, i6 0]) (by simp [results, Try.results11, go_sem, d0, d1, d2, d3]) rfl ⟨Or.inr ⟨hnb, _, rfl, hd5⟩, hq4⟩
end Go.Proofs.Ytlaejolgjchfcaa
