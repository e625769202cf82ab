/- Layer 42: PiecesStays' walk. -/
import Derived.Test.YtlaejolgjchfcaaPc21
namespace Go.Proofs.Ytlaejolgjchfcaa
open Go Go.RowKit Go.Maps
set_option linter.unusedSimpArgs false
set_option linter.unusedVariables false
/-- So many cells may be written. -/
def CellsAt (w : World) (b n : Nat) : Prop := ∀ j, j < n → (∃ u, w.cell? ⟨b, j, none⟩ = some (i6 u)) ∧ w.frozen? ⟨b, j, none⟩ = false
theorem CellsAt.below {w w' : World} {b n : Nat} (h : CellsAt w b n) (hb : Below w.heap.size w w') : CellsAt w' b n := fun j hj => by
  obtain ⟨⟨u, h1⟩, h2⟩ := h j hj
  have hl : b < w.heap.size := block_lt_of_cell h1
  exact ⟨⟨u, cell_below hb h1⟩, (hb.frozen (p := ⟨b, j, none⟩) hl).trans h2⟩
theorem CellsAt.set {w : World} {b n k : Nat} (h : CellsAt w b n) (z : Int) : CellsAt (w.setCell ⟨b, k, none⟩ (i6 z)) b n := fun j hj => by
  obtain ⟨⟨u, h1⟩, h2⟩ := h j hj
  refine ⟨?_, by simpa using h2⟩
  by_cases hjk : j = k
  · subst hjk
    exact ⟨z, set_near h1⟩
  · exact ⟨u, set_far h1 (off_ne (fun e => hjk e.symm))⟩
theorem CellsAt.far {w : World} {b c n : Nat} (h : CellsAt w b n) (hne : c ≠ b) (k : Nat) (z : Value) : CellsAt (w.setCell ⟨c, k, none⟩ z) b n := fun j hj => by
  obtain ⟨⟨u, h1⟩, h2⟩ := h j hj
  exact ⟨⟨u, set_far h1 (by intro e; injection e with e1; exact hne (by first | exact e1 | exact e1.symm))⟩, by simpa using h2⟩
def NewC (w w' : World) (v : Value) (n : Nat) : Prop := ∃ g c, v = .slice (some ⟨g, 0, none⟩) n c ∧ w.heap.size ≤ g ∧ CellsAt w' g n
theorem own_cells {w : World} {B g n cap : Nat} {us : List Int} (h : w.ownsRow B 2 1 (.slice (some ⟨g, 0, none⟩) n cap) n (us.map i6)) : CellsAt w g n := fun j hj => by
  have hl := h.1
  rw [List.length_map] at hl
  obtain ⟨u, hu⟩ : ∃ u, us[j]? = some u := ⟨_, List.getElem?_eq_getElem (by omega)⟩
  refine ⟨⟨u, (h.cellAt j (by omega)).trans (by rw [List.getElem?_map, hu]; rfl)⟩, h.frozenAt _⟩
set_option maxRecDepth 100000 in
set_option maxHeartbeats 4000000 in
theorem new_own (v : Value) (us : List Int) (most : Int) (w : World) (hv : IsI w v us) (h1 : 1 ≤ most) (h2 : most ≤ 16382) (hn : us.length ≤ 65536) :
    Calls Try.prog 11 #[v, i6 most] w fun e w' => (numsB us = false ∧ e = .returned (.tuple #[gV (.slice none 0 0) 0 0 0, i6 1]) ∨ numsB us = true ∧ ∃ dv, e = .returned (.tuple #[gV dv most 0 (cntP us.length most), i6 0]) ∧ NewAt w dv ∧ IsI w' dv us) ∧ Below w.heap.size w w' := by
  obtain ⟨a, cap, rfl, _⟩ := isI_form hv
  have HV := Lib.hid hv
  have g1 : ¬ most < 1 := by omega
  have g2 : ¬ 16382 < most := by omega
  have g3 : ¬ (65536 : Int) < us.length := by omega
  have hq1 : Below w.heap.size w (w.alloc (.cells #[.slice none 0 0, i6 0, i6 0, i6 0] 25)) := q_alloc (Below.refl _ _) _
  clear hv
  obtain ⟨C, hC⟩ : ∃ C, cntP us.length most = C := ⟨_, rfl⟩
  rw [hC]
  unfold cntP at hC
  go_enter Try.func11, Try.ntmps11
  go_wp2_with fail
  refine (are_any _ us _ (HV.out.below hq1) (by omega)).mono ?_
  rintro e w1 ⟨rfl, rfl⟩
  cases hnb : numsB us with
  | false =>
    go_wp2_with fail
    go_returns
    exact ⟨Or.inl ⟨hnb, by first | rfl | (simp; done)⟩, by (repeat' (first | with_reducible exact Below.refl _ _ | with_reducible assumption | with_reducible refine q_alloc ?_ _ | with_reducible refine q_drew ?_ | with_reducible refine q_drewN _ ?_ | with_reducible refine q_setCell ?_ ?_ _ | (left; simp; done) | (right; simp; done) | (right; dsimp only; omega) | (left; dsimp only; omega)))⟩
  | true =>
    go_wp2_with fail
    refine calls_world (fun W => Below w.heap.size w W ∧ Blk W w.heap.size [.slice none 0 0, i6 0, i6 0, i6 0]) ⟨by (repeat' (first | with_reducible exact Below.refl _ _ | with_reducible assumption | with_reducible refine q_alloc ?_ _ | with_reducible refine q_drew ?_ | with_reducible refine q_drewN _ ?_ | with_reducible refine q_setCell ?_ ?_ _ | (left; simp; done) | (right; simp; done) | (right; dsimp only; omega) | (left; dsimp only; omega))), Blk.new rfl⟩ ?_
    intro W1 ⟨hq, b1⟩
    have hw1 := b1.lt
    refine (copied_any _ us _ (HV.out.below hq) (by omega)).mono ?_
    rintro e w2 ⟨rfl, hdv, hb⟩
    replace hq := q_step hq hb
    replace b1 := b1.below hb
    clear hb
    have HDV := Lib.hid hdv
    clear hdv
    have hws := b1.lt
    have HB1 := Lib.hid b1
    by_cases hc : most < us.length
    · rw [if_pos hc] at hC
      have hd0 : 0 ≤ ((us.length : Int) + most - 1) / most := Int.ediv_nonneg (by omega) (by omega)
      have hd1 : ((us.length : Int) + most - 1) / most ≤ (us.length : Int) + most - 1 := Int.ediv_le_self _ (by omega)
      have k1 : IntKind.i64.wrap ((us.length : Int) + most) = (us.length : Int) + most := IntWalk.i64_in _ (by omega)
      have k2 : IntKind.i64.wrap ((us.length : Int) + most - 1) = (us.length : Int) + most - 1 := IntWalk.i64_in _ (by omega)
      have k3 : ((us.length : Int) + most - 1).tdiv most = ((us.length : Int) + most - 1) / most := Int.tdiv_eq_ediv_of_nonneg (by omega)
      have k4 : IntKind.i64.wrap (((us.length : Int) + most - 1) / most) = ((us.length : Int) + most - 1) / most := IntWalk.i64_in _ (by omega)
      have k5 : IntKind.i64.wrap (2 + ((us.length : Int) + most - 1) / most) = C := by rw [hC]; exact IntWalk.i64_in _ (by omega)
      have k6 : ¬ most = 0 := by omega
      clear hd0 hd1
      generalize ((us.length : Int) + most - 1) / most = Q at k3 k4 k5 hC
      clear hC
      have c0 := b1.cell 0 rfl
      go_upto_region 10 with fail
      refine code_world (fun W => Below w.heap.size w W ∧ Blk W w.heap.size [.slice none 0 0, i6 0, i6 0, i6 0] ∧ Blk W w2.heap.size [.slice (some ⟨W1.heap.size, 0, none⟩) us.length us.length, i6 most, i6 0, i6 C] ∧ IsI W (.slice (some ⟨W1.heap.size, 0, none⟩) us.length us.length) us) ⟨by (repeat' (first | with_reducible exact Below.refl _ _ | with_reducible assumption | with_reducible refine q_alloc ?_ _ | with_reducible refine q_drew ?_ | with_reducible refine q_drewN _ ?_ | with_reducible refine q_setCell ?_ ?_ _ | (left; simp; done) | (right; simp; done) | (right; dsimp only; omega) | (left; dsimp only; omega))), b1.below (by (repeat' (first | with_reducible exact Below.refl _ _ | with_reducible assumption | with_reducible refine q_alloc ?_ _ | with_reducible refine q_drew ?_ | with_reducible refine q_drewN _ ?_ | with_reducible refine q_setCell ?_ ?_ _ | (left; simp; done) | (right; simp; done) | (right; dsimp only; omega) | (left; dsimp only; omega)))), Blk.new rfl, HDV.out.below (by (repeat' (first | with_reducible exact Below.refl _ _ | with_reducible assumption | with_reducible refine q_alloc ?_ _ | with_reducible refine q_drew ?_ | with_reducible refine q_drewN _ ?_ | with_reducible refine q_setCell ?_ ?_ _ | (left; simp; done) | (right; simp; done) | (right; dsimp only; omega) | (left; dsimp only; omega))))⟩ ?_
      intro W3 ⟨hq3, b3, b4, hdv⟩
      have HD3 := Lib.hid hdv
      clear b1 hq hdv
      have hne : ¬ w2.heap.size = w.heap.size := by omega
      have hnw : w.heap.size ≠ W1.heap.size := by omega
      generalize w2.heap.size = B at b4 hne ⊢
      have c0 := b4.cell 0 rfl
      have c1 := b4.cell 1 rfl
      have c2 := b4.cell 2 rfl
      have c3 := b4.cell 3 rfl
      have d0 := b3.cell 0 rfl
      have d1 := b3.cell 1 rfl
      have d2 := b3.cell 2 rfl
      have d3 := b3.cell 3 rfl
      have e0 := b3.froz 0 rfl
      have e1 := b3.froz 1 rfl
      have e2 := b3.froz 2 rfl
      have e3 := b3.froz 3 rfl
      go_wp2_with fail
      refine body_world (fun W => Below w.heap.size w W ∧ Blk W w.heap.size [.slice (some ⟨W1.heap.size, 0, none⟩) us.length us.length, i6 most, i6 0, i6 C] ∧ IsI W (.slice (some ⟨W1.heap.size, 0, none⟩) us.length us.length) us) ⟨by (repeat' (first | with_reducible exact Below.refl _ _ | with_reducible assumption | with_reducible refine q_alloc ?_ _ | with_reducible refine q_drew ?_ | with_reducible refine q_drewN _ ?_ | with_reducible refine q_setCell ?_ ?_ _ | (left; simp; done) | (right; simp; done) | (right; dsimp only; omega) | (left; dsimp only; omega))), b3.set4, isI_set (isI_set (isI_set (isI_set HD3.out hnw) hnw) hnw) hnw⟩ ?_
      intro W4 ⟨hq4, b5, hd5⟩
      clear d0 d1 d2 d3 e0 e1 e2 e3 b3
      have d0 := b5.cell 0 rfl
      have d1 := b5.cell 1 rfl
      have d2 := b5.cell 2 rfl
      have d3 := b5.cell 3 rfl
      exact bodyPost_ret (v := .tuple #[gV (.slice (some ⟨W1.heap.size, 0, none⟩) us.length us.length) most 0 C, i6 0]) (by simp [results, Try.results11, go_sem, d0, d1, d2, d3]) rfl ⟨Or.inr ⟨hnb, _, rfl, ⟨_, _, _, rfl, by omega⟩, hd5⟩, hq4⟩
    · rw [if_neg hc] at hC
      go_upto_region 10 with fail
      refine code_world (fun W => Below w.heap.size w W ∧ Blk W w.heap.size [.slice none 0 0, i6 0, i6 0, i6 0] ∧ Blk W w2.heap.size [.slice (some ⟨W1.heap.size, 0, none⟩) us.length us.length, i6 most, i6 0, i6 C] ∧ IsI W (.slice (some ⟨W1.heap.size, 0, none⟩) us.length us.length) us) ⟨by (repeat' (first | with_reducible exact Below.refl _ _ | with_reducible assumption | with_reducible refine q_alloc ?_ _ | with_reducible refine q_drew ?_ | with_reducible refine q_drewN _ ?_ | with_reducible refine q_setCell ?_ ?_ _ | (left; simp; done) | (right; simp; done) | (right; dsimp only; omega) | (left; dsimp only; omega))), b1.below (by (repeat' (first | with_reducible exact Below.refl _ _ | with_reducible assumption | with_reducible refine q_alloc ?_ _ | with_reducible refine q_drew ?_ | with_reducible refine q_drewN _ ?_ | with_reducible refine q_setCell ?_ ?_ _ | (left; simp; done) | (right; simp; done) | (right; dsimp only; omega) | (left; dsimp only; omega)))), Blk.new rfl, HDV.out.below (by (repeat' (first | with_reducible exact Below.refl _ _ | with_reducible assumption | with_reducible refine q_alloc ?_ _ | with_reducible refine q_drew ?_ | with_reducible refine q_drewN _ ?_ | with_reducible refine q_setCell ?_ ?_ _ | (left; simp; done) | (right; simp; done) | (right; dsimp only; omega) | (left; dsimp only; omega))))⟩ ?_
      intro W3 ⟨hq3, b3, b4, hdv⟩
      have HD3 := Lib.hid hdv
      clear b1 hq hdv
      have hne : ¬ w2.heap.size = w.heap.size := by omega
      have hnw : w.heap.size ≠ W1.heap.size := by omega
      generalize w2.heap.size = B at b4 hne ⊢
      have c0 := b4.cell 0 rfl
      have c1 := b4.cell 1 rfl
      have c2 := b4.cell 2 rfl
      have c3 := b4.cell 3 rfl
      have d0 := b3.cell 0 rfl
      have d1 := b3.cell 1 rfl
      have d2 := b3.cell 2 rfl
      have d3 := b3.cell 3 rfl
      have e0 := b3.froz 0 rfl
      have e1 := b3.froz 1 rfl
      have e2 := b3.froz 2 rfl
      have e3 := b3.froz 3 rfl
      go_wp2_with fail
      refine body_world (fun W => Below w.heap.size w W ∧ Blk W w.heap.size [.slice (some ⟨W1.heap.size, 0, none⟩) us.length us.length, i6 most, i6 0, i6 C] ∧ IsI W (.slice (some ⟨W1.heap.size, 0, none⟩) us.length us.length) us) ⟨by (repeat' (first | with_reducible exact Below.refl _ _ | with_reducible assumption | with_reducible refine q_alloc ?_ _ | with_reducible refine q_drew ?_ | with_reducible refine q_drewN _ ?_ | with_reducible refine q_setCell ?_ ?_ _ | (left; simp; done) | (right; simp; done) | (right; dsimp only; omega) | (left; dsimp only; omega))), b3.set4, isI_set (isI_set (isI_set (isI_set HD3.out hnw) hnw) hnw) hnw⟩ ?_
      intro W4 ⟨hq4, b5, hd5⟩
      clear d0 d1 d2 d3 e0 e1 e2 e3 b3
      have d0 := b5.cell 0 rfl
      have d1 := b5.cell 1 rfl
      have d2 := b5.cell 2 rfl
      have d3 := b5.cell 3 rfl
      exact bodyPost_ret (v := .tuple #[gV (.slice (some ⟨W1.heap.size, 0, none⟩) us.length us.length) most 0 C, i6 0]) (by simp [results, Try.results11, go_sem, d0, d1, d2, d3]) rfl ⟨Or.inr ⟨hnb, _, rfl, ⟨_, _, _, rfl, by omega⟩, hd5⟩, hq4⟩
set_option linter.unusedSimpArgs false
set_option linter.unusedVariables false
set_option maxRecDepth 100000 in
set_option maxHeartbeats 4000000 in
theorem put_new (da : Option Addr) (cap : Nat) (us : List Int) (m : Nat) (w : World) (hv : IsI w (.slice da us.length cap) us) (hl : us.length ≤ 65536) :
    Calls Try.prog 13 #[gV (.slice da us.length cap) m 0 1] w fun e w' => ∃ v, e = .returned (.tuple #[pV false us.length v true, .bool true]) ∧ IsI w' v us ∧ NewC w w' v us.length ∧ Below w.heap.size w w' := by
  have HV := Lib.hid hv
  clear hv
  obtain ⟨D, hD⟩ : ∃ D, decide ((1 : Int) ≤ (0 : Int)) = D := ⟨_, rfl⟩
  obtain rfl : false = D := by rw [← hD]; simp
  go_enter Try.func13, Try.ntmps13
  go_wp2_with fail
  refine calls_world (fun W => Below w.heap.size w W ∧ Blk W w.heap.size [.slice da us.length cap, i6 m, i6 0, i6 1] ∧ Blk W (w.heap.size + 1) [.bool false, i6 0, .slice none 0 0, .bool false]) ⟨by (repeat' (first | with_reducible exact Below.refl _ _ | with_reducible assumption | with_reducible refine q_alloc ?_ _ | with_reducible refine q_drew ?_ | with_reducible refine q_drewN _ ?_ | with_reducible refine q_setCell ?_ ?_ _ | (left; simp; done) | (right; simp; done) | (right; dsimp only; omega) | (left; dsimp only; omega))), (Blk.new rfl).alloc _, blk_new1 rfl⟩ ?_
  intro W1 ⟨hq1, b0, b1⟩
  refine (done_any (.slice da us.length cap) m 0 1 _).mono ?_
  rintro e w2 ⟨rfl, hb⟩
  rw [hD]
  clear hD
  replace b0 := b0.below hb
  replace b1 := b1.below hb
  have hq := q_step hq1 hb
  clear hb hq1
  have c0 := b0.cell 0 rfl
  have c1 := b0.cell 1 rfl
  have c2 := b0.cell 2 rfl
  have c3 := b0.cell 3 rfl
  have d0 := b1.cell 0 rfl
  have d1 := b1.cell 1 rfl
  have d2 := b1.cell 2 rfl
  have d3 := b1.cell 3 rfl
  have e0 := b1.froz 0 rfl
  have e1 := b1.froz 1 rfl
  have e2 := b1.froz 2 rfl
  have e3 := b1.froz 3 rfl
  have hgt : w.heap.size + 1 < w2.heap.size := b1.lt
  go_upto_region 4 with fail
  go_region_with (first
    | (go_at_call 28; refine (copied_own _ us _ (HV.out.below (by (repeat' (first | with_reducible exact Below.refl _ _ | with_reducible assumption | with_reducible refine q_alloc ?_ _ | with_reducible refine q_drew ?_ | with_reducible refine q_drewN _ ?_ | with_reducible refine q_setCell ?_ ?_ _ | (left; simp; done) | (right; simp; done) | (right; dsimp only; omega) | (left; dsimp only; omega))))) (by omega)).mono ?_; rintro e w5 ⟨rfl, hcp0, hb⟩; have hcp := ownL_is hcp0; have HCA := Lib.hid (own_cells hcp0); clear hcp0; have hqq : Below w.heap.size w w5 := q_step (by (repeat' (first | with_reducible exact Below.refl _ _ | with_reducible assumption | with_reducible refine q_alloc ?_ _ | with_reducible refine q_drew ?_ | with_reducible refine q_drewN _ ?_ | with_reducible refine q_setCell ?_ ?_ _ | (left; simp; done) | (right; simp; done) | (right; dsimp only; omega) | (left; dsimp only; omega)))) hb; have hb2 : Below w2.heap.size w2 w5 := q_step (by (repeat' (first | with_reducible exact Below.refl _ _ | with_reducible assumption | with_reducible refine q_alloc ?_ _ | with_reducible refine q_drew ?_ | with_reducible refine q_drewN _ ?_ | with_reducible refine q_setCell ?_ ?_ _ | (left; simp; done) | (right; simp; done) | (right; dsimp only; omega) | (left; dsimp only; omega)))) hb; have b5 := b1.below hb2; have b6 := b0.below hb2; have HCP := Lib.hid hcp; have cc := b6.cell 0 rfl; clear hcp hb c0 c1 c2 c3 d0 d1 d2 d3 e0 e1 e2 e3; have d0 := b5.cell 0 rfl; have d1 := b5.cell 1 rfl; have d2 := b5.cell 2 rfl; have d3 := b5.cell 3 rfl; have e0 := b5.froz 0 rfl; have e1 := b5.froz 1 rfl; have e2 := b5.froz 2 rfl; have e3 := b5.froz 3 rfl))
  all_goals
    have hne : w.heap.size + 1 ≠ w2.heap.size := by omega
    go_wp2_with fail
    refine body_world (fun W => Below w.heap.size w W ∧ Blk W (w.heap.size + 1) [.bool false, i6 us.length, .slice (some ⟨w2.heap.size, 0, none⟩) us.length us.length, .bool true] ∧ IsI W (.slice (some ⟨w2.heap.size, 0, none⟩) us.length us.length) us ∧ CellsAt W w2.heap.size us.length) ⟨by (repeat' (first | with_reducible exact Below.refl _ _ | with_reducible assumption | with_reducible refine q_alloc ?_ _ | with_reducible refine q_drew ?_ | with_reducible refine q_drewN _ ?_ | with_reducible refine q_setCell ?_ ?_ _ | (left; simp; done) | (right; simp; done) | (right; dsimp only; omega) | (left; dsimp only; omega))), b5.set4, isI_set (isI_set (isI_set (isI_set HCP.out hne) hne) hne) hne, (((HCA.out.far hne _ _).far hne _ _).far hne _ _).far hne _ _⟩ ?_
    intro W4 ⟨hq4, b7, h6, c6⟩
    clear d0 d1 d2 d3 e0 e1 e2 e3
    have d0 := b7.cell 0 rfl
    have d1 := b7.cell 1 rfl
    have d2 := b7.cell 2 rfl
    have d3 := b7.cell 3 rfl
    exact bodyPost_ret (v := .tuple #[pV false us.length (.slice (some ⟨w2.heap.size, 0, none⟩) us.length us.length) true, .bool true]) (by simp [results, Try.results13, go_sem, d0, d1, d2, d3]) rfl ⟨_, rfl, h6, ⟨_, _, rfl, by omega, c6⟩, hq4⟩

/-- The first piece. -/
theorem put_zero (da : Option Addr) (cap : Nat) (us : List Int) (k m P : Nat) (w : World) (hk : us.length = k) (hv : IsI w (.slice da k cap) us) (hl : k ≤ 400) (hm : 1 ≤ m) (hc : CntIs k m P) :
    Calls Try.prog 13 #[gV (.slice da k cap) m 0 P] w fun e w' => ∃ va vc pn, e = .returned (.tuple #[pV (readA (pk P 0)) (pt k P 0) (.slice va pn vc) (readB (pk P 0)), .bool true]) ∧ pn = (pd us m P 0).length ∧ IsI w' (.slice va pn vc) (pd us m P 0) ∧ Hid (pn = 0 ∨ ∃ g, va = some ⟨g, 0, none⟩ ∧ w.heap.size ≤ g ∧ CellsAt w' g pn) ∧ Below w.heap.size w w' := by
  subst hk
  have hcl := cnt_le hm hc
  by_cases h1 : P = 1
  · subst h1
    refine (put_new da cap us m w hv (by omega)).mono ?_
    rintro e w' ⟨v, rfl, hi, ⟨g, c, rfl, hg, hca⟩, hb⟩
    exact ⟨_, c, _, rfl, rfl, hi, Lib.hid (Or.inr ⟨g, rfl, hg, hca⟩), hb⟩
  · refine (put_first da cap us m 0 P w hv (by omega) (by omega)).mono ?_
    rintro e w' ⟨rfl, hb⟩
    refine ⟨none, 0, 0, ?_, ?_, ?_, Lib.hid (Or.inl rfl), hb⟩
    · unfold pk pt
      rw [if_neg h1, if_neg h1]
      rfl
    · unfold pd
      rw [if_neg h1]; rfl
    · unfold pd
      rw [if_neg h1]
      exact Or.inl ⟨_, _, rfl, rfl⟩
theorem own_lit0 (w : World) (B : Nat) (hb : B ≤ w.heap.size) : OwnL (w.alloc (.cells #[] 2)) B (.slice (some ⟨w.heap.size, 0, none⟩) 0 0) [] := by
  exact World.ownsRow_lit w #[] 0 hb (by decide) rfl
set_option maxRecDepth 100000 in
set_option maxHeartbeats 16000000 in
theorem lstays_any (A : Option Addr) (n cap : Nat) (us : List Int) (most : Int) (pA : Bool) (pT : Int) (ps : Option Addr) (pn pc : Nat) (pL : Bool) (ds : List Int) (w : World) (hv : IsI w (.slice A n cap) us) (hn : us.length = n) (hno : A = none → cap = 0) (hp : IsI w (.slice ps pn pc) ds) (hpn : ds.length = pn) :
    Calls Try.prog 8 #[.slice A n cap, i6 most, pV pA pT (.slice ps pn pc) pL] w fun e w' => e = .returned (.bool true) ∧ Below w.heap.size w w' := by
  have HV := Lib.hid hv
  have HN := Lib.hid hn
  have HNO := Lib.hid hno
  have HP := Lib.hid hp
  have HPN := Lib.hid hpn
  clear hv hn hno hp hpn
  obtain ⟨i0, hi, hz0, hz1, hz2⟩ := info_parts info_i64
  by_cases hl : 100 < n
  · have hl' : (100 : Int) < n := by omega
    go_enter Try.func8, Try.ntmps8
    go_wp2_with fail
    refine (awake42 _).mono ?_
    rintro e w1 ⟨rfl, hb⟩
    go_wp2_with fail
    go_returns
    exact ⟨by first | rfl | (simp; done), q_step (by (repeat' (first | with_reducible exact Below.refl _ _ | with_reducible assumption | with_reducible refine q_alloc ?_ _ | with_reducible refine q_drew ?_ | with_reducible refine q_drewN _ ?_ | with_reducible refine q_setCell ?_ ?_ _ | (left; simp; done) | (right; simp; done) | (right; dsimp only; omega) | (left; dsimp only; omega)))) hb⟩
  have hl' : ¬ (100 : Int) < n := by omega
  by_cases hl2 : 100 < pn
  · have hl2' : (100 : Int) < pn := by omega
    go_enter Try.func8, Try.ntmps8
    go_wp2_with fail
    refine (awake42 _).mono ?_
    rintro e w1 ⟨rfl, hb⟩
    go_wp2_with fail
    go_returns
    exact ⟨by first | rfl | (simp; done), q_step (by (repeat' (first | with_reducible exact Below.refl _ _ | with_reducible assumption | with_reducible refine q_alloc ?_ _ | with_reducible refine q_drew ?_ | with_reducible refine q_drewN _ ?_ | with_reducible refine q_setCell ?_ ?_ _ | (left; simp; done) | (right; simp; done) | (right; dsimp only; omega) | (left; dsimp only; omega)))) hb⟩
  have hl2' : ¬ (100 : Int) < pn := by omega
  have hln : n ≤ 400 := by omega
  go_enter Try.func8, Try.ntmps8
  go_upto_region 3 with fail
  refine code_world (fun W => Below w.heap.size w W ∧ Blk W w.heap.size [.bool pA, i6 pT, .slice ps pn pc, .bool pL]) ⟨by (repeat' (first | with_reducible exact Below.refl _ _ | with_reducible assumption | with_reducible refine q_alloc ?_ _ | with_reducible refine q_drew ?_ | with_reducible refine q_drewN _ ?_ | with_reducible refine q_setCell ?_ ?_ _ | (left; simp; done) | (right; simp; done) | (right; dsimp only; omega) | (left; dsimp only; omega))), Blk.new rfl⟩ ?_
  intro W1 ⟨J1, b1⟩
  have zp := b1.lt
  obtain ⟨pb, hpb⟩ : ∃ pb, pb = w.heap.size := ⟨_, rfl⟩
  rw [← hpb] at b1 zp ⊢
  have HPB := Lib.hid hpb
  have HB1 := Lib.hid b1
  clear hpb b1
  have hlit := own_lit0 W1 W1.heap.size (Nat.le_refl _)
  have hin : IsInts (W1.alloc (.cells #[] 2)) .i64 (.slice A n cap) us := isI_ints (HV.out.below (q_alloc J1 _))
  have HIN := Lib.hid hin
  have HLI := Lib.hid hlit
  clear hin hlit
  go_wp2_with (first | (at_builtin; refine wpList_append_ints rfl _ _ 22 rfl W1.heap.size 2 i0 (i6 0) 8 .i64 und_i64s hi hz0 hz1 hz2 rfl (.slice (some ⟨W1.heap.size, 0, none⟩) 0 0) 0 [] rfl HLI.out A n cap us rfl HIN.out HN.out HNO.out ?c1 ?c2 ?c3 ?_))
  case c1 => have := HN.out; unfold maxLen; omega
  case c2 => have := HN.out; omega
  intro v' w2 hown hgr _
  have hown : w2.ownsRow W1.heap.size 2 1 v' n (us.map i6) := by rw [HN.out] at hown; exact hown
  have J12 : Below W1.heap.size W1 w2 := ((Below.refl _ _).alloc (Nat.le_refl _) _).grown hgr (by simp) (fun j hj => (HLI.out.lt j hj).1)
  have J2 : Below w.heap.size w w2 := q_step J1 J12
  have hP2 := HB1.out.below J12
  obtain ⟨oa, oc, rfl⟩ : ∃ oa oc, v' = .slice oa n oc := by
    rcases Joins.ownsRow_forms hown with ⟨rfl, h0⟩ | ⟨g, c, rfl⟩
    · exact ⟨none, 0, by rw [h0]⟩
    · exact ⟨_, _, rfl⟩
  have HO2 := Lib.hid hown
  have hio : IsI w2 (.slice oa n oc) us := by
    have h := hown
    rw [← HN.out] at h ⊢
    exact ownL_is h
  have HIO := Lib.hid hio
  have hbo : n = 0 ∨ ∃ og, oa = some ⟨og, 0, none⟩ ∧ W1.heap.size ≤ og ∧ og < w2.heap.size ∧ CellsAt w2 og n := by
    by_cases h0 : n = 0
    · exact Or.inl h0
    · obtain ⟨g, c, e⟩ := Joins.ownsRow_form hown (by omega)
      simp only [Value.slice.injEq] at e
      obtain ⟨rfl, -, rfl⟩ := e
      exact Or.inr ⟨g, rfl, (hown.lt g rfl).1, (hown.lt g rfl).2, own_cells hown⟩
  have HBO := Lib.hid hbo
  have HP2 := Lib.hid hP2
  have HJ2 := Lib.hid J2
  have hz12 : W1.heap.size ≤ w2.heap.size := J12.size
  have hz01 : w.heap.size < W1.heap.size := by have := HPB.out; omega
  clear hown hgr hio hbo hP2 J1 HB1 HIN HLI J12 HO2
  by_cases hm : most < 1 ∨ 16382 < most
  · go_wp2_with fail
    refine (new_size _ most _ hm).mono ?_
    rintro e w3 ⟨rfl, hb⟩
    go_wp2_with fail
    refine (awake42 _).mono ?_
    rintro e w4 ⟨rfl, hb4⟩
    go_wp2_with fail
    go_returns
    exact ⟨by first | rfl | (simp; done), q_step (q_step HJ2.out (by first | with_reducible exact q_alloc hb _ | (repeat' (first | with_reducible exact Below.refl _ _ | with_reducible assumption | with_reducible refine q_alloc ?_ _ | with_reducible refine q_drew ?_ | with_reducible refine q_drewN _ ?_ | with_reducible refine q_setCell ?_ ?_ _ | (left; simp; done) | (right; simp; done) | (right; dsimp only; omega) | (left; dsimp only; omega))))) hb4⟩
  obtain ⟨m, rfl⟩ : ∃ m : Nat, most = (m : Int) := ⟨most.toNat, by omega⟩
  have hm1 : 1 ≤ m := by omega
  have hm3 : m ≤ 16382 := by omega
  clear hm
  go_wp2_with fail
  refine (new_own _ us (m : Int) _ HIO.out (by omega) (by omega) (by rw [HN.out]; omega)).mono ?_
  rintro e w3 ⟨hor, hb⟩
  rcases hor with ⟨_, rfl⟩ | ⟨hok, dv, rfl, hnew, hid⟩
  · go_wp2_with fail
    refine (awake42 _).mono ?_
    rintro e w4 ⟨rfl, hb4⟩
    go_wp2_with fail
    go_returns
    exact ⟨by first | rfl | (simp; done), q_step (q_step HJ2.out (by first | with_reducible exact q_alloc hb _ | (repeat' (first | with_reducible exact Below.refl _ _ | with_reducible assumption | with_reducible refine q_alloc ?_ _ | with_reducible refine q_drew ?_ | with_reducible refine q_drewN _ ?_ | with_reducible refine q_setCell ?_ ?_ _ | (left; simp; done) | (right; simp; done) | (right; dsimp only; omega) | (left; dsimp only; omega))))) hb4⟩
  have HOK := Lib.hid hok
  obtain ⟨dg, dm, dc, rfl, hdg⟩ := hnew
  obtain ⟨x, y, e1, hdl⟩ := isI_form hid
  simp only [Value.slice.injEq] at e1
  obtain ⟨rfl, rfl, rfl⟩ := e1
  obtain ⟨P, hP, hcnt⟩ := cnt_of us.length m hm1
  rw [hP]
  rw [HN.out] at hcnt hid ⊢
  have HC := Lib.hid hcnt
  have HID := Lib.hid hid
  have had : ∀ r, w3.heap.size ≤ r → Apart r (.slice (some ⟨dg, 0, none⟩) n dc) us := fun r hr => apart_old hid hr
  have HAD := Lib.hid had
  have hP1 := (cnt_le hm1 hcnt).1
  have hz23 : w2.heap.size ≤ w3.heap.size := hb.size
  have HP3 := Lib.hid (HP2.out.below hb)
  have hbo3 : n = 0 ∨ ∃ og, oa = some ⟨og, 0, none⟩ ∧ W1.heap.size ≤ og ∧ og < w2.heap.size ∧ CellsAt w3 og n := by
    rcases HBO.out with h | ⟨og, h1, h2, h3, h4⟩
    · exact Or.inl h
    · exact Or.inr ⟨og, h1, h2, h3, h4.below hb⟩
  have HBO3 := Lib.hid hbo3
  clear hok hdl hP hcnt hid had hbo3 HBO HP2
  go_upto_region 5 with fail
  refine code_world (fun W => Below w.heap.size w W ∧ Below w3.heap.size w3 W ∧ Blk W w3.heap.size [.slice (some ⟨dg, 0, none⟩) n dc, i6 m, i6 0, i6 P]) ⟨q_step (q_step HJ2.out hb) (by (repeat' (first | with_reducible exact Below.refl _ _ | with_reducible assumption | with_reducible refine q_alloc ?_ _ | with_reducible refine q_drew ?_ | with_reducible refine q_drewN _ ?_ | with_reducible refine q_setCell ?_ ?_ _ | (left; simp; done) | (right; simp; done) | (right; dsimp only; omega) | (left; dsimp only; omega)))), by (repeat' (first | with_reducible exact Below.refl _ _ | with_reducible assumption | with_reducible refine q_alloc ?_ _ | with_reducible refine q_drew ?_ | with_reducible refine q_drewN _ ?_ | with_reducible refine q_setCell ?_ ?_ _ | (left; simp; done) | (right; simp; done) | (right; dsimp only; omega) | (left; dsimp only; omega))), Blk.new rfl⟩ ?_
  intro W4 ⟨J4, K4, g4⟩
  have hgz : w3.heap.size < W4.heap.size := g4.lt
  obtain ⟨gb, hgb⟩ : ∃ gb, gb = w3.heap.size := ⟨_, rfl⟩
  rw [← hgb] at g4 ⊢
  have HGB := Lib.hid hgb
  have HJ4 := Lib.hid J4
  have HP4 := Lib.hid (HP3.out.below K4)
  have HI4 := Lib.hid (HID.out.below K4)
  have HBO4 : Hid (n = 0 ∨ ∃ og, oa = some ⟨og, 0, none⟩ ∧ W1.heap.size ≤ og ∧ og < w2.heap.size ∧ CellsAt W4 og n) := Lib.hid (by
    rcases HBO3.out with h | ⟨og, h1, h2, h3, h4⟩
    · exact Or.inl h
    · exact Or.inr ⟨og, h1, h2, h3, h4.below K4⟩)
  have HG4 := Lib.hid g4
  have d0 := g4.cell 0 rfl
  have d1 := g4.cell 1 rfl
  have d2 := g4.cell 2 rfl
  have d3 := g4.cell 3 rfl
  clear J4 K4 g4 hb hgb HID HP3 HBO3 HJ2
  go_wp2_with fail
  refine (put_zero (some ⟨dg, 0, none⟩) dc us n m P _ HN.out HI4.out hln hm1 HC.out).mono ?_
  rintro e w5 ⟨va, vc, vn, rfl, hvn, hiv, HVN, hb⟩
  have HIV := Lib.hid hiv
  have HVL := Lib.hid hvn
  clear d0 d1 d2 d3 hiv hvn
  go_upto_region 8 with fail
  refine code_world (fun W => Below W4.heap.size W4 W ∧ Below w5.heap.size w5 W ∧ Blk W w5.heap.size [.bool (readA (pk P 0)), i6 (pt n P 0), .slice va vn vc, .bool (readB (pk P 0))]) ⟨q_step hb (by (repeat' (first | with_reducible exact Below.refl _ _ | with_reducible assumption | with_reducible refine q_alloc ?_ _ | with_reducible refine q_drew ?_ | with_reducible refine q_drewN _ ?_ | with_reducible refine q_setCell ?_ ?_ _ | (left; simp; done) | (right; simp; done) | (right; dsimp only; omega) | (left; dsimp only; omega)))), by (repeat' (first | with_reducible exact Below.refl _ _ | with_reducible assumption | with_reducible refine q_alloc ?_ _ | with_reducible refine q_drew ?_ | with_reducible refine q_drewN _ ?_ | with_reducible refine q_setCell ?_ ?_ _ | (left; simp; done) | (right; simp; done) | (right; dsimp only; omega) | (left; dsimp only; omega))), Blk.new rfl⟩ ?_
  intro W6 ⟨J6, K6, a6⟩
  have hz45 : W4.heap.size ≤ w5.heap.size := hb.size
  obtain ⟨ab, hab⟩ : ∃ ab, ab = w5.heap.size := ⟨_, rfl⟩
  rw [← hab] at a6 ⊢
  have HAB := Lib.hid hab
  have HJ6 := Lib.hid J6
  have HK6 := Lib.hid K6
  have hq6 := q_step HJ4.out J6
  have g6 := HG4.out.below J6
  have p6 := HP4.out.below J6
  have i6a := HI4.out.below J6
  have i6b := HIV.out.below K6
  have bo6 : n = 0 ∨ ∃ og, oa = some ⟨og, 0, none⟩ ∧ W1.heap.size ≤ og ∧ og < w2.heap.size ∧ CellsAt W6 og n := by
    rcases HBO4.out with h | ⟨og, h1, h2, h3, h4⟩
    · exact Or.inl h
    · exact Or.inr ⟨og, h1, h2, h3, h4.below J6⟩
  have HQ6 := Lib.hid hq6
  have HG6 := Lib.hid g6
  have HP6 := Lib.hid p6
  have HA6 := Lib.hid a6
  have HD6 := Lib.hid i6a
  have HE6 := Lib.hid i6b
  have HB6 := Lib.hid bo6
  clear J6 K6 a6 hab hq6 g6 p6 i6a i6b bo6 hb HIV HG4 HP4 HI4 HBO4
  have hvc : vn = 0 ∨ ∃ g, va = some ⟨g, 0, none⟩ ∧ W4.heap.size ≤ g ∧ g < w5.heap.size ∧ CellsAt W6 g vn := by
    rcases HVN.out with h | ⟨g, h1, h2, h3⟩
    · exact Or.inl h
    · by_cases h0 : vn = 0
      · exact Or.inl h0
      · obtain ⟨⟨u, hu⟩, _⟩ := h3 0 (by omega)
        exact Or.inr ⟨g, h1, h2, block_lt_of_cell hu, h3.below HK6.out⟩
  have HV6 := Lib.hid hvc
  have nab : ab = w5.heap.size := HAB.out
  have ngb : gb = w3.heap.size := HGB.out
  have npb : pb = w.heap.size := HPB.out
  have oag : ∀ g, W1.heap.size ≤ g → g < w2.heap.size → g ≠ gb ∧ g ≠ pb ∧ g ≠ ab ∧ g ≠ dg ∧ w.heap.size ≤ g := fun g h1 h2 => by refine ⟨?_, ?_, ?_, ?_, ?_⟩ <;> omega
  have vag : ∀ g, W4.heap.size ≤ g → g < w5.heap.size → g ≠ gb ∧ g ≠ pb ∧ g ≠ ab ∧ w3.heap.size ≤ g ∧ w.heap.size ≤ g := fun g h1 h2 => by refine ⟨?_, ?_, ?_, ?_, ?_⟩ <;> omega
  have OAG := Lib.hid oag
  have VAG := Lib.hid vag
  clear hvc nab ngb npb oag vag HVN HK6
  go_wp2_with fail
  go_loopw [12] (fun i wr => ∃ k : Nat, k ≤ n ∧ i = .int .i64 k ∧ Blk wr gb [.slice (some ⟨dg, 0, none⟩) n dc, i6 m, i6 0, i6 P] ∧ Blk wr pb [.bool pA, i6 pT, .slice ps pn pc, .bool pL] ∧ Blk wr ab [.bool (readA (pk P 0)), i6 (pt n P 0), .slice va vn vc, .bool (readB (pk P 0))] ∧ IsI wr (.slice (some ⟨dg, 0, none⟩) n dc) us ∧ Hid (n = 0 ∨ ∃ og, oa = some ⟨og, 0, none⟩ ∧ W1.heap.size ≤ og ∧ og < w2.heap.size ∧ CellsAt wr og n) ∧ Hid (vn = 0 ∨ ∃ g, va = some ⟨g, 0, none⟩ ∧ W4.heap.size ≤ g ∧ g < w5.heap.size ∧ CellsAt wr g vn) ∧ Below w.heap.size w wr)
    (fun i _ => n - (intOf i).toNat)
  case atStart => exact ⟨0, Nat.zero_le _, rfl, HG6.out, HP6.out, HA6.out, HD6.out, HB6, HV6, HQ6.out⟩
  case round =>
    obtain ⟨k, hk, rfl, bg, bp, ba, id, HO, HVC, hq⟩ := hrel
    have HBG := Lib.hid bg
    have HBP := Lib.hid bp
    have HBA := Lib.hid ba
    have HID := Lib.hid id
    have HQ := Lib.hid hq
    clear bg bp ba id hq
    by_cases hlt : k < n
    · have hki : (k : Int) < n := by omega
      rcases HO.out with h | ⟨og, rfl, ho1, ho2, hca⟩
      · omega
      obtain ⟨⟨u, y0⟩, f0⟩ := hca k hlt
      have HCA := Lib.hid hca
      obtain ⟨n1, n2, n3, n4, n5⟩ := OAG.out og ho1 ho2
      have zo := block_lt_of_cell y0
      dsimp only at zo
      clear hca
      go_wp2_with fail
      go_roundw
      case rel => exact ⟨k + 1, by omega, by go_num, HBG.out.set_far (by dsimp only; exact n1) _, HBP.out.set_far (by dsimp only; exact n2) _, HBA.out.set_far (by dsimp only; exact n3) _, HID.out.setA (Or.inr ⟨dg, 0, n, dc, rfl, Ne.symm n4⟩) k _, Lib.hid (Or.inr ⟨og, rfl, ho1, ho2, HCA.out.set 0⟩), Lib.hid (by
        rcases HVC.out with h | ⟨g, h1, h2, h3, h4⟩
        · exact Or.inl h
        · exact Or.inr ⟨g, h1, h2, h3, h4.far (by omega) k _⟩), q_setCell HQ.out (Or.inr n5) _⟩
      case measure => simp [intOf] <;> omega
    · obtain rfl : k = n := by omega
      clear HO
      have a2 := HBA.out.cell 2 rfl
      have za := HBA.out.lt
      go_upto_if 59 with fail
      go_cut [] from 56 to 68 (fun wx => Blk wx gb [.slice (some ⟨dg, 0, none⟩) k dc, i6 m, i6 0, i6 P] ∧ Blk wx pb [.bool pA, i6 pT, .slice ps pn pc, .bool pL] ∧ IsI wx (.slice (some ⟨dg, 0, none⟩) k dc) us ∧ Below w.heap.size w wx)
      case first =>
        by_cases hv1 : 0 < vn
        rotate_left
        · have hv0 : ¬ (0 : Int) < (vn : Int) := by omega
          go_wp2_with fail
          go_meet
          exact ⟨HBG.out, HBP.out, HID.out, HQ.out⟩
        · have hv0 : (0 : Int) < (vn : Int) := by omega
          rcases HVC.out with h | ⟨g, rfl, hg1, hg2, hca⟩
          · omega
          obtain ⟨⟨u, y0⟩, f0⟩ := hca 0 hv1
          obtain ⟨n1, n2, n3, n4, n5⟩ := VAG.out g hg1 hg2
          have hap := HAD.out g n4
          have HAP := Lib.hid hap
          clear hca hap
          go_wp2_with fail
          go_region
          all_goals
            go_wp2_with fail
            go_meet
            first
              | exact ⟨HBG.out.set_far (by dsimp only; exact n1) _, HBP.out.set_far (by dsimp only; exact n2) _, HID.out.setA HAP.out 0 _, q_setCell HQ.out (Or.inr n5) _⟩
              | exact ⟨HBG.out.drew.set_far (by dsimp only; exact n1) _, HBP.out.drew.set_far (by dsimp only; exact n2) _, (HID.out.below (Below.refl _ _).drew).setA HAP.out 0 _, q_setCell (q_drew HQ.out) (Or.inr n5) _⟩
      case rest =>
        obtain ⟨bg, bp, id, hq⟩ := hcut
        obtain ⟨W7, rfl⟩ : ∃ W : World, W = wc := ⟨_, rfl⟩
        clear a2 za HBG HBP HBA HID HQ HVC
        have HBP := Lib.hid bp
        have HID := Lib.hid id
        have HQ := Lib.hid hq
        have d0 := bg.cell 0 rfl
        have d1 := bg.cell 1 rfl
        have d2 := bg.cell 2 rfl
        have d3 := bg.cell 3 rfl
        clear bg bp id hq
        go_wp2_with fail
        refine (put_zero (some ⟨dg, 0, none⟩) dc us k m P _ HN.out HID.out hln hm1 HC.out).mono ?_
        rintro e w8 ⟨vb, vd, vm, rfl, hvm, hib, _, hb⟩
        have HIB := Lib.hid hib
        have HVM := Lib.hid hvm
        clear d0 d1 d2 d3 hib hvm
        go_upto_region 15 with fail
        refine code_world (fun W => Below W7.heap.size W7 W ∧ Blk W w8.heap.size [.bool (readA (pk P 0)), i6 (pt k P 0), .slice vb vm vd, .bool (readB (pk P 0))] ∧ IsI W (.slice vb vm vd) (pd us m P 0)) ⟨q_step hb (by (repeat' (first | with_reducible exact Below.refl _ _ | with_reducible assumption | with_reducible refine q_alloc ?_ _ | with_reducible refine q_drew ?_ | with_reducible refine q_drewN _ ?_ | with_reducible refine q_setCell ?_ ?_ _ | (left; simp; done) | (right; simp; done) | (right; dsimp only; omega) | (left; dsimp only; omega)))), Blk.new rfl, HIB.out.below (by (repeat' (first | with_reducible exact Below.refl _ _ | with_reducible assumption | with_reducible refine q_alloc ?_ _ | with_reducible refine q_drew ?_ | with_reducible refine q_drewN _ ?_ | with_reducible refine q_setCell ?_ ?_ _ | (left; simp; done) | (right; simp; done) | (right; dsimp only; omega) | (left; dsimp only; omega))))⟩ ?_
        intro W9 ⟨J9, b9, i9⟩
        generalize w8.heap.size = bb at b9 ⊢
        have hq9 := q_step HQ.out J9
        have HQ9 := Lib.hid hq9
        have HB9 := Lib.hid b9
        have HI9 := Lib.hid i9
        have HP9 := Lib.hid (HBP.out.below J9)
        clear hq9 b9 i9 J9 hb HIB HBP HID HQ
        go_wp2_with fail
        refine (rall_ok A k cap us m P w HV.out _ HN.out (HV.out.below HQ9.out) hm1 hm3 hln HOK.out HC.out).mono ?_
        rintro e w10 ⟨wg, wcap, rfl, hps, hb⟩
        obtain ⟨wg', wcap', dvs, e1, _, _, hrows, hdat⟩ := hps
        simp only [Value.slice.injEq, Option.some.injEq, Addr.mk.injEq, and_true, true_and] at e1
        obtain ⟨rfl, rfl⟩ := e1
        have x0 := stick (hrows 0 (by omega) 0 _ rfl)
        have x1 := stick (hrows 0 (by omega) 1 _ rfl)
        have x2 := stick (hrows 0 (by omega) 2 _ rfl)
        have x3 := stick (hrows 0 (by omega) 3 _ rfl)
        simp only [Nat.zero_mul, Nat.zero_add] at x0 x1 x2 x3
        have HDAT := Lib.hid (hdat 0 (by omega))
        obtain ⟨ea, ec, eda, _⟩ := isI_form HDAT.out
        rw [eda] at x2 HDAT
        generalize hpl : (pd us m P 0).length = pl at x2 HDAT eda
        have HPL := Lib.hid hpl
        have HJ10 := Lib.hid hb
        have b10 := HB9.out.below hb
        have y0 := stick (b10.cell 0 rfl)
        have y1 := stick (b10.cell 1 rfl)
        have y2 := stick (b10.cell 2 rfl)
        have y3 := stick (b10.cell 3 rfl)
        have HI10 := Lib.hid (HI9.out.below hb)
        have HP10 := Lib.hid (HP9.out.below hb)
        have HQ10 := Lib.hid (q_step HQ9.out hb)
        have hP0 : (0 : Int) < (P : Int) := by omega
        have hP0' : 0 < P := by omega
        clear hrows hdat eda hpl hb b10 HB9 HI9 HP9 HQ9 HJ10
        have J : Below w10.heap.size w10 w10 := Below.refl _ _
        go_upto_region 16 with fail
        go_cut [89] from 73 to 90 (fun s wx => s = .bool false ∧ Below w10.heap.size w10 wx)
        case first =>
          go_region_held3 (fun w' => Below w10.heap.size w10 w')
            (first | with_reducible exact J | with_reducible exact J.drew | ((repeat' (first | with_reducible exact Below.refl _ _ | with_reducible assumption | with_reducible refine q_alloc ?_ _ | with_reducible refine q_drew ?_ | with_reducible refine q_drewN _ ?_ | with_reducible refine q_setCell ?_ ?_ _ | (left; simp; done) | (right; simp; done) | (right; dsimp only; omega) | (left; dsimp only; omega))); done))
            (first
              | (go_at_call 16; refine (of_any _ _ (.slice vb vm vd) _ _ ⟨_, _, _, rfl⟩).mono ?_; rintro e w7 ⟨rfl, hb⟩; have J5 : Below w10.heap.size w10 w7 := q_step (by first | with_reducible exact J | with_reducible exact J.drew | ((repeat' (first | with_reducible exact Below.refl _ _ | with_reducible assumption | with_reducible refine q_alloc ?_ _ | with_reducible refine q_drew ?_ | with_reducible refine q_drewN _ ?_ | with_reducible refine q_setCell ?_ ?_ _ | (left; simp; done) | (right; simp; done) | (right; dsimp only; omega) | (left; dsimp only; omega))); done)) hb; replace J := J5; clear J5 hb)
              | (go_at_call 15; refine (sameP_any _ _ (.slice vb vm vd) (.slice ea pl ec) _ (pd us m P 0) _ (HI10.out.below (by first | with_reducible exact J | with_reducible exact J.drew | ((repeat' (first | with_reducible exact Below.refl _ _ | with_reducible assumption | with_reducible refine q_alloc ?_ _ | with_reducible refine q_drew ?_ | with_reducible refine q_drewN _ ?_ | with_reducible refine q_setCell ?_ ?_ _ | (left; simp; done) | (right; simp; done) | (right; dsimp only; omega) | (left; dsimp only; omega))); done))) (HDAT.out.below (q_step HQ10.out (by first | with_reducible exact J | with_reducible exact J.drew | ((repeat' (first | with_reducible exact Below.refl _ _ | with_reducible assumption | with_reducible refine q_alloc ?_ _ | with_reducible refine q_drew ?_ | with_reducible refine q_drewN _ ?_ | with_reducible refine q_setCell ?_ ?_ _ | (left; simp; done) | (right; simp; done) | (right; dsimp only; omega) | (left; dsimp only; omega))); done)))) (by have := pd_le us m P 0; have := HN.out; omega)).mono ?_; rintro e w7 ⟨rfl, hb⟩; have J5 : Below w10.heap.size w10 w7 := q_step (by first | with_reducible exact J | with_reducible exact J.drew | ((repeat' (first | with_reducible exact Below.refl _ _ | with_reducible assumption | with_reducible refine q_alloc ?_ _ | with_reducible refine q_drew ?_ | with_reducible refine q_drewN _ ?_ | with_reducible refine q_setCell ?_ ?_ _ | (left; simp; done) | (right; simp; done) | (right; dsimp only; omega) | (left; dsimp only; omega))); done)) hb; replace J := J5; clear J5 hb))
          all_goals (go_wp2_with fail; go_meet; exact ⟨by first | rfl | (simp; done), by (repeat' (first | with_reducible exact Below.refl _ _ | with_reducible assumption | with_reducible refine q_alloc ?_ _ | with_reducible refine q_drew ?_ | with_reducible refine q_drewN _ ?_ | with_reducible refine q_setCell ?_ ?_ _ | (left; simp; done) | (right; simp; done) | (right; dsimp only; omega) | (left; dsimp only; omega)))⟩)
        case rest =>
          obtain ⟨rfl, J4⟩ := hcut
          obtain ⟨W11, rfl⟩ : ∃ W : World, W = wc := ⟨_, rfl⟩
          clear J x0 x1 x2 x3 y0 y1 y2 y3
          have hq11 := q_step HQ10.out J4
          have HP11 := Lib.hid (HP10.out.below J4)
          have HQ11 := Lib.hid hq11
          clear hq11 J4 HP10 HI10 HDAT
          go_upto_region 19 with fail
          refine code_world (fun W => Below w.heap.size w W ∧ Below W11.heap.size W11 W ∧ Blk W W11.heap.size [i6 0, i6 0, .slice none 0 0] ∧ Blk W pb [.bool pA, i6 pT, .slice ps pn pc, .bool pL]) ⟨q_step HQ11.out (by (repeat' (first | with_reducible exact Below.refl _ _ | with_reducible assumption | with_reducible refine q_alloc ?_ _ | with_reducible refine q_drew ?_ | with_reducible refine q_drewN _ ?_ | with_reducible refine q_setCell ?_ ?_ _ | (left; simp; done) | (right; simp; done) | (right; dsimp only; omega) | (left; dsimp only; omega)))), by (repeat' (first | with_reducible exact Below.refl _ _ | with_reducible assumption | with_reducible refine q_alloc ?_ _ | with_reducible refine q_drew ?_ | with_reducible refine q_drewN _ ?_ | with_reducible refine q_setCell ?_ ?_ _ | (left; simp; done) | (right; simp; done) | (right; dsimp only; omega) | (left; dsimp only; omega))), Blk.new rfl, HP11.out.below (by (repeat' (first | with_reducible exact Below.refl _ _ | with_reducible assumption | with_reducible refine q_alloc ?_ _ | with_reducible refine q_drew ?_ | with_reducible refine q_drewN _ ?_ | with_reducible refine q_setCell ?_ ?_ _ | (left; simp; done) | (right; simp; done) | (right; dsimp only; omega) | (left; dsimp only; omega))))⟩ ?_
          intro W12 ⟨J12, K12, k12, p12⟩
          generalize W11.heap.size = kb at k12 ⊢
          have c0 := k12.cell 0 rfl
          have c1 := k12.cell 1 rfl
          have c2 := k12.cell 2 rfl
          have e0 := p12.cell 0 rfl
          have e1 := p12.cell 1 rfl
          have e2 := p12.cell 2 rfl
          have e3 := p12.cell 3 rfl
          have HK12 := Lib.hid k12
          have HQ12 := Lib.hid J12
          clear k12 p12 K12
          go_wp2_with fail
          refine (got_any 0 0 (.slice none 0 0) [] pA pT (.slice ps pn pc) pL ds _ (isI_zero _) (HP.out.below HQ12.out) (by simp) (by rw [HPN.out]; omega)).mono ?_
          rintro e w13 ⟨kv', rfl, _, _, hb⟩
          have J13 := q_step HQ12.out hb
          have k13 := HK12.out.below hb
          clear c0 c1 c2 e0 e1 e2 e3 hb J12
          have c0 := k13.cell 0 rfl
          have c1 := k13.cell 1 rfl
          have c2 := k13.cell 2 rfl
          clear k13
          go_wp2_with fail
          refine (data_k 0 0 none 0 0 [] _ rfl (isI_zero _) (by simp)).mono ?_
          rintro e w14 ⟨xa, xc, rfl, _, hb⟩
          have J14 := q_step J13 hb
          clear c0 c1 c2 hb J13
          go_wp2_with fail
          refine (awake42 _).mono ?_
          rintro e w15 ⟨rfl, hb⟩
          go_wp2_with fail
          go_returns
          exact ⟨by first | rfl | (simp; done), q_step J14 hb⟩
end Go.Proofs.Ytlaejolgjchfcaa
