/- Layer 42: the reference's Read of a row that may be right. -/
import Derived.Test.YtlaejolgjchfcaaPc11
namespace Go.Proofs.Ytlaejolgjchfcaa
open Go Go.RowKit
set_option linter.unusedSimpArgs false
set_option linter.unusedVariables false
set_option maxRecDepth 100000 in
set_option maxHeartbeats 4000000 in
theorem rread_ok0 (v : Value) (t : Int) (us : List Int) (w : World) (hv : IsI w v (0 :: t :: us)) (hl : us.length ≤ 900000) (ht0 : 0 ≤ t) (ht1 : t ≤ 65536) :
    Calls Try.prog 26 #[v] w fun e w' => (kindZ (readA 0) t us.length (readB 0) (numsB us) = 0 ∧ (∃ pv, e = .returned (.tuple #[pV (readA 0) t pv (readB 0), i6 0]) ∧ IsI w' pv us) ∨ kindZ (readA 0) t us.length (readB 0) (numsB us) ≠ 0 ∧ e = .returned (.tuple #[pV false 0 (.slice none 0 0) false, i6 2])) ∧ Below w.heap.size w w' := by
  obtain ⟨a, cap, rfl, hf⟩ := isI_form hv
  obtain ⟨b, off, rfl, h2, _, h4, h5⟩ := hf (by simp)
  obtain ⟨sv, hsl, hsv⟩ := slice_low _ _ cap 2 (0 :: t :: us) w hv rfl (by simp)
  replace hsv : IsI w sv us := hsv
  have hsl2 : ∀ w, (Instr.slice 22 (.slice (some ⟨b, off, none⟩) (0 :: t :: us).length cap) (some (.int .i64 2)) none none).run Try.prog w = .ok sv w := hsl
  clear hsl
  obtain ⟨sa, sc, rfl, _⟩ := isI_form hsv
  have x0 := stick (h5 0 0 rfl)
  have x1 := stick (h5 1 t rfl)
  rw [Nat.add_zero] at x0
  have J : Below w.heap.size w w := Below.refl _ _
  have d0 := x0 _ J
  have zb := block_lt_of_cell d0
  dsimp only at zb
  clear d0
  have hn : ¬ (((0 :: t :: us).length : Nat) : Int) < 2 := by simp <;> omega
  have hp : (0 : Int) < (((0 :: t :: us).length : Nat) : Int) := by simp <;> omega
  have hp1 : (1 : Int) < (((0 :: t :: us).length : Nat) : Int) := by simp <;> omega
  have hp2 : (2 : Int) ≤ (((0 :: t :: us).length : Nat) : Int) := by simp <;> omega
  have hm0 : 0 < (0 :: t :: us).length := by simp
  have hm1 : 1 < (0 :: t :: us).length := by simp
  have hm2 : 2 ≤ (0 :: t :: us).length := by simp
  generalize (0 :: t :: us).length = n at hn hp hp1 hp2 hm0 hm1 hm2 hsl2 ⊢
  have HSV := Lib.hid hsv
  have ht2 : ¬ t < 0 := by omega
  have ht3 : ¬ 65536 < t := by omega
  obtain ⟨KK, hKK⟩ : ∃ KK, kindZ (readA 0) t us.length (readB 0) (numsB us) = KK := ⟨_, rfl⟩
  rw [hKK]
  have HKK := Lib.hid hKK
  have HL := Lib.hid hl
  clear hv hf h5 hsv h2 h4 hKK hl
  obtain ⟨RA, hRA⟩ : ∃ x, readA 0 = x := ⟨_, rfl⟩
  obtain ⟨RB, hRB⟩ : ∃ x, readB 0 = x := ⟨_, rfl⟩
  rw [hRA, hRB]
  have HRA : RA = false := by rw [← hRA]; simp [readA]
  have HRB : RB = true := by rw [← hRB]; simp [readB]
  rw [hRA, hRB] at HKK
  clear hRA hRB
  subst HRA HRB
  go_enter Try.func26, Try.ntmps26
  go_upto_region 7 with fail
  refine code_world (fun W => Below w.heap.size w W ∧ Blk W w.heap.size [.bool false, i6 0, .slice none 0 0, .bool false]) ⟨by (repeat' (first | with_reducible exact Below.refl _ _ | with_reducible assumption | with_reducible refine q_alloc ?_ _ | with_reducible refine q_drew ?_ | with_reducible refine q_drewN _ ?_ | with_reducible refine q_setCell ?_ ?_ _ | (left; simp; done) | (right; simp; done) | (right; dsimp only; omega) | (left; dsimp only; omega))), Blk.new rfl⟩ ?_
  intro W1 ⟨J1, b1⟩
  clear J
  have zb1 := block_lt_of_cell (x0 _ J1)
  dsimp only at zb1
  have HJ1 := Lib.hid J1
  have HB1 := Lib.hid b1
  have c0 := x0 _ J1
  have c1 := x1 _ J1
  have c0a : ∀ o, (W1.alloc o).cell? ⟨b, off, none⟩ = some (i6 0) := fun o => x0 _ (q_alloc J1 o)
  have c1a : ∀ o, (W1.alloc o).cell? ⟨b, off + 1, none⟩ = some (i6 t) := fun o => x1 _ (q_alloc J1 o)
  have X0 := Lib.hid x0
  clear x0 x1 J1 b1
  go_cut [4] from 31 (fun p wx => ∃ c, p = .pointer (some ⟨c, 0, none⟩) ∧ Below W1.heap.size W1 wx ∧ Blk wx c [.bool false, i6 t, .slice sa us.length sc, .bool true])
  case first =>
    go_region
    all_goals (go_wp2_with fail; go_meet; exact ⟨_, rfl, by (repeat' (first | with_reducible exact Below.refl _ _ | with_reducible assumption | with_reducible refine q_alloc ?_ _ | with_reducible refine q_drew ?_ | with_reducible refine q_drewN _ ?_ | with_reducible refine q_setCell ?_ ?_ _ | (left; simp; done) | (right; simp; done) | (right; dsimp only; omega) | (left; dsimp only; omega))), Blk.new rfl⟩)
  case rest =>
    obtain ⟨c, rfl, J2, br⟩ := hcut
    obtain ⟨W2, rfl⟩ : ∃ W : World, W = wc := ⟨_, rfl⟩
    have b2 := HB1.out.below J2
    have r0 := stick (br.cell 0 rfl)
    have r1 := stick (br.cell 1 rfl)
    have r2 := stick (br.cell 2 rfl)
    have r3 := stick (br.cell 3 rfl)
    have y0 := fun W h => X0.out W (q_step (q_step HJ1.out J2) h)
    have HB2 := Lib.hid b2
    have HJ2 := Lib.hid (q_step HJ1.out J2)
    have HBR := Lib.hid br
    have J : Below W2.heap.size W2 W2 := Below.refl _ _
    clear c0 c1 c0a c1a X0 b2 br J2 HJ1 HB1
    go_upto_region 8 with fail
    go_cut [56] from 51 (fun s wx => s = .bool (!decide (KK = 0)) ∧ Below W2.heap.size W2 wx)
    case first =>
      go_region_held3 (fun w' => Below W2.heap.size W2 w')
        (first | exact J | exact J.drew | exact q_alloc J _ | exact q_alloc J.drew _ | (exact by (repeat' (first | with_reducible exact Below.refl _ _ | with_reducible assumption | with_reducible refine q_alloc ?_ _ | with_reducible refine q_drew ?_ | with_reducible refine q_drewN _ ?_ | with_reducible refine q_setCell ?_ ?_ _ | (left; simp; done) | (right; simp; done) | (right; dsimp only; omega) | (left; dsimp only; omega)))))
        (first
          | (go_at_call 32; refine (rkind_any false t (.slice sa us.length sc) true us _ ?_ (by have := HL.out; omega)).mono ?_; (exact HSV.out.below (q_step HJ2.out (by first | exact J | exact J.drew | exact q_alloc J _ | exact q_alloc J.drew _ | (exact by (repeat' (first | with_reducible exact Below.refl _ _ | with_reducible assumption | with_reducible refine q_alloc ?_ _ | with_reducible refine q_drew ?_ | with_reducible refine q_drewN _ ?_ | with_reducible refine q_setCell ?_ ?_ _ | (left; simp; done) | (right; simp; done) | (right; dsimp only; omega) | (left; dsimp only; omega))))))); rintro e w5 ⟨rfl, hb⟩; rw [kind_meet, HKK.out]; have J5 : Below W2.heap.size W2 w5 := q_step (by first | exact J | exact J.drew | exact q_alloc J _ | exact q_alloc J.drew _ | (exact by (repeat' (first | with_reducible exact Below.refl _ _ | with_reducible assumption | with_reducible refine q_alloc ?_ _ | with_reducible refine q_drew ?_ | with_reducible refine q_drewN _ ?_ | with_reducible refine q_setCell ?_ ?_ _ | (left; simp; done) | (right; simp; done) | (right; dsimp only; omega) | (left; dsimp only; omega))))) hb; replace J := J5; clear J5 hb))
      all_goals (go_wp2_with fail; go_meet; exact ⟨by first | rfl | (simp; done), by (repeat' (first | with_reducible exact Below.refl _ _ | with_reducible assumption | with_reducible refine q_alloc ?_ _ | with_reducible refine q_drew ?_ | with_reducible refine q_drewN _ ?_ | with_reducible refine q_setCell ?_ ?_ _ | (left; simp; done) | (right; simp; done) | (right; dsimp only; omega) | (left; dsimp only; omega)))⟩)
    case rest =>
      obtain ⟨rfl, J4⟩ := hcut
      obtain ⟨W4, rfl⟩ : ∃ W : World, W = wc := ⟨_, rfl⟩
      have b1 := HB2.out.below J4
      have s0 := r0 _ J4
      have s1 := r1 _ J4
      have s2 := r2 _ J4
      have s3 := r3 _ J4
      clear J r0 r1 r2 r3 y0
      have d0 := b1.cell 0 rfl
      have d1 := b1.cell 1 rfl
      have d2 := b1.cell 2 rfl
      have d3 := b1.cell 3 rfl
      have e0 := b1.froz 0 rfl
      have e1 := b1.froz 1 rfl
      have e2 := b1.froz 2 rfl
      have e3 := b1.froz 3 rfl
      have hqw := q_step HJ2.out J4
      have hsI : IsI W4 (.slice sa us.length sc) us := HSV.out.below hqw
      have HSI := Lib.hid hsI
      have hwb : w.heap.size < W4.heap.size := b1.lt
      clear hsI
      by_cases hkk : KK = 0
      · have hdc : decide (KK = 0) = true := decide_eq_true hkk
        rw [hdc]
        clear hdc
        go_wp2_with fail
        refine body_world (fun W => Below w.heap.size w W ∧ Blk W w.heap.size [.bool false, i6 t, .slice sa us.length sc, .bool true]) ⟨by (repeat' (first | with_reducible exact Below.refl _ _ | with_reducible assumption | with_reducible refine q_alloc ?_ _ | with_reducible refine q_drew ?_ | with_reducible refine q_drewN _ ?_ | with_reducible refine q_setCell ?_ ?_ _ | (left; simp; done) | (right; simp; done) | (right; dsimp only; omega) | (left; dsimp only; omega))), b1.set4⟩ ?_
        intro W9 ⟨hq9, b9⟩
        clear d0 d1 d2 d3 e0 e1 e2 e3
        have d0 := b9.cell 0 rfl
        have d1 := b9.cell 1 rfl
        have d2 := b9.cell 2 rfl
        have d3 := b9.cell 3 rfl
        exact bodyPost_ret (v := .tuple #[pV false t (.slice sa us.length sc) true, i6 0]) (by simp [results, Try.results26, go_sem, d0, d1, d2, d3]) rfl (by first | exact ⟨Or.inl ⟨hkk, _, rfl, HSV.out.below hq9⟩, hq9⟩ | exact ⟨⟨_, rfl, HSV.out.below hq9⟩, hq9⟩)
      · have hdc : decide (KK = 0) = false := decide_eq_false hkk
        rw [hdc]
        clear hdc
        go_wp2_with fail
        refine body_world (fun W => Below w.heap.size w W ∧ Blk W w.heap.size [.bool false, i6 0, .slice none 0 0, .bool false]) ⟨by (repeat' (first | with_reducible exact Below.refl _ _ | with_reducible assumption | with_reducible refine q_alloc ?_ _ | with_reducible refine q_drew ?_ | with_reducible refine q_drewN _ ?_ | with_reducible refine q_setCell ?_ ?_ _ | (left; simp; done) | (right; simp; done) | (right; dsimp only; omega) | (left; dsimp only; omega))), b1.set4⟩ ?_
        intro W9 ⟨hq9, b9⟩
        clear d0 d1 d2 d3 e0 e1 e2 e3
        have d0 := b9.cell 0 rfl
        have d1 := b9.cell 1 rfl
        have d2 := b9.cell 2 rfl
        have d3 := b9.cell 3 rfl
        exact bodyPost_ret (v := .tuple #[pV false 0 (.slice none 0 0) false, i6 2]) (by simp [results, Try.results26, go_sem, d0, d1, d2, d3]) rfl (by first | exact ⟨Or.inr ⟨hkk, rfl⟩, hq9⟩ | exact ⟨rfl, hq9⟩)

set_option maxRecDepth 100000 in
set_option maxHeartbeats 4000000 in
theorem rread_ok1 (v : Value) (t : Int) (us : List Int) (w : World) (hv : IsI w v (1 :: t :: us)) (hl : us.length ≤ 900000) (ht0 : 0 ≤ t) (ht1 : t ≤ 65536) :
    Calls Try.prog 26 #[v] w fun e w' => (kindZ (readA 1) t us.length (readB 1) (numsB us) = 1 ∧ (∃ pv, e = .returned (.tuple #[pV (readA 1) t pv (readB 1), i6 0]) ∧ IsI w' pv us) ∨ kindZ (readA 1) t us.length (readB 1) (numsB us) ≠ 1 ∧ e = .returned (.tuple #[pV false 0 (.slice none 0 0) false, i6 2])) ∧ Below w.heap.size w w' := by
  obtain ⟨a, cap, rfl, hf⟩ := isI_form hv
  obtain ⟨b, off, rfl, h2, _, h4, h5⟩ := hf (by simp)
  obtain ⟨sv, hsl, hsv⟩ := slice_low _ _ cap 2 (1 :: t :: us) w hv rfl (by simp)
  replace hsv : IsI w sv us := hsv
  have hsl2 : ∀ w, (Instr.slice 22 (.slice (some ⟨b, off, none⟩) (1 :: t :: us).length cap) (some (.int .i64 2)) none none).run Try.prog w = .ok sv w := hsl
  clear hsl
  obtain ⟨sa, sc, rfl, _⟩ := isI_form hsv
  have x0 := stick (h5 0 1 rfl)
  have x1 := stick (h5 1 t rfl)
  rw [Nat.add_zero] at x0
  have J : Below w.heap.size w w := Below.refl _ _
  have d0 := x0 _ J
  have zb := block_lt_of_cell d0
  dsimp only at zb
  clear d0
  have hn : ¬ (((1 :: t :: us).length : Nat) : Int) < 2 := by simp <;> omega
  have hp : (0 : Int) < (((1 :: t :: us).length : Nat) : Int) := by simp <;> omega
  have hp1 : (1 : Int) < (((1 :: t :: us).length : Nat) : Int) := by simp <;> omega
  have hp2 : (2 : Int) ≤ (((1 :: t :: us).length : Nat) : Int) := by simp <;> omega
  have hm0 : 0 < (1 :: t :: us).length := by simp
  have hm1 : 1 < (1 :: t :: us).length := by simp
  have hm2 : 2 ≤ (1 :: t :: us).length := by simp
  generalize (1 :: t :: us).length = n at hn hp hp1 hp2 hm0 hm1 hm2 hsl2 ⊢
  have HSV := Lib.hid hsv
  have ht2 : ¬ t < 0 := by omega
  have ht3 : ¬ 65536 < t := by omega
  obtain ⟨KK, hKK⟩ : ∃ KK, kindZ (readA 1) t us.length (readB 1) (numsB us) = KK := ⟨_, rfl⟩
  rw [hKK]
  have HKK := Lib.hid hKK
  have HL := Lib.hid hl
  clear hv hf h5 hsv h2 h4 hKK hl
  obtain ⟨RA, hRA⟩ : ∃ x, readA 1 = x := ⟨_, rfl⟩
  obtain ⟨RB, hRB⟩ : ∃ x, readB 1 = x := ⟨_, rfl⟩
  rw [hRA, hRB]
  have HRA : RA = true := by rw [← hRA]; simp [readA]
  have HRB : RB = false := by rw [← hRB]; simp [readB]
  rw [hRA, hRB] at HKK
  clear hRA hRB
  subst HRA HRB
  go_enter Try.func26, Try.ntmps26
  go_upto_region 7 with fail
  refine code_world (fun W => Below w.heap.size w W ∧ Blk W w.heap.size [.bool false, i6 0, .slice none 0 0, .bool false]) ⟨by (repeat' (first | with_reducible exact Below.refl _ _ | with_reducible assumption | with_reducible refine q_alloc ?_ _ | with_reducible refine q_drew ?_ | with_reducible refine q_drewN _ ?_ | with_reducible refine q_setCell ?_ ?_ _ | (left; simp; done) | (right; simp; done) | (right; dsimp only; omega) | (left; dsimp only; omega))), Blk.new rfl⟩ ?_
  intro W1 ⟨J1, b1⟩
  clear J
  have zb1 := block_lt_of_cell (x0 _ J1)
  dsimp only at zb1
  have HJ1 := Lib.hid J1
  have HB1 := Lib.hid b1
  have c0 := x0 _ J1
  have c1 := x1 _ J1
  have c0a : ∀ o, (W1.alloc o).cell? ⟨b, off, none⟩ = some (i6 1) := fun o => x0 _ (q_alloc J1 o)
  have c1a : ∀ o, (W1.alloc o).cell? ⟨b, off + 1, none⟩ = some (i6 t) := fun o => x1 _ (q_alloc J1 o)
  have X0 := Lib.hid x0
  clear x0 x1 J1 b1
  go_cut [4] from 31 (fun p wx => ∃ c, p = .pointer (some ⟨c, 0, none⟩) ∧ Below W1.heap.size W1 wx ∧ Blk wx c [.bool true, i6 t, .slice sa us.length sc, .bool false])
  case first =>
    go_region
    all_goals (go_wp2_with fail; go_meet; exact ⟨_, rfl, by (repeat' (first | with_reducible exact Below.refl _ _ | with_reducible assumption | with_reducible refine q_alloc ?_ _ | with_reducible refine q_drew ?_ | with_reducible refine q_drewN _ ?_ | with_reducible refine q_setCell ?_ ?_ _ | (left; simp; done) | (right; simp; done) | (right; dsimp only; omega) | (left; dsimp only; omega))), Blk.new rfl⟩)
  case rest =>
    obtain ⟨c, rfl, J2, br⟩ := hcut
    obtain ⟨W2, rfl⟩ : ∃ W : World, W = wc := ⟨_, rfl⟩
    have b2 := HB1.out.below J2
    have r0 := stick (br.cell 0 rfl)
    have r1 := stick (br.cell 1 rfl)
    have r2 := stick (br.cell 2 rfl)
    have r3 := stick (br.cell 3 rfl)
    have y0 := fun W h => X0.out W (q_step (q_step HJ1.out J2) h)
    have HB2 := Lib.hid b2
    have HJ2 := Lib.hid (q_step HJ1.out J2)
    have HBR := Lib.hid br
    have J : Below W2.heap.size W2 W2 := Below.refl _ _
    clear c0 c1 c0a c1a X0 b2 br J2 HJ1 HB1
    go_upto_region 8 with fail
    go_cut [56] from 51 (fun s wx => s = .bool (!decide (KK = 1)) ∧ Below W2.heap.size W2 wx)
    case first =>
      go_region_held3 (fun w' => Below W2.heap.size W2 w')
        (first | exact J | exact J.drew | exact q_alloc J _ | exact q_alloc J.drew _ | (exact by (repeat' (first | with_reducible exact Below.refl _ _ | with_reducible assumption | with_reducible refine q_alloc ?_ _ | with_reducible refine q_drew ?_ | with_reducible refine q_drewN _ ?_ | with_reducible refine q_setCell ?_ ?_ _ | (left; simp; done) | (right; simp; done) | (right; dsimp only; omega) | (left; dsimp only; omega)))))
        (first
          | (go_at_call 32; refine (rkind_any true t (.slice sa us.length sc) false us _ ?_ (by have := HL.out; omega)).mono ?_; (exact HSV.out.below (q_step HJ2.out (by first | exact J | exact J.drew | exact q_alloc J _ | exact q_alloc J.drew _ | (exact by (repeat' (first | with_reducible exact Below.refl _ _ | with_reducible assumption | with_reducible refine q_alloc ?_ _ | with_reducible refine q_drew ?_ | with_reducible refine q_drewN _ ?_ | with_reducible refine q_setCell ?_ ?_ _ | (left; simp; done) | (right; simp; done) | (right; dsimp only; omega) | (left; dsimp only; omega))))))); rintro e w5 ⟨rfl, hb⟩; rw [kind_meet, HKK.out]; have J5 : Below W2.heap.size W2 w5 := q_step (by first | exact J | exact J.drew | exact q_alloc J _ | exact q_alloc J.drew _ | (exact by (repeat' (first | with_reducible exact Below.refl _ _ | with_reducible assumption | with_reducible refine q_alloc ?_ _ | with_reducible refine q_drew ?_ | with_reducible refine q_drewN _ ?_ | with_reducible refine q_setCell ?_ ?_ _ | (left; simp; done) | (right; simp; done) | (right; dsimp only; omega) | (left; dsimp only; omega))))) hb; replace J := J5; clear J5 hb))
      all_goals (go_wp2_with fail; go_meet; exact ⟨by first | rfl | (simp; done), by (repeat' (first | with_reducible exact Below.refl _ _ | with_reducible assumption | with_reducible refine q_alloc ?_ _ | with_reducible refine q_drew ?_ | with_reducible refine q_drewN _ ?_ | with_reducible refine q_setCell ?_ ?_ _ | (left; simp; done) | (right; simp; done) | (right; dsimp only; omega) | (left; dsimp only; omega)))⟩)
    case rest =>
      obtain ⟨rfl, J4⟩ := hcut
      obtain ⟨W4, rfl⟩ : ∃ W : World, W = wc := ⟨_, rfl⟩
      have b1 := HB2.out.below J4
      have s0 := r0 _ J4
      have s1 := r1 _ J4
      have s2 := r2 _ J4
      have s3 := r3 _ J4
      clear J r0 r1 r2 r3 y0
      have d0 := b1.cell 0 rfl
      have d1 := b1.cell 1 rfl
      have d2 := b1.cell 2 rfl
      have d3 := b1.cell 3 rfl
      have e0 := b1.froz 0 rfl
      have e1 := b1.froz 1 rfl
      have e2 := b1.froz 2 rfl
      have e3 := b1.froz 3 rfl
      have hqw := q_step HJ2.out J4
      have hsI : IsI W4 (.slice sa us.length sc) us := HSV.out.below hqw
      have HSI := Lib.hid hsI
      have hwb : w.heap.size < W4.heap.size := b1.lt
      clear hsI
      by_cases hkk : KK = 1
      · have hdc : decide (KK = 1) = true := decide_eq_true hkk
        rw [hdc]
        clear hdc
        go_wp2_with fail
        refine body_world (fun W => Below w.heap.size w W ∧ Blk W w.heap.size [.bool true, i6 t, .slice sa us.length sc, .bool false]) ⟨by (repeat' (first | with_reducible exact Below.refl _ _ | with_reducible assumption | with_reducible refine q_alloc ?_ _ | with_reducible refine q_drew ?_ | with_reducible refine q_drewN _ ?_ | with_reducible refine q_setCell ?_ ?_ _ | (left; simp; done) | (right; simp; done) | (right; dsimp only; omega) | (left; dsimp only; omega))), b1.set4⟩ ?_
        intro W9 ⟨hq9, b9⟩
        clear d0 d1 d2 d3 e0 e1 e2 e3
        have d0 := b9.cell 0 rfl
        have d1 := b9.cell 1 rfl
        have d2 := b9.cell 2 rfl
        have d3 := b9.cell 3 rfl
        exact bodyPost_ret (v := .tuple #[pV true t (.slice sa us.length sc) false, i6 0]) (by simp [results, Try.results26, go_sem, d0, d1, d2, d3]) rfl (by first | exact ⟨Or.inl ⟨hkk, _, rfl, HSV.out.below hq9⟩, hq9⟩ | exact ⟨⟨_, rfl, HSV.out.below hq9⟩, hq9⟩)
      · have hdc : decide (KK = 1) = false := decide_eq_false hkk
        rw [hdc]
        clear hdc
        go_wp2_with fail
        refine body_world (fun W => Below w.heap.size w W ∧ Blk W w.heap.size [.bool false, i6 0, .slice none 0 0, .bool false]) ⟨by (repeat' (first | with_reducible exact Below.refl _ _ | with_reducible assumption | with_reducible refine q_alloc ?_ _ | with_reducible refine q_drew ?_ | with_reducible refine q_drewN _ ?_ | with_reducible refine q_setCell ?_ ?_ _ | (left; simp; done) | (right; simp; done) | (right; dsimp only; omega) | (left; dsimp only; omega))), b1.set4⟩ ?_
        intro W9 ⟨hq9, b9⟩
        clear d0 d1 d2 d3 e0 e1 e2 e3
        have d0 := b9.cell 0 rfl
        have d1 := b9.cell 1 rfl
        have d2 := b9.cell 2 rfl
        have d3 := b9.cell 3 rfl
        exact bodyPost_ret (v := .tuple #[pV false 0 (.slice none 0 0) false, i6 2]) (by simp [results, Try.results26, go_sem, d0, d1, d2, d3]) rfl (by first | exact ⟨Or.inr ⟨hkk, rfl⟩, hq9⟩ | exact ⟨rfl, hq9⟩)

set_option maxRecDepth 100000 in
set_option maxHeartbeats 4000000 in
theorem rread_ok2 (v : Value) (t : Int) (us : List Int) (w : World) (hv : IsI w v (2 :: t :: us)) (hl : us.length ≤ 900000) (ht0 : 0 ≤ t) (ht1 : t ≤ 65536) :
    Calls Try.prog 26 #[v] w fun e w' => (kindZ (readA 2) t us.length (readB 2) (numsB us) = 2 ∧ (∃ pv, e = .returned (.tuple #[pV (readA 2) t pv (readB 2), i6 0]) ∧ IsI w' pv us) ∨ kindZ (readA 2) t us.length (readB 2) (numsB us) ≠ 2 ∧ e = .returned (.tuple #[pV false 0 (.slice none 0 0) false, i6 2])) ∧ Below w.heap.size w w' := by
  obtain ⟨a, cap, rfl, hf⟩ := isI_form hv
  obtain ⟨b, off, rfl, h2, _, h4, h5⟩ := hf (by simp)
  obtain ⟨sv, hsl, hsv⟩ := slice_low _ _ cap 2 (2 :: t :: us) w hv rfl (by simp)
  replace hsv : IsI w sv us := hsv
  have hsl2 : ∀ w, (Instr.slice 22 (.slice (some ⟨b, off, none⟩) (2 :: t :: us).length cap) (some (.int .i64 2)) none none).run Try.prog w = .ok sv w := hsl
  clear hsl
  obtain ⟨sa, sc, rfl, _⟩ := isI_form hsv
  have x0 := stick (h5 0 2 rfl)
  have x1 := stick (h5 1 t rfl)
  rw [Nat.add_zero] at x0
  have J : Below w.heap.size w w := Below.refl _ _
  have d0 := x0 _ J
  have zb := block_lt_of_cell d0
  dsimp only at zb
  clear d0
  have hn : ¬ (((2 :: t :: us).length : Nat) : Int) < 2 := by simp <;> omega
  have hp : (0 : Int) < (((2 :: t :: us).length : Nat) : Int) := by simp <;> omega
  have hp1 : (1 : Int) < (((2 :: t :: us).length : Nat) : Int) := by simp <;> omega
  have hp2 : (2 : Int) ≤ (((2 :: t :: us).length : Nat) : Int) := by simp <;> omega
  have hm0 : 0 < (2 :: t :: us).length := by simp
  have hm1 : 1 < (2 :: t :: us).length := by simp
  have hm2 : 2 ≤ (2 :: t :: us).length := by simp
  generalize (2 :: t :: us).length = n at hn hp hp1 hp2 hm0 hm1 hm2 hsl2 ⊢
  have HSV := Lib.hid hsv
  have ht2 : ¬ t < 0 := by omega
  have ht3 : ¬ 65536 < t := by omega
  obtain ⟨KK, hKK⟩ : ∃ KK, kindZ (readA 2) t us.length (readB 2) (numsB us) = KK := ⟨_, rfl⟩
  rw [hKK]
  have HKK := Lib.hid hKK
  have HL := Lib.hid hl
  clear hv hf h5 hsv h2 h4 hKK hl
  obtain ⟨RA, hRA⟩ : ∃ x, readA 2 = x := ⟨_, rfl⟩
  obtain ⟨RB, hRB⟩ : ∃ x, readB 2 = x := ⟨_, rfl⟩
  rw [hRA, hRB]
  have HRA : RA = true := by rw [← hRA]; simp [readA]
  have HRB : RB = false := by rw [← hRB]; simp [readB]
  rw [hRA, hRB] at HKK
  clear hRA hRB
  subst HRA HRB
  go_enter Try.func26, Try.ntmps26
  go_upto_region 7 with fail
  refine code_world (fun W => Below w.heap.size w W ∧ Blk W w.heap.size [.bool false, i6 0, .slice none 0 0, .bool false]) ⟨by (repeat' (first | with_reducible exact Below.refl _ _ | with_reducible assumption | with_reducible refine q_alloc ?_ _ | with_reducible refine q_drew ?_ | with_reducible refine q_drewN _ ?_ | with_reducible refine q_setCell ?_ ?_ _ | (left; simp; done) | (right; simp; done) | (right; dsimp only; omega) | (left; dsimp only; omega))), Blk.new rfl⟩ ?_
  intro W1 ⟨J1, b1⟩
  clear J
  have zb1 := block_lt_of_cell (x0 _ J1)
  dsimp only at zb1
  have HJ1 := Lib.hid J1
  have HB1 := Lib.hid b1
  have c0 := x0 _ J1
  have c1 := x1 _ J1
  have c0a : ∀ o, (W1.alloc o).cell? ⟨b, off, none⟩ = some (i6 2) := fun o => x0 _ (q_alloc J1 o)
  have c1a : ∀ o, (W1.alloc o).cell? ⟨b, off + 1, none⟩ = some (i6 t) := fun o => x1 _ (q_alloc J1 o)
  have X0 := Lib.hid x0
  clear x0 x1 J1 b1
  go_cut [4] from 31 (fun p wx => ∃ c, p = .pointer (some ⟨c, 0, none⟩) ∧ Below W1.heap.size W1 wx ∧ Blk wx c [.bool true, i6 t, .slice sa us.length sc, .bool false])
  case first =>
    go_region
    all_goals (go_wp2_with fail; go_meet; exact ⟨_, rfl, by (repeat' (first | with_reducible exact Below.refl _ _ | with_reducible assumption | with_reducible refine q_alloc ?_ _ | with_reducible refine q_drew ?_ | with_reducible refine q_drewN _ ?_ | with_reducible refine q_setCell ?_ ?_ _ | (left; simp; done) | (right; simp; done) | (right; dsimp only; omega) | (left; dsimp only; omega))), Blk.new rfl⟩)
  case rest =>
    obtain ⟨c, rfl, J2, br⟩ := hcut
    obtain ⟨W2, rfl⟩ : ∃ W : World, W = wc := ⟨_, rfl⟩
    have b2 := HB1.out.below J2
    have r0 := stick (br.cell 0 rfl)
    have r1 := stick (br.cell 1 rfl)
    have r2 := stick (br.cell 2 rfl)
    have r3 := stick (br.cell 3 rfl)
    have y0 := fun W h => X0.out W (q_step (q_step HJ1.out J2) h)
    have HB2 := Lib.hid b2
    have HJ2 := Lib.hid (q_step HJ1.out J2)
    have HBR := Lib.hid br
    have J : Below W2.heap.size W2 W2 := Below.refl _ _
    clear c0 c1 c0a c1a X0 b2 br J2 HJ1 HB1
    go_upto_region 8 with fail
    go_cut [56] from 51 (fun s wx => s = .bool (!decide (KK = 2)) ∧ Below W2.heap.size W2 wx)
    case first =>
      go_region_held3 (fun w' => Below W2.heap.size W2 w')
        (first | exact J | exact J.drew | exact q_alloc J _ | exact q_alloc J.drew _ | (exact by (repeat' (first | with_reducible exact Below.refl _ _ | with_reducible assumption | with_reducible refine q_alloc ?_ _ | with_reducible refine q_drew ?_ | with_reducible refine q_drewN _ ?_ | with_reducible refine q_setCell ?_ ?_ _ | (left; simp; done) | (right; simp; done) | (right; dsimp only; omega) | (left; dsimp only; omega)))))
        (first
          | (go_at_call 32; refine (rkind_any true t (.slice sa us.length sc) false us _ ?_ (by have := HL.out; omega)).mono ?_; (exact HSV.out.below (q_step HJ2.out (by first | exact J | exact J.drew | exact q_alloc J _ | exact q_alloc J.drew _ | (exact by (repeat' (first | with_reducible exact Below.refl _ _ | with_reducible assumption | with_reducible refine q_alloc ?_ _ | with_reducible refine q_drew ?_ | with_reducible refine q_drewN _ ?_ | with_reducible refine q_setCell ?_ ?_ _ | (left; simp; done) | (right; simp; done) | (right; dsimp only; omega) | (left; dsimp only; omega))))))); rintro e w5 ⟨rfl, hb⟩; rw [kind_meet, HKK.out]; have J5 : Below W2.heap.size W2 w5 := q_step (by first | exact J | exact J.drew | exact q_alloc J _ | exact q_alloc J.drew _ | (exact by (repeat' (first | with_reducible exact Below.refl _ _ | with_reducible assumption | with_reducible refine q_alloc ?_ _ | with_reducible refine q_drew ?_ | with_reducible refine q_drewN _ ?_ | with_reducible refine q_setCell ?_ ?_ _ | (left; simp; done) | (right; simp; done) | (right; dsimp only; omega) | (left; dsimp only; omega))))) hb; replace J := J5; clear J5 hb))
      all_goals (go_wp2_with fail; go_meet; exact ⟨by first | rfl | (simp; done), by (repeat' (first | with_reducible exact Below.refl _ _ | with_reducible assumption | with_reducible refine q_alloc ?_ _ | with_reducible refine q_drew ?_ | with_reducible refine q_drewN _ ?_ | with_reducible refine q_setCell ?_ ?_ _ | (left; simp; done) | (right; simp; done) | (right; dsimp only; omega) | (left; dsimp only; omega)))⟩)
    case rest =>
      obtain ⟨rfl, J4⟩ := hcut
      obtain ⟨W4, rfl⟩ : ∃ W : World, W = wc := ⟨_, rfl⟩
      have b1 := HB2.out.below J4
      have s0 := r0 _ J4
      have s1 := r1 _ J4
      have s2 := r2 _ J4
      have s3 := r3 _ J4
      clear J r0 r1 r2 r3 y0
      have d0 := b1.cell 0 rfl
      have d1 := b1.cell 1 rfl
      have d2 := b1.cell 2 rfl
      have d3 := b1.cell 3 rfl
      have e0 := b1.froz 0 rfl
      have e1 := b1.froz 1 rfl
      have e2 := b1.froz 2 rfl
      have e3 := b1.froz 3 rfl
      have hqw := q_step HJ2.out J4
      have hsI : IsI W4 (.slice sa us.length sc) us := HSV.out.below hqw
      have HSI := Lib.hid hsI
      have hwb : w.heap.size < W4.heap.size := b1.lt
      clear hsI
      by_cases hkk : KK = 2
      · have hdc : decide (KK = 2) = true := decide_eq_true hkk
        rw [hdc]
        clear hdc
        go_wp2_with fail
        refine body_world (fun W => Below w.heap.size w W ∧ Blk W w.heap.size [.bool true, i6 t, .slice sa us.length sc, .bool false]) ⟨by (repeat' (first | with_reducible exact Below.refl _ _ | with_reducible assumption | with_reducible refine q_alloc ?_ _ | with_reducible refine q_drew ?_ | with_reducible refine q_drewN _ ?_ | with_reducible refine q_setCell ?_ ?_ _ | (left; simp; done) | (right; simp; done) | (right; dsimp only; omega) | (left; dsimp only; omega))), b1.set4⟩ ?_
        intro W9 ⟨hq9, b9⟩
        clear d0 d1 d2 d3 e0 e1 e2 e3
        have d0 := b9.cell 0 rfl
        have d1 := b9.cell 1 rfl
        have d2 := b9.cell 2 rfl
        have d3 := b9.cell 3 rfl
        exact bodyPost_ret (v := .tuple #[pV true t (.slice sa us.length sc) false, i6 0]) (by simp [results, Try.results26, go_sem, d0, d1, d2, d3]) rfl (by first | exact ⟨Or.inl ⟨hkk, _, rfl, HSV.out.below hq9⟩, hq9⟩ | exact ⟨⟨_, rfl, HSV.out.below hq9⟩, hq9⟩)
      · have hdc : decide (KK = 2) = false := decide_eq_false hkk
        rw [hdc]
        clear hdc
        go_wp2_with fail
        refine body_world (fun W => Below w.heap.size w W ∧ Blk W w.heap.size [.bool false, i6 0, .slice none 0 0, .bool false]) ⟨by (repeat' (first | with_reducible exact Below.refl _ _ | with_reducible assumption | with_reducible refine q_alloc ?_ _ | with_reducible refine q_drew ?_ | with_reducible refine q_drewN _ ?_ | with_reducible refine q_setCell ?_ ?_ _ | (left; simp; done) | (right; simp; done) | (right; dsimp only; omega) | (left; dsimp only; omega))), b1.set4⟩ ?_
        intro W9 ⟨hq9, b9⟩
        clear d0 d1 d2 d3 e0 e1 e2 e3
        have d0 := b9.cell 0 rfl
        have d1 := b9.cell 1 rfl
        have d2 := b9.cell 2 rfl
        have d3 := b9.cell 3 rfl
        exact bodyPost_ret (v := .tuple #[pV false 0 (.slice none 0 0) false, i6 2]) (by simp [results, Try.results26, go_sem, d0, d1, d2, d3]) rfl (by first | exact ⟨Or.inr ⟨hkk, rfl⟩, hq9⟩ | exact ⟨rfl, hq9⟩)

set_option maxRecDepth 100000 in
set_option maxHeartbeats 4000000 in
theorem rread_ok3 (v : Value) (t : Int) (us : List Int) (w : World) (hv : IsI w v (3 :: t :: us)) (hl : us.length ≤ 900000) (ht0 : 0 ≤ t) (ht1 : t ≤ 65536) :
    Calls Try.prog 26 #[v] w fun e w' => (kindZ (readA 3) t us.length (readB 3) (numsB us) = 3 ∧ (∃ pv, e = .returned (.tuple #[pV (readA 3) t pv (readB 3), i6 0]) ∧ IsI w' pv us) ∨ kindZ (readA 3) t us.length (readB 3) (numsB us) ≠ 3 ∧ e = .returned (.tuple #[pV false 0 (.slice none 0 0) false, i6 2])) ∧ Below w.heap.size w w' := by
  obtain ⟨a, cap, rfl, hf⟩ := isI_form hv
  obtain ⟨b, off, rfl, h2, _, h4, h5⟩ := hf (by simp)
  obtain ⟨sv, hsl, hsv⟩ := slice_low _ _ cap 2 (3 :: t :: us) w hv rfl (by simp)
  replace hsv : IsI w sv us := hsv
  have hsl2 : ∀ w, (Instr.slice 22 (.slice (some ⟨b, off, none⟩) (3 :: t :: us).length cap) (some (.int .i64 2)) none none).run Try.prog w = .ok sv w := hsl
  clear hsl
  obtain ⟨sa, sc, rfl, _⟩ := isI_form hsv
  have x0 := stick (h5 0 3 rfl)
  have x1 := stick (h5 1 t rfl)
  rw [Nat.add_zero] at x0
  have J : Below w.heap.size w w := Below.refl _ _
  have d0 := x0 _ J
  have zb := block_lt_of_cell d0
  dsimp only at zb
  clear d0
  have hn : ¬ (((3 :: t :: us).length : Nat) : Int) < 2 := by simp <;> omega
  have hp : (0 : Int) < (((3 :: t :: us).length : Nat) : Int) := by simp <;> omega
  have hp1 : (1 : Int) < (((3 :: t :: us).length : Nat) : Int) := by simp <;> omega
  have hp2 : (2 : Int) ≤ (((3 :: t :: us).length : Nat) : Int) := by simp <;> omega
  have hm0 : 0 < (3 :: t :: us).length := by simp
  have hm1 : 1 < (3 :: t :: us).length := by simp
  have hm2 : 2 ≤ (3 :: t :: us).length := by simp
  generalize (3 :: t :: us).length = n at hn hp hp1 hp2 hm0 hm1 hm2 hsl2 ⊢
  have HSV := Lib.hid hsv
  have ht2 : ¬ t < 0 := by omega
  have ht3 : ¬ 65536 < t := by omega
  obtain ⟨KK, hKK⟩ : ∃ KK, kindZ (readA 3) t us.length (readB 3) (numsB us) = KK := ⟨_, rfl⟩
  rw [hKK]
  have HKK := Lib.hid hKK
  have HL := Lib.hid hl
  clear hv hf h5 hsv h2 h4 hKK hl
  obtain ⟨RA, hRA⟩ : ∃ x, readA 3 = x := ⟨_, rfl⟩
  obtain ⟨RB, hRB⟩ : ∃ x, readB 3 = x := ⟨_, rfl⟩
  rw [hRA, hRB]
  have HRA : RA = true := by rw [← hRA]; simp [readA]
  have HRB : RB = true := by rw [← hRB]; simp [readB]
  rw [hRA, hRB] at HKK
  clear hRA hRB
  subst HRA HRB
  go_enter Try.func26, Try.ntmps26
  go_upto_region 7 with fail
  refine code_world (fun W => Below w.heap.size w W ∧ Blk W w.heap.size [.bool false, i6 0, .slice none 0 0, .bool false]) ⟨by (repeat' (first | with_reducible exact Below.refl _ _ | with_reducible assumption | with_reducible refine q_alloc ?_ _ | with_reducible refine q_drew ?_ | with_reducible refine q_drewN _ ?_ | with_reducible refine q_setCell ?_ ?_ _ | (left; simp; done) | (right; simp; done) | (right; dsimp only; omega) | (left; dsimp only; omega))), Blk.new rfl⟩ ?_
  intro W1 ⟨J1, b1⟩
  clear J
  have zb1 := block_lt_of_cell (x0 _ J1)
  dsimp only at zb1
  have HJ1 := Lib.hid J1
  have HB1 := Lib.hid b1
  have c0 := x0 _ J1
  have c1 := x1 _ J1
  have c0a : ∀ o, (W1.alloc o).cell? ⟨b, off, none⟩ = some (i6 3) := fun o => x0 _ (q_alloc J1 o)
  have c1a : ∀ o, (W1.alloc o).cell? ⟨b, off + 1, none⟩ = some (i6 t) := fun o => x1 _ (q_alloc J1 o)
  have X0 := Lib.hid x0
  clear x0 x1 J1 b1
  go_cut [4] from 31 (fun p wx => ∃ c, p = .pointer (some ⟨c, 0, none⟩) ∧ Below W1.heap.size W1 wx ∧ Blk wx c [.bool true, i6 t, .slice sa us.length sc, .bool true])
  case first =>
    go_region
    all_goals (go_wp2_with fail; go_meet; exact ⟨_, rfl, by (repeat' (first | with_reducible exact Below.refl _ _ | with_reducible assumption | with_reducible refine q_alloc ?_ _ | with_reducible refine q_drew ?_ | with_reducible refine q_drewN _ ?_ | with_reducible refine q_setCell ?_ ?_ _ | (left; simp; done) | (right; simp; done) | (right; dsimp only; omega) | (left; dsimp only; omega))), Blk.new rfl⟩)
  case rest =>
    obtain ⟨c, rfl, J2, br⟩ := hcut
    obtain ⟨W2, rfl⟩ : ∃ W : World, W = wc := ⟨_, rfl⟩
    have b2 := HB1.out.below J2
    have r0 := stick (br.cell 0 rfl)
    have r1 := stick (br.cell 1 rfl)
    have r2 := stick (br.cell 2 rfl)
    have r3 := stick (br.cell 3 rfl)
    have y0 := fun W h => X0.out W (q_step (q_step HJ1.out J2) h)
    have HB2 := Lib.hid b2
    have HJ2 := Lib.hid (q_step HJ1.out J2)
    have HBR := Lib.hid br
    have J : Below W2.heap.size W2 W2 := Below.refl _ _
    clear c0 c1 c0a c1a X0 b2 br J2 HJ1 HB1
    go_upto_region 8 with fail
    go_cut [56] from 51 (fun s wx => s = .bool (!decide (KK = 3)) ∧ Below W2.heap.size W2 wx)
    case first =>
      go_region_held3 (fun w' => Below W2.heap.size W2 w')
        (first | exact J | exact J.drew | exact q_alloc J _ | exact q_alloc J.drew _ | (exact by (repeat' (first | with_reducible exact Below.refl _ _ | with_reducible assumption | with_reducible refine q_alloc ?_ _ | with_reducible refine q_drew ?_ | with_reducible refine q_drewN _ ?_ | with_reducible refine q_setCell ?_ ?_ _ | (left; simp; done) | (right; simp; done) | (right; dsimp only; omega) | (left; dsimp only; omega)))))
        (first
          | (go_at_call 32; refine (rkind_any true t (.slice sa us.length sc) true us _ ?_ (by have := HL.out; omega)).mono ?_; (exact HSV.out.below (q_step HJ2.out (by first | exact J | exact J.drew | exact q_alloc J _ | exact q_alloc J.drew _ | (exact by (repeat' (first | with_reducible exact Below.refl _ _ | with_reducible assumption | with_reducible refine q_alloc ?_ _ | with_reducible refine q_drew ?_ | with_reducible refine q_drewN _ ?_ | with_reducible refine q_setCell ?_ ?_ _ | (left; simp; done) | (right; simp; done) | (right; dsimp only; omega) | (left; dsimp only; omega))))))); rintro e w5 ⟨rfl, hb⟩; rw [kind_meet, HKK.out]; have J5 : Below W2.heap.size W2 w5 := q_step (by first | exact J | exact J.drew | exact q_alloc J _ | exact q_alloc J.drew _ | (exact by (repeat' (first | with_reducible exact Below.refl _ _ | with_reducible assumption | with_reducible refine q_alloc ?_ _ | with_reducible refine q_drew ?_ | with_reducible refine q_drewN _ ?_ | with_reducible refine q_setCell ?_ ?_ _ | (left; simp; done) | (right; simp; done) | (right; dsimp only; omega) | (left; dsimp only; omega))))) hb; replace J := J5; clear J5 hb))
      all_goals (go_wp2_with fail; go_meet; exact ⟨by first | rfl | (simp; done), by (repeat' (first | with_reducible exact Below.refl _ _ | with_reducible assumption | with_reducible refine q_alloc ?_ _ | with_reducible refine q_drew ?_ | with_reducible refine q_drewN _ ?_ | with_reducible refine q_setCell ?_ ?_ _ | (left; simp; done) | (right; simp; done) | (right; dsimp only; omega) | (left; dsimp only; omega)))⟩)
    case rest =>
      obtain ⟨rfl, J4⟩ := hcut
      obtain ⟨W4, rfl⟩ : ∃ W : World, W = wc := ⟨_, rfl⟩
      have b1 := HB2.out.below J4
      have s0 := r0 _ J4
      have s1 := r1 _ J4
      have s2 := r2 _ J4
      have s3 := r3 _ J4
      clear J r0 r1 r2 r3 y0
      have d0 := b1.cell 0 rfl
      have d1 := b1.cell 1 rfl
      have d2 := b1.cell 2 rfl
      have d3 := b1.cell 3 rfl
      have e0 := b1.froz 0 rfl
      have e1 := b1.froz 1 rfl
      have e2 := b1.froz 2 rfl
      have e3 := b1.froz 3 rfl
      have hqw := q_step HJ2.out J4
      have hsI : IsI W4 (.slice sa us.length sc) us := HSV.out.below hqw
      have HSI := Lib.hid hsI
      have hwb : w.heap.size < W4.heap.size := b1.lt
      clear hsI
      by_cases hkk : KK = 3
      · have hdc : decide (KK = 3) = true := decide_eq_true hkk
        rw [hdc]
        clear hdc
        go_wp2_with fail
        refine body_world (fun W => Below w.heap.size w W ∧ Blk W w.heap.size [.bool true, i6 t, .slice sa us.length sc, .bool true]) ⟨by (repeat' (first | with_reducible exact Below.refl _ _ | with_reducible assumption | with_reducible refine q_alloc ?_ _ | with_reducible refine q_drew ?_ | with_reducible refine q_drewN _ ?_ | with_reducible refine q_setCell ?_ ?_ _ | (left; simp; done) | (right; simp; done) | (right; dsimp only; omega) | (left; dsimp only; omega))), b1.set4⟩ ?_
        intro W9 ⟨hq9, b9⟩
        clear d0 d1 d2 d3 e0 e1 e2 e3
        have d0 := b9.cell 0 rfl
        have d1 := b9.cell 1 rfl
        have d2 := b9.cell 2 rfl
        have d3 := b9.cell 3 rfl
        exact bodyPost_ret (v := .tuple #[pV true t (.slice sa us.length sc) true, i6 0]) (by simp [results, Try.results26, go_sem, d0, d1, d2, d3]) rfl (by first | exact ⟨Or.inl ⟨hkk, _, rfl, HSV.out.below hq9⟩, hq9⟩ | exact ⟨⟨_, rfl, HSV.out.below hq9⟩, hq9⟩)
      · have hdc : decide (KK = 3) = false := decide_eq_false hkk
        rw [hdc]
        clear hdc
        go_wp2_with fail
        refine body_world (fun W => Below w.heap.size w W ∧ Blk W w.heap.size [.bool false, i6 0, .slice none 0 0, .bool false]) ⟨by (repeat' (first | with_reducible exact Below.refl _ _ | with_reducible assumption | with_reducible refine q_alloc ?_ _ | with_reducible refine q_drew ?_ | with_reducible refine q_drewN _ ?_ | with_reducible refine q_setCell ?_ ?_ _ | (left; simp; done) | (right; simp; done) | (right; dsimp only; omega) | (left; dsimp only; omega))), b1.set4⟩ ?_
        intro W9 ⟨hq9, b9⟩
        clear d0 d1 d2 d3 e0 e1 e2 e3
        have d0 := b9.cell 0 rfl
        have d1 := b9.cell 1 rfl
        have d2 := b9.cell 2 rfl
        have d3 := b9.cell 3 rfl
        exact bodyPost_ret (v := .tuple #[pV false 0 (.slice none 0 0) false, i6 2]) (by simp [results, Try.results26, go_sem, d0, d1, d2, d3]) rfl (by first | exact ⟨Or.inr ⟨hkk, rfl⟩, hq9⟩ | exact ⟨rfl, hq9⟩)

end Go.Proofs.Ytlaejolgjchfcaa
