import Derived.Test.YtlofhbeifgaoeaaDoorRect4
namespace Go.Proofs.YtlofhbeifgaoeaaDoor
open Go Go.RowKit
theorem below_drew {w w' : World} (h : Below w.drew.heap.size w.drew w') : Below w.heap.size w w' := (Below.refl _ _).drew.trans h

def Betw (x0 y0 x1 y1 p q s t : Int) : Prop := (x0 < x1 ∧ y0 < y1 ∧ p = x0 ∧ q = y0 ∧ s = x1 - x0 ∧ t = y1 - y0) ∨ (¬ (x0 < x1 ∧ y0 < y1) ∧ p = 0 ∧ q = 0 ∧ s = 0 ∧ t = 0)
theorem betw_ex (x0 y0 x1 y1 : Int) : ∃ p q s t, Betw x0 y0 x1 y1 p q s t := by
  by_cases g : x0 < x1 ∧ y0 < y1
  · exact ⟨x0, y0, x1 - x0, y1 - y0, Or.inl ⟨g.1, g.2, rfl, rfl, rfl, rfl⟩⟩
  · exact ⟨0, 0, 0, 0, Or.inr ⟨g, rfl, rfl, rfl, rfl⟩⟩
theorem betw_any (x0 y0 x1 y1 p q s t : Int) (w : World) (hs : RowAt 0 noneCells w) (n : Betw x0 y0 x1 y1 p q s t) (b1 : -4194304 ≤ x0) (b2 : x1 ≤ 4194304) (b3 : -4194304 ≤ y0) (b4 : y1 ≤ 4194304) :
    Calls Tryd.prog 31 #[i6 x0, i6 y0, i6 x1, i6 y1] w fun e w' => e = .returned (rectV p q s t) ∧ Below w.heap.size w w' := by
  rcases n with ⟨h1, h2, rfl, rfl, rfl, rfl⟩ | ⟨g, rfl, rfl, rfl, rfl⟩
  · exact betw_some _ _ x1 y1 w h1 h2 b1 b2 b3 b4
  · by_cases h1 : x0 < x1
    · exact betw_y x0 y0 x1 y1 w hs h1 (by omega)
    · exact betw_x x0 y0 x1 y1 w hs (by omega)

set_option maxHeartbeats 2000000 in
theorem cross_of (x y r h a b c d x' y' r' h' a' b' c' d' X0 Y0 X1 Y1 p q s t : Int) (w : World) (hs : RowAt 0 noneCells w) (n : Norm x y r h a b c d) (n' : Norm x' y' r' h' a' b' c' d')
    (hX0 : (if a < a' then a' else a) = X0) (hY0 : (if b < b' then b' else b) = Y0) (hX1 : (if a' + c' < a + c then a' + c' else a + c) = X1) (hY1 : (if b' + d' < b + d then b' + d' else b + d) = Y1)
    (nb : Betw X0 Y0 X1 Y1 p q s t) :
    Calls Tryd.prog 20 #[rectV x y r h, rectV x' y' r' h'] w fun e w' => e = .returned (rectV p q s t) ∧ Below w.heap.size w w' := by
  have HB := Lib.hid nb
  have hb1 : -4194304 ≤ X0 := by have := n.bounds; have := n'.bounds; rw [← hX0]; split <;> omega
  have hb2 : X1 ≤ 4194304 := by have := n.bounds; have := n'.bounds; rw [← hX1]; split <;> omega
  have hb3 : -4194304 ≤ Y0 := by have := n.bounds; have := n'.bounds; rw [← hY0]; split <;> omega
  have hb4 : Y1 ≤ 4194304 := by have := n.bounds; have := n'.bounds; rw [← hY1]; split <;> omega
  clear nb
  have HS := Lib.hid hs
  have HN := Lib.hid n
  have HN2 := Lib.hid n'
  have bn := n.bounds
  have bn' := n'.bounds
  clear hs n n'
  go_enter Tryd.func20, Tryd.ntmps20
  go_wp2_with fail
  generalize hW : ((w.alloc (Obj.cells #[Value.int IntKind.i64 x, Value.int IntKind.i64 y, Value.int IntKind.i64 r, Value.int IntKind.i64 h] 23)).alloc (Obj.cells #[Value.int IntKind.i64 x', Value.int IntKind.i64 y', Value.int IntKind.i64 r', Value.int IntKind.i64 h'] 23)).alloc (Obj.cells #[Value.int IntKind.i64 0, Value.int IntKind.i64 0, Value.int IntKind.i64 0, Value.int IntKind.i64 0] 23) = W1
  have f1_0 : W1.cell? ⟨w.heap.size, 0, none⟩ = some (i6 x) := by rw [← hW]; exact cell_old (cell_old (cell_new rfl))
  have g1_0 : W1.frozen? ⟨w.heap.size, 0, none⟩ = false := by rw [← hW]; exact (frozen_old (cell_old (cell_new rfl)) (frozen_old (cell_new rfl) frozen_new))
  have f1_1 : W1.cell? ⟨w.heap.size, 1, none⟩ = some (i6 y) := by rw [← hW]; exact cell_old (cell_old (cell_new rfl))
  have g1_1 : W1.frozen? ⟨w.heap.size, 1, none⟩ = false := by rw [← hW]; exact (frozen_old (cell_old (cell_new rfl)) (frozen_old (cell_new rfl) frozen_new))
  have f1_2 : W1.cell? ⟨w.heap.size, 2, none⟩ = some (i6 r) := by rw [← hW]; exact cell_old (cell_old (cell_new rfl))
  have g1_2 : W1.frozen? ⟨w.heap.size, 2, none⟩ = false := by rw [← hW]; exact (frozen_old (cell_old (cell_new rfl)) (frozen_old (cell_new rfl) frozen_new))
  have f1_3 : W1.cell? ⟨w.heap.size, 3, none⟩ = some (i6 h) := by rw [← hW]; exact cell_old (cell_old (cell_new rfl))
  have g1_3 : W1.frozen? ⟨w.heap.size, 3, none⟩ = false := by rw [← hW]; exact (frozen_old (cell_old (cell_new rfl)) (frozen_old (cell_new rfl) frozen_new))
  have f1_4 : W1.cell? ⟨w.heap.size + 1, 0, none⟩ = some (i6 x') := by rw [← hW]; exact cell_old (cell_new1 rfl)
  have g1_4 : W1.frozen? ⟨w.heap.size + 1, 0, none⟩ = false := by rw [← hW]; exact (frozen_old (cell_new1 rfl) frozen_new1)
  have f1_5 : W1.cell? ⟨w.heap.size + 1, 1, none⟩ = some (i6 y') := by rw [← hW]; exact cell_old (cell_new1 rfl)
  have g1_5 : W1.frozen? ⟨w.heap.size + 1, 1, none⟩ = false := by rw [← hW]; exact (frozen_old (cell_new1 rfl) frozen_new1)
  have f1_6 : W1.cell? ⟨w.heap.size + 1, 2, none⟩ = some (i6 r') := by rw [← hW]; exact cell_old (cell_new1 rfl)
  have g1_6 : W1.frozen? ⟨w.heap.size + 1, 2, none⟩ = false := by rw [← hW]; exact (frozen_old (cell_new1 rfl) frozen_new1)
  have f1_7 : W1.cell? ⟨w.heap.size + 1, 3, none⟩ = some (i6 h') := by rw [← hW]; exact cell_old (cell_new1 rfl)
  have g1_7 : W1.frozen? ⟨w.heap.size + 1, 3, none⟩ = false := by rw [← hW]; exact (frozen_old (cell_new1 rfl) frozen_new1)
  have f1_8 : W1.cell? ⟨w.heap.size + 1 + 1, 0, none⟩ = some (i6 0) := by rw [← hW]; exact cell_new2 rfl
  have g1_8 : W1.frozen? ⟨w.heap.size + 1 + 1, 0, none⟩ = false := by rw [← hW]; exact frozen_new2
  have f1_9 : W1.cell? ⟨w.heap.size + 1 + 1, 1, none⟩ = some (i6 0) := by rw [← hW]; exact cell_new2 rfl
  have g1_9 : W1.frozen? ⟨w.heap.size + 1 + 1, 1, none⟩ = false := by rw [← hW]; exact frozen_new2
  have f1_10 : W1.cell? ⟨w.heap.size + 1 + 1, 2, none⟩ = some (i6 0) := by rw [← hW]; exact cell_new2 rfl
  have g1_10 : W1.frozen? ⟨w.heap.size + 1 + 1, 2, none⟩ = false := by rw [← hW]; exact frozen_new2
  have f1_11 : W1.cell? ⟨w.heap.size + 1 + 1, 3, none⟩ = some (i6 0) := by rw [← hW]; exact cell_new2 rfl
  have g1_11 : W1.frozen? ⟨w.heap.size + 1 + 1, 3, none⟩ = false := by rw [← hW]; exact frozen_new2
  have hq1 : Below w.heap.size w W1 := by rw [← hW]; (repeat' (first | with_reducible exact Below.refl _ _ | with_reducible assumption | with_reducible refine q_alloc ?_ _ | with_reducible refine q_drew ?_ | with_reducible refine q_drewN _ ?_ | with_reducible refine q_setCell ?_ ?_ _ | (left; simp; done) | (right; simp; done) | (right; dsimp only; omega) | (left; dsimp only; omega)))
  clear hW
  have zz := block_lt_of_cell f1_8
  go_region_with (first | (go_at_call 30; refine (right_norm x y r h a b c d _ ?_ HN.out).mono ?_; exact (HS.out.below hq1).drew; rintro e w2 ⟨rfl, hb⟩; have hb2 := below_drew hb; have hqa := q_step hq1 hb2; have e0 := cell_below hb2 f1_0; have d0 := frozen_below hb2 f1_0 g1_0; have e1 := cell_below hb2 f1_1; have d1 := frozen_below hb2 f1_1 g1_1; have e2 := cell_below hb2 f1_2; have d2 := frozen_below hb2 f1_2 g1_2; have e3 := cell_below hb2 f1_3; have d3 := frozen_below hb2 f1_3 g1_3; have e4 := cell_below hb2 f1_4; have d4 := frozen_below hb2 f1_4 g1_4; have e5 := cell_below hb2 f1_5; have d5 := frozen_below hb2 f1_5 g1_5; have e6 := cell_below hb2 f1_6; have d6 := frozen_below hb2 f1_6 g1_6; have e7 := cell_below hb2 f1_7; have d7 := frozen_below hb2 f1_7 g1_7; have e8 := cell_below hb2 f1_8; have d8 := frozen_below hb2 f1_8 g1_8; have e9 := cell_below hb2 f1_9; have d9 := frozen_below hb2 f1_9 g1_9; have e10 := cell_below hb2 f1_10; have d10 := frozen_below hb2 f1_10 g1_10; have e11 := cell_below hb2 f1_11; have d11 := frozen_below hb2 f1_11 g1_11; clear hb hb2) | (go_at_call 30; refine (right_norm x' y' r' h' a' b' c' d' _ ?_ HN2.out).mono ?_; exact (HS.out.below hqa); rintro e w3 ⟨rfl, hb⟩; have hqb := q_step hqa hb; have u0 := cell_below hb e0; have v0 := frozen_below hb e0 d0; have u1 := cell_below hb e1; have v1 := frozen_below hb e1 d1; have u2 := cell_below hb e2; have v2 := frozen_below hb e2 d2; have u3 := cell_below hb e3; have v3 := frozen_below hb e3 d3; have u4 := cell_below hb e4; have v4 := frozen_below hb e4 d4; have u5 := cell_below hb e5; have v5 := frozen_below hb e5 d5; have u6 := cell_below hb e6; have v6 := frozen_below hb e6 d6; have u7 := cell_below hb e7; have v7 := frozen_below hb e7 d7; have u8 := cell_below hb e8; have v8 := frozen_below hb e8 d8; have u9 := cell_below hb e9; have v9 := frozen_below hb e9 d9; have u10 := cell_below hb e10; have v10 := frozen_below hb e10 d10; have u11 := cell_below hb e11; have v11 := frozen_below hb e11 d11; clear hb))
  all_goals
    clear e0 d0 e1 d1 e2 d2 e3 d3 e4 d4 e5 d5 e6 d6 e7 d7 e8 d8 e9 d9 e10 d10 e11 d11 hqa hq1 zz f1_0 f1_1 f1_2 f1_3 f1_4 f1_5 f1_6 f1_7 f1_8 f1_9 f1_10 f1_11 g1_0 g1_1 g1_2 g1_3 g1_4 g1_5 g1_6 g1_7 g1_8 g1_9 g1_10 g1_11
    generalize hW : (((((((w3.setCell ⟨w.heap.size, 0, none⟩ (Value.int IntKind.i64 a)).setCell ⟨w.heap.size, 1, none⟩ (Value.int IntKind.i64 b)).setCell ⟨w.heap.size, 2, none⟩ (Value.int IntKind.i64 c)).setCell ⟨w.heap.size, 3, none⟩ (Value.int IntKind.i64 d)).setCell ⟨w.heap.size + 1, 0, none⟩ (Value.int IntKind.i64 a')).setCell ⟨w.heap.size + 1, 1, none⟩ (Value.int IntKind.i64 b')).setCell ⟨w.heap.size + 1, 2, none⟩ (Value.int IntKind.i64 c')).setCell ⟨w.heap.size + 1, 3, none⟩ (Value.int IntKind.i64 d') = W4
    have hS : set4 (set4 w3 (w.heap.size) (Value.int IntKind.i64 a) (Value.int IntKind.i64 b) (Value.int IntKind.i64 c) (Value.int IntKind.i64 d)) (w.heap.size + 1) (Value.int IntKind.i64 a') (Value.int IntKind.i64 b') (Value.int IntKind.i64 c') (Value.int IntKind.i64 d') = W4 := hW
    clear hW
    have m0 : W4.cell? ⟨w.heap.size, 0, none⟩ = some (i6 a) := by rw [← hS]; exact set4_o (set4_0 u0) (by omega)
    have m1 : W4.cell? ⟨w.heap.size, 1, none⟩ = some (i6 b) := by rw [← hS]; exact set4_o (set4_1 u1) (by omega)
    have m2 : W4.cell? ⟨w.heap.size, 2, none⟩ = some (i6 c) := by rw [← hS]; exact set4_o (set4_2 u2) (by omega)
    have m3 : W4.cell? ⟨w.heap.size, 3, none⟩ = some (i6 d) := by rw [← hS]; exact set4_o (set4_3 u3) (by omega)
    have m4 : W4.cell? ⟨w.heap.size + 1, 0, none⟩ = some (i6 a') := by rw [← hS]; exact set4_0 (set4_o u4 (by omega))
    have m5 : W4.cell? ⟨w.heap.size + 1, 1, none⟩ = some (i6 b') := by rw [← hS]; exact set4_1 (set4_o u5 (by omega))
    have m6 : W4.cell? ⟨w.heap.size + 1, 2, none⟩ = some (i6 c') := by rw [← hS]; exact set4_2 (set4_o u6 (by omega))
    have m7 : W4.cell? ⟨w.heap.size + 1, 3, none⟩ = some (i6 d') := by rw [← hS]; exact set4_3 (set4_o u7 (by omega))
    have m8 : W4.cell? ⟨w.heap.size + 1 + 1, 0, none⟩ = some (i6 0) := by rw [← hS]; exact set4_o (set4_o u8 (by omega)) (by omega)
    have m9 : W4.cell? ⟨w.heap.size + 1 + 1, 1, none⟩ = some (i6 0) := by rw [← hS]; exact set4_o (set4_o u9 (by omega)) (by omega)
    have m10 : W4.cell? ⟨w.heap.size + 1 + 1, 2, none⟩ = some (i6 0) := by rw [← hS]; exact set4_o (set4_o u10 (by omega)) (by omega)
    have m11 : W4.cell? ⟨w.heap.size + 1 + 1, 3, none⟩ = some (i6 0) := by rw [← hS]; exact set4_o (set4_o u11 (by omega)) (by omega)
    have n8 : W4.frozen? ⟨w.heap.size + 1 + 1, 0, none⟩ = false := by rw [← hS]; exact set4_f (set4_f v8)
    have n9 : W4.frozen? ⟨w.heap.size + 1 + 1, 1, none⟩ = false := by rw [← hS]; exact set4_f (set4_f v9)
    have n10 : W4.frozen? ⟨w.heap.size + 1 + 1, 2, none⟩ = false := by rw [← hS]; exact set4_f (set4_f v10)
    have n11 : W4.frozen? ⟨w.heap.size + 1 + 1, 3, none⟩ = false := by rw [← hS]; exact set4_f (set4_f v11)
    have hq4 : Below w.heap.size w W4 := by rw [← hS]; exact set4_q (set4_q hqb (Nat.le_refl _)) (by omega)
    clear hS hqb u0 v0 u1 v1 u2 v2 u3 v3 u4 v4 u5 v5 u6 v6 u7 v7 u8 v8 u9 v9 u10 v10 u11 v11
    have zz := block_lt_of_cell m8
  all_goals go_wp2_with fail
  all_goals
    refine (betw_any X0 Y0 X1 Y1 p q s t _ (HS.out.below hq4) HB.out hb1 hb2 hb3 hb4).mono ?_
    rintro e w5 ⟨rfl, hb⟩
    have hq5 := q_step hq4 hb
    have k0 := cell_below hb m8
    have k1 := cell_below hb m9
    have k2 := cell_below hb m10
    have k3 := cell_below hb m11
    have l0 := frozen_below hb m8 n8
    have l1 := frozen_below hb m9 n9
    have l2 := frozen_below hb m10 n10
    have l3 := frozen_below hb m11 n11
    clear hb hq4 m0 m1 m2 m3 m4 m5 m6 m7 m8 m9 m10 m11 n8 n9 n10 n11 zz hX0 hY0 hX1 hY1
    have zz := block_lt_of_cell k0
    go_wp2
    generalize hW : (((w5.setCell ⟨w.heap.size + 1 + 1, 0, none⟩ (Value.int IntKind.i64 p)).setCell ⟨w.heap.size + 1 + 1, 1, none⟩ (Value.int IntKind.i64 q)).setCell ⟨w.heap.size + 1 + 1, 2, none⟩ (Value.int IntKind.i64 s)).setCell ⟨w.heap.size + 1 + 1, 3, none⟩ (Value.int IntKind.i64 t) = W99
    have hS : set4 w5 (w.heap.size + 1 + 1) (Value.int IntKind.i64 p) (Value.int IntKind.i64 q) (Value.int IntKind.i64 s) (Value.int IntKind.i64 t) = W99 := hW
    clear hW
    have u0 : W99.cell? ⟨w.heap.size + 1 + 1, 0, none⟩ = some (i6 p) := by rw [← hS]; exact set4_0 k0
    have u1 : W99.cell? ⟨w.heap.size + 1 + 1, 1, none⟩ = some (i6 q) := by rw [← hS]; exact set4_1 k1
    have u2 : W99.cell? ⟨w.heap.size + 1 + 1, 2, none⟩ = some (i6 s) := by rw [← hS]; exact set4_2 k2
    have u3 : W99.cell? ⟨w.heap.size + 1 + 1, 3, none⟩ = some (i6 t) := by rw [← hS]; exact set4_3 k3
    have hq99 : Below w.heap.size w W99 := by rw [← hS]; exact set4_q hq5 (by omega)
    clear hS
    refine bodyPost_ret (v := rectV p q s t) (by simp [results, Tryd.results20, go_sem, u0, u1, u2, u3]) rfl ⟨rfl, hq99⟩
end Go.Proofs.YtlofhbeifgaoeaaDoor
