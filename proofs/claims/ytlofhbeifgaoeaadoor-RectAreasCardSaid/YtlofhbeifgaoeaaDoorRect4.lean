import Derived.Test.YtlofhbeifgaoeaaDoorRect3
namespace Go.Proofs.YtlofhbeifgaoeaaDoor
open Go Go.RowKit

theorem betw_some (x0 y0 x1 y1 : Int) (w : World) (h1 : x0 < x1) (h2 : y0 < y1) (b1 : -4194304 ≤ x0) (b2 : x1 ≤ 4194304) (b3 : -4194304 ≤ y0) (b4 : y1 ≤ 4194304) :
    Calls Tryd.prog 31 #[i6 x0, i6 y0, i6 x1, i6 y1] w fun e w' => e = .returned (rectV x0 y0 (x1 - x0) (y1 - y0)) ∧ Below w.heap.size w w' := by
  go_enter Tryd.func31, Tryd.ntmps31
  go_wp2_with fail
  go_returns
  exact ⟨rfl, by (repeat' (first | with_reducible exact Below.refl _ _ | with_reducible assumption | with_reducible refine q_alloc ?_ _ | with_reducible refine q_drew ?_ | with_reducible refine q_drewN _ ?_ | with_reducible refine q_setCell ?_ ?_ _ | (left; simp; done) | (right; simp; done) | (right; dsimp only; omega) | (left; dsimp only; omega)))⟩
theorem betw_x (x0 y0 x1 y1 : Int) (w : World) (hs : RowAt 0 noneCells w) (h1 : x1 ≤ x0) :
    Calls Tryd.prog 31 #[i6 x0, i6 y0, i6 x1, i6 y1] w fun e w' => e = .returned (rectV 0 0 0 0) ∧ Below w.heap.size w w' := by
  go_enter Tryd.func31, Tryd.ntmps31
  go_wp2_with (with_reducible refine at_load 23 (.global 0) ?_; refine wpList_load_cells rfl 23 _ rfl 0 rfl noneCells _ (hs.alloc _) Tryd.underlying23 rfl sizeRect ?_)
  go_returns
  exact ⟨rfl, by (repeat' (first | with_reducible exact Below.refl _ _ | with_reducible assumption | with_reducible refine q_alloc ?_ _ | with_reducible refine q_drew ?_ | with_reducible refine q_drewN _ ?_ | with_reducible refine q_setCell ?_ ?_ _ | (left; simp; done) | (right; simp; done) | (right; dsimp only; omega) | (left; dsimp only; omega)))⟩
theorem betw_y (x0 y0 x1 y1 : Int) (w : World) (hs : RowAt 0 noneCells w) (h0 : x0 < x1) (h1 : y1 ≤ y0) :
    Calls Tryd.prog 31 #[i6 x0, i6 y0, i6 x1, i6 y1] w fun e w' => e = .returned (rectV 0 0 0 0) ∧ Below w.heap.size w w' := by
  go_enter Tryd.func31, Tryd.ntmps31
  go_wp2_with (with_reducible refine at_load 23 (.global 0) ?_; refine wpList_load_cells rfl 23 _ rfl 0 rfl noneCells _ (hs.alloc _) Tryd.underlying23 rfl sizeRect ?_)
  go_returns
  exact ⟨rfl, by (repeat' (first | with_reducible exact Below.refl _ _ | with_reducible assumption | with_reducible refine q_alloc ?_ _ | with_reducible refine q_drew ?_ | with_reducible refine q_drewN _ ?_ | with_reducible refine q_setCell ?_ ?_ _ | (left; simp; done) | (right; simp; done) | (right; dsimp only; omega) | (left; dsimp only; omega)))⟩
/-- SHIFT -/
def farB (d : Int) : Bool := decide (d < -2097152) || decide (2097152 < d)
theorem far_any (d : Int) (w : World) :
    Calls Tryd.prog 35 #[i6 d] w fun e w' => e = .returned (.bool (farB d)) ∧ w = w' := by
  unfold farB
  by_cases h1 : d < -2097152
  · go_enter Tryd.func35, Tryd.ntmps35
    go_wp2
    go_returns
    exact ⟨ret_bool (by first | rfl | (simp [*]; done) | (simp; omega)), rfl⟩
  · by_cases h2 : 2097152 < d
    · go_enter Tryd.func35, Tryd.ntmps35
      go_wp2
      go_returns
      exact ⟨ret_bool (by first | rfl | (simp [*]; done) | (simp; omega)), rfl⟩
    · go_enter Tryd.func35, Tryd.ntmps35
      go_wp2
      go_returns
      exact ⟨ret_bool (by first | rfl | (simp [*]; done) | (simp; omega)), rfl⟩

set_option maxHeartbeats 2000000 in
theorem shift_near (x y r h a b c d dx dy a' b' c' d' : Int) (w : World) (hs : RowAt 0 noneCells w) (n : Norm x y r h a b c d) (hc : 1 ≤ c)
    (b1 : -2097152 ≤ dx) (b2 : dx ≤ 2097152) (b3 : -2097152 ≤ dy) (b4 : dy ≤ 2097152) (n2 : Norm (a + dx) (b + dy) c d a' b' c' d') :
    Calls Tryd.prog 27 #[rectV x y r h, i6 dx, i6 dy] w fun e w' => e = .returned (rectV a' b' c' d') ∧ Below w.heap.size w w' := by
  have hz : zeroB a b c d = false := decide_eq_false (by omega)
  have fx : farB dx = false := by unfold farB; rw [decide_eq_false (by omega), decide_eq_false (by omega)]; rfl
  have fy : farB dy = false := by unfold farB; rw [decide_eq_false (by omega), decide_eq_false (by omega)]; rfl
  have HZ := Lib.hid hz
  have HS := Lib.hid hs
  have HN := Lib.hid n
  have HN2 := Lib.hid n2
  have bn := n.bounds
  clear hs n n2 hz
  go_enter Tryd.func27, Tryd.ntmps27
  go_wp2_with fail
  generalize hW : (w.alloc (Obj.cells #[Value.int IntKind.i64 x, Value.int IntKind.i64 y, Value.int IntKind.i64 r, Value.int IntKind.i64 h] 23)).alloc (Obj.cells #[Value.int IntKind.i64 0, Value.int IntKind.i64 0, Value.int IntKind.i64 0, Value.int IntKind.i64 0] 23) = W1
  have f1_0 : W1.cell? ⟨w.heap.size, 0, none⟩ = some (i6 x) := by rw [← hW]; exact cell_old (cell_new rfl)
  have g1_0 : W1.frozen? ⟨w.heap.size, 0, none⟩ = false := by rw [← hW]; exact (frozen_old (cell_new rfl) frozen_new)
  have f1_1 : W1.cell? ⟨w.heap.size, 1, none⟩ = some (i6 y) := by rw [← hW]; exact cell_old (cell_new rfl)
  have g1_1 : W1.frozen? ⟨w.heap.size, 1, none⟩ = false := by rw [← hW]; exact (frozen_old (cell_new rfl) frozen_new)
  have f1_2 : W1.cell? ⟨w.heap.size, 2, none⟩ = some (i6 r) := by rw [← hW]; exact cell_old (cell_new rfl)
  have g1_2 : W1.frozen? ⟨w.heap.size, 2, none⟩ = false := by rw [← hW]; exact (frozen_old (cell_new rfl) frozen_new)
  have f1_3 : W1.cell? ⟨w.heap.size, 3, none⟩ = some (i6 h) := by rw [← hW]; exact cell_old (cell_new rfl)
  have g1_3 : W1.frozen? ⟨w.heap.size, 3, none⟩ = false := by rw [← hW]; exact (frozen_old (cell_new rfl) frozen_new)
  have f1_4 : W1.cell? ⟨w.heap.size + 1, 0, none⟩ = some (i6 0) := by rw [← hW]; exact cell_new1 rfl
  have g1_4 : W1.frozen? ⟨w.heap.size + 1, 0, none⟩ = false := by rw [← hW]; exact frozen_new1
  have f1_5 : W1.cell? ⟨w.heap.size + 1, 1, none⟩ = some (i6 0) := by rw [← hW]; exact cell_new1 rfl
  have g1_5 : W1.frozen? ⟨w.heap.size + 1, 1, none⟩ = false := by rw [← hW]; exact frozen_new1
  have f1_6 : W1.cell? ⟨w.heap.size + 1, 2, none⟩ = some (i6 0) := by rw [← hW]; exact cell_new1 rfl
  have g1_6 : W1.frozen? ⟨w.heap.size + 1, 2, none⟩ = false := by rw [← hW]; exact frozen_new1
  have f1_7 : W1.cell? ⟨w.heap.size + 1, 3, none⟩ = some (i6 0) := by rw [← hW]; exact cell_new1 rfl
  have g1_7 : W1.frozen? ⟨w.heap.size + 1, 3, none⟩ = false := by rw [← hW]; exact frozen_new1
  have hq1 : Below w.heap.size w W1 := by rw [← hW]; (repeat' (first | with_reducible exact Below.refl _ _ | with_reducible assumption | with_reducible refine q_alloc ?_ _ | with_reducible refine q_drew ?_ | with_reducible refine q_drewN _ ?_ | with_reducible refine q_setCell ?_ ?_ _ | (left; simp; done) | (right; simp; done) | (right; dsimp only; omega) | (left; dsimp only; omega)))
  clear hW
  refine (right_norm x y r h a b c d _ (HS.out.below hq1) HN.out).mono ?_
  rintro e w2 ⟨rfl, hb⟩
  have hq2 : Below w.heap.size w w2 := q_step hq1 hb
  have f2_0 := cell_below hb f1_0
  have f2_1 := cell_below hb f1_1
  have f2_2 := cell_below hb f1_2
  have f2_3 := cell_below hb f1_3
  have f2_4 := cell_below hb f1_4
  have f2_5 := cell_below hb f1_5
  have f2_6 := cell_below hb f1_6
  have f2_7 := cell_below hb f1_7
  have g2_0 := frozen_below hb f1_0 g1_0
  have g2_1 := frozen_below hb f1_1 g1_1
  have g2_2 := frozen_below hb f1_2 g1_2
  have g2_3 := frozen_below hb f1_3 g1_3
  have g2_4 := frozen_below hb f1_4 g1_4
  have g2_5 := frozen_below hb f1_5 g1_5
  have g2_6 := frozen_below hb f1_6 g1_6
  have g2_7 := frozen_below hb f1_7 g1_7
  clear hb f1_0 f1_1 f1_2 f1_3 f1_4 f1_5 f1_6 f1_7 g1_0 g1_1 g1_2 g1_3 g1_4 g1_5 g1_6 g1_7 hq1
  have z2_1 := block_lt_of_cell f2_0
  have z2_2 := block_lt_of_cell f2_4
  go_upto_region 2 with fail
  generalize hW : ((((w2).setCell ⟨w.heap.size, 0, none⟩ (Value.int IntKind.i64 a)).setCell ⟨w.heap.size, 1, none⟩ (Value.int IntKind.i64 b)).setCell ⟨w.heap.size, 2, none⟩ (Value.int IntKind.i64 c)).setCell ⟨w.heap.size, 3, none⟩ (Value.int IntKind.i64 d) = W3
  have hS : set4 w2 (w.heap.size) (Value.int IntKind.i64 a) (Value.int IntKind.i64 b) (Value.int IntKind.i64 c) (Value.int IntKind.i64 d) = W3 := hW
  clear hW
  have f3_0 : W3.cell? ⟨w.heap.size, 0, none⟩ = some (i6 a) := by rw [← hS]; exact set4_0 f2_0
  have f3_1 : W3.cell? ⟨w.heap.size, 1, none⟩ = some (i6 b) := by rw [← hS]; exact set4_1 f2_1
  have f3_2 : W3.cell? ⟨w.heap.size, 2, none⟩ = some (i6 c) := by rw [← hS]; exact set4_2 f2_2
  have f3_3 : W3.cell? ⟨w.heap.size, 3, none⟩ = some (i6 d) := by rw [← hS]; exact set4_3 f2_3
  have f3_4 : W3.cell? ⟨w.heap.size + 1, 0, none⟩ = some (i6 0) := by rw [← hS]; exact set4_o f2_4 (by omega)
  have f3_5 : W3.cell? ⟨w.heap.size + 1, 1, none⟩ = some (i6 0) := by rw [← hS]; exact set4_o f2_5 (by omega)
  have f3_6 : W3.cell? ⟨w.heap.size + 1, 2, none⟩ = some (i6 0) := by rw [← hS]; exact set4_o f2_6 (by omega)
  have f3_7 : W3.cell? ⟨w.heap.size + 1, 3, none⟩ = some (i6 0) := by rw [← hS]; exact set4_o f2_7 (by omega)
  have g3_0 : W3.frozen? ⟨w.heap.size, 0, none⟩ = false := by rw [← hS]; exact set4_f g2_0
  have g3_1 : W3.frozen? ⟨w.heap.size, 1, none⟩ = false := by rw [← hS]; exact set4_f g2_1
  have g3_2 : W3.frozen? ⟨w.heap.size, 2, none⟩ = false := by rw [← hS]; exact set4_f g2_2
  have g3_3 : W3.frozen? ⟨w.heap.size, 3, none⟩ = false := by rw [← hS]; exact set4_f g2_3
  have g3_4 : W3.frozen? ⟨w.heap.size + 1, 0, none⟩ = false := by rw [← hS]; exact set4_f g2_4
  have g3_5 : W3.frozen? ⟨w.heap.size + 1, 1, none⟩ = false := by rw [← hS]; exact set4_f g2_5
  have g3_6 : W3.frozen? ⟨w.heap.size + 1, 2, none⟩ = false := by rw [← hS]; exact set4_f g2_6
  have g3_7 : W3.frozen? ⟨w.heap.size + 1, 3, none⟩ = false := by rw [← hS]; exact set4_f g2_7
  have hq3 : Below w.heap.size w W3 := by rw [← hS]; exact set4_q hq2 (Nat.le_refl _)
  clear hS f2_0 f2_1 f2_2 f2_3 f2_4 f2_5 f2_6 f2_7 g2_0 g2_1 g2_2 g2_3 g2_4 g2_5 g2_6 g2_7 hq2 z2_1 z2_2
  have z3_1 := block_lt_of_cell f3_0
  have z3_2 := block_lt_of_cell f3_4
  go_wp2_with (first | (with_reducible refine at_load 23 (.global 0) ?_; refine wpList_load_cells rfl 23 _ rfl 0 rfl noneCells _ (HS.out.below hq3) Tryd.underlying23 rfl sizeRect ?_) | (with_reducible refine at_bin .eql 23 ?_; refine wpList_eqAgg rfl .eql 23 _ _ _ rfl _ _ rfl rfl eqgRect (rect_eqlz HZ.out _) ?_) | (go_at_call 35; refine (far_any _ _).mono ?_; rintro e w' ⟨rfl, rfl⟩))
  have p0 : ((W3.setCell ⟨w.heap.size, 0, none⟩ (Value.int IntKind.i64 (a + dx))).setCell ⟨w.heap.size, 1, none⟩ (Value.int IntKind.i64 (b + dy))).cell? ⟨w.heap.size + 1, 0, none⟩ = some (i6 0) := set_far (set_far f3_4 (blk_ne (by omega))) (blk_ne (by omega))
  have r0 : ((W3.setCell ⟨w.heap.size, 0, none⟩ (Value.int IntKind.i64 (a + dx))).setCell ⟨w.heap.size, 1, none⟩ (Value.int IntKind.i64 (b + dy))).frozen? ⟨w.heap.size + 1, 0, none⟩ = false := by simpa using g3_4
  have p1 : ((W3.setCell ⟨w.heap.size, 0, none⟩ (Value.int IntKind.i64 (a + dx))).setCell ⟨w.heap.size, 1, none⟩ (Value.int IntKind.i64 (b + dy))).cell? ⟨w.heap.size + 1, 1, none⟩ = some (i6 0) := set_far (set_far f3_5 (blk_ne (by omega))) (blk_ne (by omega))
  have r1 : ((W3.setCell ⟨w.heap.size, 0, none⟩ (Value.int IntKind.i64 (a + dx))).setCell ⟨w.heap.size, 1, none⟩ (Value.int IntKind.i64 (b + dy))).frozen? ⟨w.heap.size + 1, 1, none⟩ = false := by simpa using g3_5
  have p2 : ((W3.setCell ⟨w.heap.size, 0, none⟩ (Value.int IntKind.i64 (a + dx))).setCell ⟨w.heap.size, 1, none⟩ (Value.int IntKind.i64 (b + dy))).cell? ⟨w.heap.size + 1, 2, none⟩ = some (i6 0) := set_far (set_far f3_6 (blk_ne (by omega))) (blk_ne (by omega))
  have r2 : ((W3.setCell ⟨w.heap.size, 0, none⟩ (Value.int IntKind.i64 (a + dx))).setCell ⟨w.heap.size, 1, none⟩ (Value.int IntKind.i64 (b + dy))).frozen? ⟨w.heap.size + 1, 2, none⟩ = false := by simpa using g3_6
  have p3 : ((W3.setCell ⟨w.heap.size, 0, none⟩ (Value.int IntKind.i64 (a + dx))).setCell ⟨w.heap.size, 1, none⟩ (Value.int IntKind.i64 (b + dy))).cell? ⟨w.heap.size + 1, 3, none⟩ = some (i6 0) := set_far (set_far f3_7 (blk_ne (by omega))) (blk_ne (by omega))
  have r3 : ((W3.setCell ⟨w.heap.size, 0, none⟩ (Value.int IntKind.i64 (a + dx))).setCell ⟨w.heap.size, 1, none⟩ (Value.int IntKind.i64 (b + dy))).frozen? ⟨w.heap.size + 1, 3, none⟩ = false := by simpa using g3_7
  have hq : Below w.heap.size w ((W3.setCell ⟨w.heap.size, 0, none⟩ (Value.int IntKind.i64 (a + dx))).setCell ⟨w.heap.size, 1, none⟩ (Value.int IntKind.i64 (b + dy))) := q_setCell (q_setCell hq3 (Or.inr (Nat.le_refl _)) _) (Or.inr (Nat.le_refl _)) _
  generalize (W3.setCell ⟨w.heap.size, 0, none⟩ (Value.int IntKind.i64 (a + dx))).setCell ⟨w.heap.size, 1, none⟩ (Value.int IntKind.i64 (b + dy)) = W9 at p0 p1 p2 p3 r0 r1 r2 r3 hq ⊢
  clear f3_0 f3_1 f3_2 f3_3 f3_4 f3_5 f3_6 f3_7 g3_0 g3_1 g3_2 g3_3 g3_4 g3_5 g3_6 g3_7 hq3 z3_1 z3_2
  refine (right_norm (a + dx) (b + dy) c d a' b' c' d' _ (HS.out.below hq) HN2.out).mono ?_
  rintro e w5 ⟨rfl, hb⟩
  have hq5 : Below w.heap.size w w5 := q_step hq hb
  have s0 := cell_below hb p0
  have t0 := frozen_below hb p0 r0
  have s1 := cell_below hb p1
  have t1 := frozen_below hb p1 r1
  have s2 := cell_below hb p2
  have t2 := frozen_below hb p2 r2
  have s3 := cell_below hb p3
  have t3 := frozen_below hb p3 r3
  clear hb p0 p1 p2 p3 r0 r1 r2 r3 hq HS HN HN2 HZ
  have z5 := block_lt_of_cell s0
  go_wp2
  generalize hW : (((w5.setCell ⟨w.heap.size + 1, 0, none⟩ (Value.int IntKind.i64 a')).setCell ⟨w.heap.size + 1, 1, none⟩ (Value.int IntKind.i64 b')).setCell ⟨w.heap.size + 1, 2, none⟩ (Value.int IntKind.i64 c')).setCell ⟨w.heap.size + 1, 3, none⟩ (Value.int IntKind.i64 d') = W6
  have hS : set4 w5 (w.heap.size + 1) (Value.int IntKind.i64 a') (Value.int IntKind.i64 b') (Value.int IntKind.i64 c') (Value.int IntKind.i64 d') = W6 := hW
  clear hW
  have u0 : W6.cell? ⟨w.heap.size + 1, 0, none⟩ = some (i6 a') := by rw [← hS]; exact set4_0 s0
  have u1 : W6.cell? ⟨w.heap.size + 1, 1, none⟩ = some (i6 b') := by rw [← hS]; exact set4_1 s1
  have u2 : W6.cell? ⟨w.heap.size + 1, 2, none⟩ = some (i6 c') := by rw [← hS]; exact set4_2 s2
  have u3 : W6.cell? ⟨w.heap.size + 1, 3, none⟩ = some (i6 d') := by rw [← hS]; exact set4_3 s3
  have hq6 : Below w.heap.size w W6 := by rw [← hS]; exact set4_q hq5 (by omega)
  clear hS
  refine bodyPost_ret (v := rectV a' b' c' d') (by simp [results, Tryd.results27, go_sem, u0, u1, u2, u3]) rfl ⟨rfl, hq6⟩

set_option maxHeartbeats 2000000 in
theorem shift_zero (x y r h dx dy : Int) (w : World) (hs : RowAt 0 noneCells w) (n : Norm x y r h 0 0 0 0) :
    Calls Tryd.prog 27 #[rectV x y r h, i6 dx, i6 dy] w fun e w' => e = .returned (rectV 0 0 0 0) ∧ Below w.heap.size w w' := by
  have hz : zeroB 0 0 0 0 = true := by decide
  have HZ := Lib.hid hz
  have HS := Lib.hid hs
  have HN := Lib.hid n
  clear hs n hz
  go_enter Tryd.func27, Tryd.ntmps27
  go_wp2_with fail
  generalize hW : (w.alloc (Obj.cells #[Value.int IntKind.i64 x, Value.int IntKind.i64 y, Value.int IntKind.i64 r, Value.int IntKind.i64 h] 23)).alloc (Obj.cells #[Value.int IntKind.i64 0, Value.int IntKind.i64 0, Value.int IntKind.i64 0, Value.int IntKind.i64 0] 23) = W1
  have f1_0 : W1.cell? ⟨w.heap.size, 0, none⟩ = some (i6 x) := by rw [← hW]; exact cell_old (cell_new rfl)
  have g1_0 : W1.frozen? ⟨w.heap.size, 0, none⟩ = false := by rw [← hW]; exact (frozen_old (cell_new rfl) frozen_new)
  have f1_1 : W1.cell? ⟨w.heap.size, 1, none⟩ = some (i6 y) := by rw [← hW]; exact cell_old (cell_new rfl)
  have g1_1 : W1.frozen? ⟨w.heap.size, 1, none⟩ = false := by rw [← hW]; exact (frozen_old (cell_new rfl) frozen_new)
  have f1_2 : W1.cell? ⟨w.heap.size, 2, none⟩ = some (i6 r) := by rw [← hW]; exact cell_old (cell_new rfl)
  have g1_2 : W1.frozen? ⟨w.heap.size, 2, none⟩ = false := by rw [← hW]; exact (frozen_old (cell_new rfl) frozen_new)
  have f1_3 : W1.cell? ⟨w.heap.size, 3, none⟩ = some (i6 h) := by rw [← hW]; exact cell_old (cell_new rfl)
  have g1_3 : W1.frozen? ⟨w.heap.size, 3, none⟩ = false := by rw [← hW]; exact (frozen_old (cell_new rfl) frozen_new)
  have f1_4 : W1.cell? ⟨w.heap.size + 1, 0, none⟩ = some (i6 0) := by rw [← hW]; exact cell_new1 rfl
  have g1_4 : W1.frozen? ⟨w.heap.size + 1, 0, none⟩ = false := by rw [← hW]; exact frozen_new1
  have f1_5 : W1.cell? ⟨w.heap.size + 1, 1, none⟩ = some (i6 0) := by rw [← hW]; exact cell_new1 rfl
  have g1_5 : W1.frozen? ⟨w.heap.size + 1, 1, none⟩ = false := by rw [← hW]; exact frozen_new1
  have f1_6 : W1.cell? ⟨w.heap.size + 1, 2, none⟩ = some (i6 0) := by rw [← hW]; exact cell_new1 rfl
  have g1_6 : W1.frozen? ⟨w.heap.size + 1, 2, none⟩ = false := by rw [← hW]; exact frozen_new1
  have f1_7 : W1.cell? ⟨w.heap.size + 1, 3, none⟩ = some (i6 0) := by rw [← hW]; exact cell_new1 rfl
  have g1_7 : W1.frozen? ⟨w.heap.size + 1, 3, none⟩ = false := by rw [← hW]; exact frozen_new1
  have hq1 : Below w.heap.size w W1 := by rw [← hW]; (repeat' (first | with_reducible exact Below.refl _ _ | with_reducible assumption | with_reducible refine q_alloc ?_ _ | with_reducible refine q_drew ?_ | with_reducible refine q_drewN _ ?_ | with_reducible refine q_setCell ?_ ?_ _ | (left; simp; done) | (right; simp; done) | (right; dsimp only; omega) | (left; dsimp only; omega)))
  clear hW
  refine (right_norm x y r h 0 0 0 0 _ (HS.out.below hq1) HN.out).mono ?_
  rintro e w2 ⟨rfl, hb⟩
  have hq2 : Below w.heap.size w w2 := q_step hq1 hb
  have f2_0 := cell_below hb f1_0
  have f2_1 := cell_below hb f1_1
  have f2_2 := cell_below hb f1_2
  have f2_3 := cell_below hb f1_3
  have f2_4 := cell_below hb f1_4
  have f2_5 := cell_below hb f1_5
  have f2_6 := cell_below hb f1_6
  have f2_7 := cell_below hb f1_7
  have g2_0 := frozen_below hb f1_0 g1_0
  have g2_1 := frozen_below hb f1_1 g1_1
  have g2_2 := frozen_below hb f1_2 g1_2
  have g2_3 := frozen_below hb f1_3 g1_3
  have g2_4 := frozen_below hb f1_4 g1_4
  have g2_5 := frozen_below hb f1_5 g1_5
  have g2_6 := frozen_below hb f1_6 g1_6
  have g2_7 := frozen_below hb f1_7 g1_7
  clear hb f1_0 f1_1 f1_2 f1_3 f1_4 f1_5 f1_6 f1_7 g1_0 g1_1 g1_2 g1_3 g1_4 g1_5 g1_6 g1_7 hq1
  have z2_1 := block_lt_of_cell f2_0
  have z2_2 := block_lt_of_cell f2_4
  go_upto_region 2 with fail
  generalize hW : ((((w2).setCell ⟨w.heap.size, 0, none⟩ (Value.int IntKind.i64 0)).setCell ⟨w.heap.size, 1, none⟩ (Value.int IntKind.i64 0)).setCell ⟨w.heap.size, 2, none⟩ (Value.int IntKind.i64 0)).setCell ⟨w.heap.size, 3, none⟩ (Value.int IntKind.i64 0) = W3
  have hS : set4 w2 (w.heap.size) (Value.int IntKind.i64 0) (Value.int IntKind.i64 0) (Value.int IntKind.i64 0) (Value.int IntKind.i64 0) = W3 := hW
  clear hW
  have f3_0 : W3.cell? ⟨w.heap.size, 0, none⟩ = some (i6 0) := by rw [← hS]; exact set4_0 f2_0
  have f3_1 : W3.cell? ⟨w.heap.size, 1, none⟩ = some (i6 0) := by rw [← hS]; exact set4_1 f2_1
  have f3_2 : W3.cell? ⟨w.heap.size, 2, none⟩ = some (i6 0) := by rw [← hS]; exact set4_2 f2_2
  have f3_3 : W3.cell? ⟨w.heap.size, 3, none⟩ = some (i6 0) := by rw [← hS]; exact set4_3 f2_3
  have f3_4 : W3.cell? ⟨w.heap.size + 1, 0, none⟩ = some (i6 0) := by rw [← hS]; exact set4_o f2_4 (by omega)
  have f3_5 : W3.cell? ⟨w.heap.size + 1, 1, none⟩ = some (i6 0) := by rw [← hS]; exact set4_o f2_5 (by omega)
  have f3_6 : W3.cell? ⟨w.heap.size + 1, 2, none⟩ = some (i6 0) := by rw [← hS]; exact set4_o f2_6 (by omega)
  have f3_7 : W3.cell? ⟨w.heap.size + 1, 3, none⟩ = some (i6 0) := by rw [← hS]; exact set4_o f2_7 (by omega)
  have g3_0 : W3.frozen? ⟨w.heap.size, 0, none⟩ = false := by rw [← hS]; exact set4_f g2_0
  have g3_1 : W3.frozen? ⟨w.heap.size, 1, none⟩ = false := by rw [← hS]; exact set4_f g2_1
  have g3_2 : W3.frozen? ⟨w.heap.size, 2, none⟩ = false := by rw [← hS]; exact set4_f g2_2
  have g3_3 : W3.frozen? ⟨w.heap.size, 3, none⟩ = false := by rw [← hS]; exact set4_f g2_3
  have g3_4 : W3.frozen? ⟨w.heap.size + 1, 0, none⟩ = false := by rw [← hS]; exact set4_f g2_4
  have g3_5 : W3.frozen? ⟨w.heap.size + 1, 1, none⟩ = false := by rw [← hS]; exact set4_f g2_5
  have g3_6 : W3.frozen? ⟨w.heap.size + 1, 2, none⟩ = false := by rw [← hS]; exact set4_f g2_6
  have g3_7 : W3.frozen? ⟨w.heap.size + 1, 3, none⟩ = false := by rw [← hS]; exact set4_f g2_7
  have hq3 : Below w.heap.size w W3 := by rw [← hS]; exact set4_q hq2 (Nat.le_refl _)
  clear hS f2_0 f2_1 f2_2 f2_3 f2_4 f2_5 f2_6 f2_7 g2_0 g2_1 g2_2 g2_3 g2_4 g2_5 g2_6 g2_7 hq2 z2_1 z2_2
  have z3_1 := block_lt_of_cell f3_0
  have z3_2 := block_lt_of_cell f3_4
  go_wp2_with (first | (with_reducible refine at_load 23 (.global 0) ?_; refine wpList_load_cells rfl 23 _ rfl 0 rfl noneCells _ (HS.out.below hq3) Tryd.underlying23 rfl sizeRect ?_) | (with_reducible refine at_bin .eql 23 ?_; refine wpList_eqAgg rfl .eql 23 _ _ _ rfl _ _ rfl rfl eqgRect (rect_eqlz HZ.out _) ?_) | (go_at_call 35; refine (far_any _ _).mono ?_; rintro e w' ⟨rfl, rfl⟩))
  generalize hW : (((W3.setCell ⟨w.heap.size + 1, 0, none⟩ (Value.int IntKind.i64 0)).setCell ⟨w.heap.size + 1, 1, none⟩ (Value.int IntKind.i64 0)).setCell ⟨w.heap.size + 1, 2, none⟩ (Value.int IntKind.i64 0)).setCell ⟨w.heap.size + 1, 3, none⟩ (Value.int IntKind.i64 0) = W99
  have hS : set4 W3 (w.heap.size + 1) (Value.int IntKind.i64 0) (Value.int IntKind.i64 0) (Value.int IntKind.i64 0) (Value.int IntKind.i64 0) = W99 := hW
  clear hW
  have u0 : W99.cell? ⟨w.heap.size + 1, 0, none⟩ = some (i6 0) := by rw [← hS]; exact set4_0 f3_4
  have u1 : W99.cell? ⟨w.heap.size + 1, 1, none⟩ = some (i6 0) := by rw [← hS]; exact set4_1 f3_5
  have u2 : W99.cell? ⟨w.heap.size + 1, 2, none⟩ = some (i6 0) := by rw [← hS]; exact set4_2 f3_6
  have u3 : W99.cell? ⟨w.heap.size + 1, 3, none⟩ = some (i6 0) := by rw [← hS]; exact set4_3 f3_7
  have hq99 : Below w.heap.size w W99 := by rw [← hS]; exact set4_q hq3 (by omega)
  clear hS
  refine bodyPost_ret (v := rectV 0 0 0 0) (by simp [results, Tryd.results27, go_sem, u0, u1, u2, u3]) rfl ⟨rfl, hq99⟩

set_option maxHeartbeats 2000000 in
theorem shift_farx (x y r h a b c d dx dy : Int) (w : World) (hs : RowAt 0 noneCells w) (n : Norm x y r h a b c d) (hc : 1 ≤ c) (b1 : dx < -2097152 ∨ 2097152 < dx) :
    Calls Tryd.prog 27 #[rectV x y r h, i6 dx, i6 dy] w fun e w' => e = .returned (rectV 0 0 0 0) ∧ Below w.heap.size w w' := by
  have bn := n.bounds
  have hz : zeroB a b c d = false := decide_eq_false (by omega)
  have fx : farB dx = true := by unfold farB; rcases b1 with h1 | h1 <;> simp [h1]
  clear b1
  have HZ := Lib.hid hz
  have HS := Lib.hid hs
  have HN := Lib.hid n
  clear hs n hz
  go_enter Tryd.func27, Tryd.ntmps27
  go_wp2_with fail
  generalize hW : (w.alloc (Obj.cells #[Value.int IntKind.i64 x, Value.int IntKind.i64 y, Value.int IntKind.i64 r, Value.int IntKind.i64 h] 23)).alloc (Obj.cells #[Value.int IntKind.i64 0, Value.int IntKind.i64 0, Value.int IntKind.i64 0, Value.int IntKind.i64 0] 23) = W1
  have f1_0 : W1.cell? ⟨w.heap.size, 0, none⟩ = some (i6 x) := by rw [← hW]; exact cell_old (cell_new rfl)
  have g1_0 : W1.frozen? ⟨w.heap.size, 0, none⟩ = false := by rw [← hW]; exact (frozen_old (cell_new rfl) frozen_new)
  have f1_1 : W1.cell? ⟨w.heap.size, 1, none⟩ = some (i6 y) := by rw [← hW]; exact cell_old (cell_new rfl)
  have g1_1 : W1.frozen? ⟨w.heap.size, 1, none⟩ = false := by rw [← hW]; exact (frozen_old (cell_new rfl) frozen_new)
  have f1_2 : W1.cell? ⟨w.heap.size, 2, none⟩ = some (i6 r) := by rw [← hW]; exact cell_old (cell_new rfl)
  have g1_2 : W1.frozen? ⟨w.heap.size, 2, none⟩ = false := by rw [← hW]; exact (frozen_old (cell_new rfl) frozen_new)
  have f1_3 : W1.cell? ⟨w.heap.size, 3, none⟩ = some (i6 h) := by rw [← hW]; exact cell_old (cell_new rfl)
  have g1_3 : W1.frozen? ⟨w.heap.size, 3, none⟩ = false := by rw [← hW]; exact (frozen_old (cell_new rfl) frozen_new)
  have f1_4 : W1.cell? ⟨w.heap.size + 1, 0, none⟩ = some (i6 0) := by rw [← hW]; exact cell_new1 rfl
  have g1_4 : W1.frozen? ⟨w.heap.size + 1, 0, none⟩ = false := by rw [← hW]; exact frozen_new1
  have f1_5 : W1.cell? ⟨w.heap.size + 1, 1, none⟩ = some (i6 0) := by rw [← hW]; exact cell_new1 rfl
  have g1_5 : W1.frozen? ⟨w.heap.size + 1, 1, none⟩ = false := by rw [← hW]; exact frozen_new1
  have f1_6 : W1.cell? ⟨w.heap.size + 1, 2, none⟩ = some (i6 0) := by rw [← hW]; exact cell_new1 rfl
  have g1_6 : W1.frozen? ⟨w.heap.size + 1, 2, none⟩ = false := by rw [← hW]; exact frozen_new1
  have f1_7 : W1.cell? ⟨w.heap.size + 1, 3, none⟩ = some (i6 0) := by rw [← hW]; exact cell_new1 rfl
  have g1_7 : W1.frozen? ⟨w.heap.size + 1, 3, none⟩ = false := by rw [← hW]; exact frozen_new1
  have hq1 : Below w.heap.size w W1 := by rw [← hW]; (repeat' (first | with_reducible exact Below.refl _ _ | with_reducible assumption | with_reducible refine q_alloc ?_ _ | with_reducible refine q_drew ?_ | with_reducible refine q_drewN _ ?_ | with_reducible refine q_setCell ?_ ?_ _ | (left; simp; done) | (right; simp; done) | (right; dsimp only; omega) | (left; dsimp only; omega)))
  clear hW
  refine (right_norm x y r h a b c d _ (HS.out.below hq1) HN.out).mono ?_
  rintro e w2 ⟨rfl, hb⟩
  have hq2 : Below w.heap.size w w2 := q_step hq1 hb
  have f2_0 := cell_below hb f1_0
  have f2_1 := cell_below hb f1_1
  have f2_2 := cell_below hb f1_2
  have f2_3 := cell_below hb f1_3
  have f2_4 := cell_below hb f1_4
  have f2_5 := cell_below hb f1_5
  have f2_6 := cell_below hb f1_6
  have f2_7 := cell_below hb f1_7
  have g2_0 := frozen_below hb f1_0 g1_0
  have g2_1 := frozen_below hb f1_1 g1_1
  have g2_2 := frozen_below hb f1_2 g1_2
  have g2_3 := frozen_below hb f1_3 g1_3
  have g2_4 := frozen_below hb f1_4 g1_4
  have g2_5 := frozen_below hb f1_5 g1_5
  have g2_6 := frozen_below hb f1_6 g1_6
  have g2_7 := frozen_below hb f1_7 g1_7
  clear hb f1_0 f1_1 f1_2 f1_3 f1_4 f1_5 f1_6 f1_7 g1_0 g1_1 g1_2 g1_3 g1_4 g1_5 g1_6 g1_7 hq1
  have z2_1 := block_lt_of_cell f2_0
  have z2_2 := block_lt_of_cell f2_4
  go_upto_region 2 with fail
  generalize hW : ((((w2).setCell ⟨w.heap.size, 0, none⟩ (Value.int IntKind.i64 a)).setCell ⟨w.heap.size, 1, none⟩ (Value.int IntKind.i64 b)).setCell ⟨w.heap.size, 2, none⟩ (Value.int IntKind.i64 c)).setCell ⟨w.heap.size, 3, none⟩ (Value.int IntKind.i64 d) = W3
  have hS : set4 w2 (w.heap.size) (Value.int IntKind.i64 a) (Value.int IntKind.i64 b) (Value.int IntKind.i64 c) (Value.int IntKind.i64 d) = W3 := hW
  clear hW
  have f3_0 : W3.cell? ⟨w.heap.size, 0, none⟩ = some (i6 a) := by rw [← hS]; exact set4_0 f2_0
  have f3_1 : W3.cell? ⟨w.heap.size, 1, none⟩ = some (i6 b) := by rw [← hS]; exact set4_1 f2_1
  have f3_2 : W3.cell? ⟨w.heap.size, 2, none⟩ = some (i6 c) := by rw [← hS]; exact set4_2 f2_2
  have f3_3 : W3.cell? ⟨w.heap.size, 3, none⟩ = some (i6 d) := by rw [← hS]; exact set4_3 f2_3
  have f3_4 : W3.cell? ⟨w.heap.size + 1, 0, none⟩ = some (i6 0) := by rw [← hS]; exact set4_o f2_4 (by omega)
  have f3_5 : W3.cell? ⟨w.heap.size + 1, 1, none⟩ = some (i6 0) := by rw [← hS]; exact set4_o f2_5 (by omega)
  have f3_6 : W3.cell? ⟨w.heap.size + 1, 2, none⟩ = some (i6 0) := by rw [← hS]; exact set4_o f2_6 (by omega)
  have f3_7 : W3.cell? ⟨w.heap.size + 1, 3, none⟩ = some (i6 0) := by rw [← hS]; exact set4_o f2_7 (by omega)
  have g3_0 : W3.frozen? ⟨w.heap.size, 0, none⟩ = false := by rw [← hS]; exact set4_f g2_0
  have g3_1 : W3.frozen? ⟨w.heap.size, 1, none⟩ = false := by rw [← hS]; exact set4_f g2_1
  have g3_2 : W3.frozen? ⟨w.heap.size, 2, none⟩ = false := by rw [← hS]; exact set4_f g2_2
  have g3_3 : W3.frozen? ⟨w.heap.size, 3, none⟩ = false := by rw [← hS]; exact set4_f g2_3
  have g3_4 : W3.frozen? ⟨w.heap.size + 1, 0, none⟩ = false := by rw [← hS]; exact set4_f g2_4
  have g3_5 : W3.frozen? ⟨w.heap.size + 1, 1, none⟩ = false := by rw [← hS]; exact set4_f g2_5
  have g3_6 : W3.frozen? ⟨w.heap.size + 1, 2, none⟩ = false := by rw [← hS]; exact set4_f g2_6
  have g3_7 : W3.frozen? ⟨w.heap.size + 1, 3, none⟩ = false := by rw [← hS]; exact set4_f g2_7
  have hq3 : Below w.heap.size w W3 := by rw [← hS]; exact set4_q hq2 (Nat.le_refl _)
  clear hS f2_0 f2_1 f2_2 f2_3 f2_4 f2_5 f2_6 f2_7 g2_0 g2_1 g2_2 g2_3 g2_4 g2_5 g2_6 g2_7 hq2 z2_1 z2_2
  have z3_1 := block_lt_of_cell f3_0
  have z3_2 := block_lt_of_cell f3_4
  go_wp2_with (first | (with_reducible refine at_load 23 (.global 0) ?_; refine wpList_load_cells rfl 23 _ rfl 0 rfl noneCells _ (HS.out.below hq3) Tryd.underlying23 rfl sizeRect ?_) | (with_reducible refine at_bin .eql 23 ?_; refine wpList_eqAgg rfl .eql 23 _ _ _ rfl _ _ rfl rfl eqgRect (rect_eqlz HZ.out _) ?_) | (go_at_call 35; refine (far_any _ _).mono ?_; rintro e w' ⟨rfl, rfl⟩))
  generalize hW : (((W3.setCell ⟨w.heap.size + 1, 0, none⟩ (Value.int IntKind.i64 0)).setCell ⟨w.heap.size + 1, 1, none⟩ (Value.int IntKind.i64 0)).setCell ⟨w.heap.size + 1, 2, none⟩ (Value.int IntKind.i64 0)).setCell ⟨w.heap.size + 1, 3, none⟩ (Value.int IntKind.i64 0) = W99
  have hS : set4 W3 (w.heap.size + 1) (Value.int IntKind.i64 0) (Value.int IntKind.i64 0) (Value.int IntKind.i64 0) (Value.int IntKind.i64 0) = W99 := hW
  clear hW
  have u0 : W99.cell? ⟨w.heap.size + 1, 0, none⟩ = some (i6 0) := by rw [← hS]; exact set4_0 f3_4
  have u1 : W99.cell? ⟨w.heap.size + 1, 1, none⟩ = some (i6 0) := by rw [← hS]; exact set4_1 f3_5
  have u2 : W99.cell? ⟨w.heap.size + 1, 2, none⟩ = some (i6 0) := by rw [← hS]; exact set4_2 f3_6
  have u3 : W99.cell? ⟨w.heap.size + 1, 3, none⟩ = some (i6 0) := by rw [← hS]; exact set4_3 f3_7
  have hq99 : Below w.heap.size w W99 := by rw [← hS]; exact set4_q hq3 (by omega)
  clear hS
  refine bodyPost_ret (v := rectV 0 0 0 0) (by simp [results, Tryd.results27, go_sem, u0, u1, u2, u3]) rfl ⟨rfl, hq99⟩

set_option maxHeartbeats 2000000 in
theorem shift_fary (x y r h a b c d dx dy : Int) (w : World) (hs : RowAt 0 noneCells w) (n : Norm x y r h a b c d) (hc : 1 ≤ c) (b0 : -2097152 ≤ dx) (b2 : dx ≤ 2097152) (b1 : dy < -2097152 ∨ 2097152 < dy) :
    Calls Tryd.prog 27 #[rectV x y r h, i6 dx, i6 dy] w fun e w' => e = .returned (rectV 0 0 0 0) ∧ Below w.heap.size w w' := by
  have bn := n.bounds
  have hz : zeroB a b c d = false := decide_eq_false (by omega)
  have fx : farB dx = false := by unfold farB; rw [decide_eq_false (by omega), decide_eq_false (by omega)]; rfl
  have fy : farB dy = true := by unfold farB; rcases b1 with h1 | h1 <;> simp [h1]
  clear b0 b1 b2
  have HZ := Lib.hid hz
  have HS := Lib.hid hs
  have HN := Lib.hid n
  clear hs n hz
  go_enter Tryd.func27, Tryd.ntmps27
  go_wp2_with fail
  generalize hW : (w.alloc (Obj.cells #[Value.int IntKind.i64 x, Value.int IntKind.i64 y, Value.int IntKind.i64 r, Value.int IntKind.i64 h] 23)).alloc (Obj.cells #[Value.int IntKind.i64 0, Value.int IntKind.i64 0, Value.int IntKind.i64 0, Value.int IntKind.i64 0] 23) = W1
  have f1_0 : W1.cell? ⟨w.heap.size, 0, none⟩ = some (i6 x) := by rw [← hW]; exact cell_old (cell_new rfl)
  have g1_0 : W1.frozen? ⟨w.heap.size, 0, none⟩ = false := by rw [← hW]; exact (frozen_old (cell_new rfl) frozen_new)
  have f1_1 : W1.cell? ⟨w.heap.size, 1, none⟩ = some (i6 y) := by rw [← hW]; exact cell_old (cell_new rfl)
  have g1_1 : W1.frozen? ⟨w.heap.size, 1, none⟩ = false := by rw [← hW]; exact (frozen_old (cell_new rfl) frozen_new)
  have f1_2 : W1.cell? ⟨w.heap.size, 2, none⟩ = some (i6 r) := by rw [← hW]; exact cell_old (cell_new rfl)
  have g1_2 : W1.frozen? ⟨w.heap.size, 2, none⟩ = false := by rw [← hW]; exact (frozen_old (cell_new rfl) frozen_new)
  have f1_3 : W1.cell? ⟨w.heap.size, 3, none⟩ = some (i6 h) := by rw [← hW]; exact cell_old (cell_new rfl)
  have g1_3 : W1.frozen? ⟨w.heap.size, 3, none⟩ = false := by rw [← hW]; exact (frozen_old (cell_new rfl) frozen_new)
  have f1_4 : W1.cell? ⟨w.heap.size + 1, 0, none⟩ = some (i6 0) := by rw [← hW]; exact cell_new1 rfl
  have g1_4 : W1.frozen? ⟨w.heap.size + 1, 0, none⟩ = false := by rw [← hW]; exact frozen_new1
  have f1_5 : W1.cell? ⟨w.heap.size + 1, 1, none⟩ = some (i6 0) := by rw [← hW]; exact cell_new1 rfl
  have g1_5 : W1.frozen? ⟨w.heap.size + 1, 1, none⟩ = false := by rw [← hW]; exact frozen_new1
  have f1_6 : W1.cell? ⟨w.heap.size + 1, 2, none⟩ = some (i6 0) := by rw [← hW]; exact cell_new1 rfl
  have g1_6 : W1.frozen? ⟨w.heap.size + 1, 2, none⟩ = false := by rw [← hW]; exact frozen_new1
  have f1_7 : W1.cell? ⟨w.heap.size + 1, 3, none⟩ = some (i6 0) := by rw [← hW]; exact cell_new1 rfl
  have g1_7 : W1.frozen? ⟨w.heap.size + 1, 3, none⟩ = false := by rw [← hW]; exact frozen_new1
  have hq1 : Below w.heap.size w W1 := by rw [← hW]; (repeat' (first | with_reducible exact Below.refl _ _ | with_reducible assumption | with_reducible refine q_alloc ?_ _ | with_reducible refine q_drew ?_ | with_reducible refine q_drewN _ ?_ | with_reducible refine q_setCell ?_ ?_ _ | (left; simp; done) | (right; simp; done) | (right; dsimp only; omega) | (left; dsimp only; omega)))
  clear hW
  refine (right_norm x y r h a b c d _ (HS.out.below hq1) HN.out).mono ?_
  rintro e w2 ⟨rfl, hb⟩
  have hq2 : Below w.heap.size w w2 := q_step hq1 hb
  have f2_0 := cell_below hb f1_0
  have f2_1 := cell_below hb f1_1
  have f2_2 := cell_below hb f1_2
  have f2_3 := cell_below hb f1_3
  have f2_4 := cell_below hb f1_4
  have f2_5 := cell_below hb f1_5
  have f2_6 := cell_below hb f1_6
  have f2_7 := cell_below hb f1_7
  have g2_0 := frozen_below hb f1_0 g1_0
  have g2_1 := frozen_below hb f1_1 g1_1
  have g2_2 := frozen_below hb f1_2 g1_2
  have g2_3 := frozen_below hb f1_3 g1_3
  have g2_4 := frozen_below hb f1_4 g1_4
  have g2_5 := frozen_below hb f1_5 g1_5
  have g2_6 := frozen_below hb f1_6 g1_6
  have g2_7 := frozen_below hb f1_7 g1_7
  clear hb f1_0 f1_1 f1_2 f1_3 f1_4 f1_5 f1_6 f1_7 g1_0 g1_1 g1_2 g1_3 g1_4 g1_5 g1_6 g1_7 hq1
  have z2_1 := block_lt_of_cell f2_0
  have z2_2 := block_lt_of_cell f2_4
  go_upto_region 2 with fail
  generalize hW : ((((w2).setCell ⟨w.heap.size, 0, none⟩ (Value.int IntKind.i64 a)).setCell ⟨w.heap.size, 1, none⟩ (Value.int IntKind.i64 b)).setCell ⟨w.heap.size, 2, none⟩ (Value.int IntKind.i64 c)).setCell ⟨w.heap.size, 3, none⟩ (Value.int IntKind.i64 d) = W3
  have hS : set4 w2 (w.heap.size) (Value.int IntKind.i64 a) (Value.int IntKind.i64 b) (Value.int IntKind.i64 c) (Value.int IntKind.i64 d) = W3 := hW
  clear hW
  have f3_0 : W3.cell? ⟨w.heap.size, 0, none⟩ = some (i6 a) := by rw [← hS]; exact set4_0 f2_0
  have f3_1 : W3.cell? ⟨w.heap.size, 1, none⟩ = some (i6 b) := by rw [← hS]; exact set4_1 f2_1
  have f3_2 : W3.cell? ⟨w.heap.size, 2, none⟩ = some (i6 c) := by rw [← hS]; exact set4_2 f2_2
  have f3_3 : W3.cell? ⟨w.heap.size, 3, none⟩ = some (i6 d) := by rw [← hS]; exact set4_3 f2_3
  have f3_4 : W3.cell? ⟨w.heap.size + 1, 0, none⟩ = some (i6 0) := by rw [← hS]; exact set4_o f2_4 (by omega)
  have f3_5 : W3.cell? ⟨w.heap.size + 1, 1, none⟩ = some (i6 0) := by rw [← hS]; exact set4_o f2_5 (by omega)
  have f3_6 : W3.cell? ⟨w.heap.size + 1, 2, none⟩ = some (i6 0) := by rw [← hS]; exact set4_o f2_6 (by omega)
  have f3_7 : W3.cell? ⟨w.heap.size + 1, 3, none⟩ = some (i6 0) := by rw [← hS]; exact set4_o f2_7 (by omega)
  have g3_0 : W3.frozen? ⟨w.heap.size, 0, none⟩ = false := by rw [← hS]; exact set4_f g2_0
  have g3_1 : W3.frozen? ⟨w.heap.size, 1, none⟩ = false := by rw [← hS]; exact set4_f g2_1
  have g3_2 : W3.frozen? ⟨w.heap.size, 2, none⟩ = false := by rw [← hS]; exact set4_f g2_2
  have g3_3 : W3.frozen? ⟨w.heap.size, 3, none⟩ = false := by rw [← hS]; exact set4_f g2_3
  have g3_4 : W3.frozen? ⟨w.heap.size + 1, 0, none⟩ = false := by rw [← hS]; exact set4_f g2_4
  have g3_5 : W3.frozen? ⟨w.heap.size + 1, 1, none⟩ = false := by rw [← hS]; exact set4_f g2_5
  have g3_6 : W3.frozen? ⟨w.heap.size + 1, 2, none⟩ = false := by rw [← hS]; exact set4_f g2_6
  have g3_7 : W3.frozen? ⟨w.heap.size + 1, 3, none⟩ = false := by rw [← hS]; exact set4_f g2_7
  have hq3 : Below w.heap.size w W3 := by rw [← hS]; exact set4_q hq2 (Nat.le_refl _)
  clear hS f2_0 f2_1 f2_2 f2_3 f2_4 f2_5 f2_6 f2_7 g2_0 g2_1 g2_2 g2_3 g2_4 g2_5 g2_6 g2_7 hq2 z2_1 z2_2
  have z3_1 := block_lt_of_cell f3_0
  have z3_2 := block_lt_of_cell f3_4
  go_wp2_with (first | (with_reducible refine at_load 23 (.global 0) ?_; refine wpList_load_cells rfl 23 _ rfl 0 rfl noneCells _ (HS.out.below hq3) Tryd.underlying23 rfl sizeRect ?_) | (with_reducible refine at_bin .eql 23 ?_; refine wpList_eqAgg rfl .eql 23 _ _ _ rfl _ _ rfl rfl eqgRect (rect_eqlz HZ.out _) ?_) | (go_at_call 35; refine (far_any _ _).mono ?_; rintro e w' ⟨rfl, rfl⟩))
  generalize hW : (((W3.setCell ⟨w.heap.size + 1, 0, none⟩ (Value.int IntKind.i64 0)).setCell ⟨w.heap.size + 1, 1, none⟩ (Value.int IntKind.i64 0)).setCell ⟨w.heap.size + 1, 2, none⟩ (Value.int IntKind.i64 0)).setCell ⟨w.heap.size + 1, 3, none⟩ (Value.int IntKind.i64 0) = W99
  have hS : set4 W3 (w.heap.size + 1) (Value.int IntKind.i64 0) (Value.int IntKind.i64 0) (Value.int IntKind.i64 0) (Value.int IntKind.i64 0) = W99 := hW
  clear hW
  have u0 : W99.cell? ⟨w.heap.size + 1, 0, none⟩ = some (i6 0) := by rw [← hS]; exact set4_0 f3_4
  have u1 : W99.cell? ⟨w.heap.size + 1, 1, none⟩ = some (i6 0) := by rw [← hS]; exact set4_1 f3_5
  have u2 : W99.cell? ⟨w.heap.size + 1, 2, none⟩ = some (i6 0) := by rw [← hS]; exact set4_2 f3_6
  have u3 : W99.cell? ⟨w.heap.size + 1, 3, none⟩ = some (i6 0) := by rw [← hS]; exact set4_3 f3_7
  have hq99 : Below w.heap.size w W99 := by rw [← hS]; exact set4_q hq3 (by omega)
  clear hS
  refine bodyPost_ret (v := rectV 0 0 0 0) (by simp [results, Tryd.results27, go_sem, u0, u1, u2, u3]) rfl ⟨rfl, hq99⟩

theorem shift_any (x y r h a b c d dx dy : Int) (w : World) (hs : RowAt 0 noneCells w) (n : Norm x y r h a b c d) :
    ∃ a' b' c' d', ((c = 0 ∨ dx < -2097152 ∨ 2097152 < dx ∨ dy < -2097152 ∨ 2097152 < dy) ∧ a' = 0 ∧ b' = 0 ∧ c' = 0 ∧ d' = 0 ∨ ¬ (c = 0 ∨ dx < -2097152 ∨ 2097152 < dx ∨ dy < -2097152 ∨ 2097152 < dy) ∧ Norm (a + dx) (b + dy) c d a' b' c' d') ∧
    Calls Tryd.prog 27 #[rectV x y r h, i6 dx, i6 dy] w fun e w' => e = .returned (rectV a' b' c' d') ∧ Below w.heap.size w w' := by
  have bn := n.bounds
  by_cases hc : c = 0
  · obtain ⟨rfl, rfl, rfl, rfl⟩ : a = 0 ∧ b = 0 ∧ c = 0 ∧ d = 0 := by omega
    exact ⟨0, 0, 0, 0, Or.inl ⟨Or.inl rfl, rfl, rfl, rfl, rfl⟩, shift_zero x y r h dx dy w hs n⟩
  · by_cases hx : dx < -2097152 ∨ 2097152 < dx
    · exact ⟨0, 0, 0, 0, Or.inl ⟨by omega, rfl, rfl, rfl, rfl⟩, shift_farx x y r h a b c d dx dy w hs n (by omega) hx⟩
    · by_cases hy : dy < -2097152 ∨ 2097152 < dy
      · exact ⟨0, 0, 0, 0, Or.inl ⟨by omega, rfl, rfl, rfl, rfl⟩, shift_fary x y r h a b c d dx dy w hs n (by omega) (by omega) (by omega) hy⟩
      · obtain ⟨a', b', c', d', n2⟩ := norm_ex (a + dx) (b + dy) c d
        exact ⟨a', b', c', d', Or.inr ⟨by omega, n2⟩, shift_near x y r h a b c d dx dy a' b' c' d' w hs n (by omega) (by omega) (by omega) (by omega) (by omega) n2⟩
end Go.Proofs.YtlofhbeifgaoeaaDoor
