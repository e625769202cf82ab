import Derived.Test.YtlofhbeifgaoeaaDoorRect10
namespace Go.Proofs.YtlofhbeifgaoeaaDoor
open Go Go.RowKit

set_option maxHeartbeats 2000000 in
theorem rshift_near (x y r h a b c d dx dy a' b' c' d' : Int) (w : World) (n : Norm x y r h a b c d) (hc : 1 ≤ c)
    (b1 : -4194304 ≤ dx) (b2 : dx ≤ 4194304) (b3 : -4194304 ≤ dy) (b4 : dy ≤ 4194304) (n2 : Norm (a + dx) (b + dy) c d a' b' c' d') :
    Calls Tryd.prog 28 #[rectV x y r h, i6 dx, i6 dy] w fun e w' => e = .returned (rectV a' b' c' d') ∧ Below w.heap.size w w' := by
  have HN := Lib.hid n
  have HN2 := Lib.hid n2
  have bn := n.bounds
  have k0 : (c == 0) = false := by simp; omega
  have k1 : decide (4194304 < dx) = false := decide_eq_false (by omega)
  have k2 : decide (dx < -4194304) = false := decide_eq_false (by omega)
  have k3 : decide (4194304 < dy) = false := decide_eq_false (by omega)
  have k4 : decide (dy < -4194304) = false := decide_eq_false (by omega)
  clear n n2
  go_enter Tryd.func28, Tryd.ntmps28
  go_wp2_with fail
  generalize hW : (w.alloc (Obj.cells #[Value.int IntKind.i64 x, Value.int IntKind.i64 y, Value.int IntKind.i64 r, Value.int IntKind.i64 h] 23)).alloc (Obj.cells #[Value.int IntKind.i64 0, Value.int IntKind.i64 0, Value.int IntKind.i64 0, Value.int IntKind.i64 0] 23) = W1
  have f1_0 : W1.cell? ⟨w.heap.size, 0, none⟩ = some (i6 x) := by rw [← hW]; exact cell_old (cell_new rfl)
  have g1_0 : W1.frozen? ⟨w.heap.size, 0, none⟩ = false := by rw [← hW]; exact (frozen_old (cell_new rfl) frozen_new)
  have f1_1 : W1.cell? ⟨w.heap.size, 1, none⟩ = some (i6 y) := by rw [← hW]; exact cell_old (cell_new rfl)
  have g1_1 : W1.frozen? ⟨w.heap.size, 1, none⟩ = false := by rw [← hW]; exact (frozen_old (cell_new rfl) frozen_new)
  have f1_2 : W1.cell? ⟨w.heap.size, 2, none⟩ = some (i6 r) := by rw [← hW]; exact cell_old (cell_new rfl)
  have g1_2 : W1.frozen? ⟨w.heap.size, 2, none⟩ = false := by rw [← hW]; exact (frozen_old (cell_new rfl) frozen_new)
  have f1_3 : W1.cell? ⟨w.heap.size, 3, none⟩ = some (i6 h) := by rw [← hW]; exact cell_old (cell_new rfl)
  have g1_3 : W1.frozen? ⟨w.heap.size, 3, none⟩ = false := by rw [← hW]; exact (frozen_old (cell_new rfl) frozen_new)
  have f1_4 : W1.cell? ⟨w.heap.size + 1, 0, none⟩ = some (i6 0) := by rw [← hW]; exact cell_new1 rfl
  have g1_4 : W1.frozen? ⟨w.heap.size + 1, 0, none⟩ = false := by rw [← hW]; exact frozen_new1
  have f1_5 : W1.cell? ⟨w.heap.size + 1, 1, none⟩ = some (i6 0) := by rw [← hW]; exact cell_new1 rfl
  have g1_5 : W1.frozen? ⟨w.heap.size + 1, 1, none⟩ = false := by rw [← hW]; exact frozen_new1
  have f1_6 : W1.cell? ⟨w.heap.size + 1, 2, none⟩ = some (i6 0) := by rw [← hW]; exact cell_new1 rfl
  have g1_6 : W1.frozen? ⟨w.heap.size + 1, 2, none⟩ = false := by rw [← hW]; exact frozen_new1
  have f1_7 : W1.cell? ⟨w.heap.size + 1, 3, none⟩ = some (i6 0) := by rw [← hW]; exact cell_new1 rfl
  have g1_7 : W1.frozen? ⟨w.heap.size + 1, 3, none⟩ = false := by rw [← hW]; exact frozen_new1
  have hq1 : Below w.heap.size w W1 := by rw [← hW]; (repeat' (first | with_reducible exact Below.refl _ _ | with_reducible assumption | with_reducible refine q_alloc ?_ _ | with_reducible refine q_drew ?_ | with_reducible refine q_drewN _ ?_ | with_reducible refine q_setCell ?_ ?_ _ | (left; simp; done) | (right; simp; done) | (right; dsimp only; omega) | (left; dsimp only; omega)))
  clear hW
  refine (as_norm HN.out _).mono ?_
  rintro e w2 ⟨rfl, hb⟩
  have hq2 : Below w.heap.size w w2 := q_step hq1 hb
  have f2_0 := cell_below hb f1_0
  have f2_1 := cell_below hb f1_1
  have f2_2 := cell_below hb f1_2
  have f2_3 := cell_below hb f1_3
  have f2_4 := cell_below hb f1_4
  have f2_5 := cell_below hb f1_5
  have f2_6 := cell_below hb f1_6
  have f2_7 := cell_below hb f1_7
  have g2_0 := frozen_below hb f1_0 g1_0
  have g2_1 := frozen_below hb f1_1 g1_1
  have g2_2 := frozen_below hb f1_2 g1_2
  have g2_3 := frozen_below hb f1_3 g1_3
  have g2_4 := frozen_below hb f1_4 g1_4
  have g2_5 := frozen_below hb f1_5 g1_5
  have g2_6 := frozen_below hb f1_6 g1_6
  have g2_7 := frozen_below hb f1_7 g1_7
  clear hb f1_0 f1_1 f1_2 f1_3 f1_4 f1_5 f1_6 f1_7 g1_0 g1_1 g1_2 g1_3 g1_4 g1_5 g1_6 g1_7 hq1
  have z2_1 := block_lt_of_cell f2_0
  have z2_2 := block_lt_of_cell f2_4
  go_upto_region 2 with fail
  generalize hW : ((((w2).setCell ⟨w.heap.size, 0, none⟩ (Value.int IntKind.i64 a)).setCell ⟨w.heap.size, 1, none⟩ (Value.int IntKind.i64 b)).setCell ⟨w.heap.size, 2, none⟩ (Value.int IntKind.i64 c)).setCell ⟨w.heap.size, 3, none⟩ (Value.int IntKind.i64 d) = W3
  have hS : set4 w2 (w.heap.size) (Value.int IntKind.i64 a) (Value.int IntKind.i64 b) (Value.int IntKind.i64 c) (Value.int IntKind.i64 d) = W3 := hW
  clear hW
  have f3_0 : W3.cell? ⟨w.heap.size, 0, none⟩ = some (i6 a) := by rw [← hS]; exact set4_0 f2_0
  have f3_1 : W3.cell? ⟨w.heap.size, 1, none⟩ = some (i6 b) := by rw [← hS]; exact set4_1 f2_1
  have f3_2 : W3.cell? ⟨w.heap.size, 2, none⟩ = some (i6 c) := by rw [← hS]; exact set4_2 f2_2
  have f3_3 : W3.cell? ⟨w.heap.size, 3, none⟩ = some (i6 d) := by rw [← hS]; exact set4_3 f2_3
  have f3_4 : W3.cell? ⟨w.heap.size + 1, 0, none⟩ = some (i6 0) := by rw [← hS]; exact set4_o f2_4 (by omega)
  have f3_5 : W3.cell? ⟨w.heap.size + 1, 1, none⟩ = some (i6 0) := by rw [← hS]; exact set4_o f2_5 (by omega)
  have f3_6 : W3.cell? ⟨w.heap.size + 1, 2, none⟩ = some (i6 0) := by rw [← hS]; exact set4_o f2_6 (by omega)
  have f3_7 : W3.cell? ⟨w.heap.size + 1, 3, none⟩ = some (i6 0) := by rw [← hS]; exact set4_o f2_7 (by omega)
  have g3_0 : W3.frozen? ⟨w.heap.size, 0, none⟩ = false := by rw [← hS]; exact set4_f g2_0
  have g3_1 : W3.frozen? ⟨w.heap.size, 1, none⟩ = false := by rw [← hS]; exact set4_f g2_1
  have g3_2 : W3.frozen? ⟨w.heap.size, 2, none⟩ = false := by rw [← hS]; exact set4_f g2_2
  have g3_3 : W3.frozen? ⟨w.heap.size, 3, none⟩ = false := by rw [← hS]; exact set4_f g2_3
  have g3_4 : W3.frozen? ⟨w.heap.size + 1, 0, none⟩ = false := by rw [← hS]; exact set4_f g2_4
  have g3_5 : W3.frozen? ⟨w.heap.size + 1, 1, none⟩ = false := by rw [← hS]; exact set4_f g2_5
  have g3_6 : W3.frozen? ⟨w.heap.size + 1, 2, none⟩ = false := by rw [← hS]; exact set4_f g2_6
  have g3_7 : W3.frozen? ⟨w.heap.size + 1, 3, none⟩ = false := by rw [← hS]; exact set4_f g2_7
  have hq3 : Below w.heap.size w W3 := by rw [← hS]; exact set4_q hq2 (Nat.le_refl _)
  clear hS f2_0 f2_1 f2_2 f2_3 f2_4 f2_5 f2_6 f2_7 g2_0 g2_1 g2_2 g2_3 g2_4 g2_5 g2_6 g2_7 hq2 z2_1 z2_2
  have z3_1 := block_lt_of_cell f3_0
  have z3_2 := block_lt_of_cell f3_4
  go_wp2_with fail
  refine (as_norm HN2.out _).mono ?_
  rintro e w5 ⟨rfl, hb⟩
  have hq5 : Below w.heap.size w w5 := q_step hq3 hb
  have s0 := cell_below hb f3_4
  have t0 := frozen_below hb f3_4 g3_4
  have s1 := cell_below hb f3_5
  have t1 := frozen_below hb f3_5 g3_5
  have s2 := cell_below hb f3_6
  have t2 := frozen_below hb f3_6 g3_6
  have s3 := cell_below hb f3_7
  have t3 := frozen_below hb f3_7 g3_7
  clear hb f3_0 f3_1 f3_2 f3_3 f3_4 f3_5 f3_6 f3_7 g3_0 g3_1 g3_2 g3_3 g3_4 g3_5 g3_6 g3_7 hq3 z3_1 z3_2 HN HN2
  have z5 := block_lt_of_cell s0
  go_wp2
  generalize hW : (((w5.setCell ⟨w.heap.size + 1, 0, none⟩ (Value.int IntKind.i64 a')).setCell ⟨w.heap.size + 1, 1, none⟩ (Value.int IntKind.i64 b')).setCell ⟨w.heap.size + 1, 2, none⟩ (Value.int IntKind.i64 c')).setCell ⟨w.heap.size + 1, 3, none⟩ (Value.int IntKind.i64 d') = W99
  have hS : set4 w5 (w.heap.size + 1) (Value.int IntKind.i64 a') (Value.int IntKind.i64 b') (Value.int IntKind.i64 c') (Value.int IntKind.i64 d') = W99 := hW
  clear hW
  have u0 : W99.cell? ⟨w.heap.size + 1, 0, none⟩ = some (i6 a') := by rw [← hS]; exact set4_0 s0
  have u1 : W99.cell? ⟨w.heap.size + 1, 1, none⟩ = some (i6 b') := by rw [← hS]; exact set4_1 s1
  have u2 : W99.cell? ⟨w.heap.size + 1, 2, none⟩ = some (i6 c') := by rw [← hS]; exact set4_2 s2
  have u3 : W99.cell? ⟨w.heap.size + 1, 3, none⟩ = some (i6 d') := by rw [← hS]; exact set4_3 s3
  have hq99 : Below w.heap.size w W99 := by rw [← hS]; exact set4_q hq5 (by omega)
  clear hS
  refine bodyPost_ret (v := rectV a' b' c' d') (by simp [results, Tryd.results28, go_sem, u0, u1, u2, u3]) rfl ⟨rfl, hq99⟩

set_option maxHeartbeats 2000000 in
theorem rshift_zero (x y r h dx dy : Int) (w : World) (n : Norm x y r h 0 0 0 0)  :
    Calls Tryd.prog 28 #[rectV x y r h, i6 dx, i6 dy] w fun e w' => e = .returned (rectV 0 0 0 0) ∧ Below w.heap.size w w' := by
  have HN := Lib.hid n
  clear n
  go_enter Tryd.func28, Tryd.ntmps28
  go_wp2_with fail
  generalize hW : (w.alloc (Obj.cells #[Value.int IntKind.i64 x, Value.int IntKind.i64 y, Value.int IntKind.i64 r, Value.int IntKind.i64 h] 23)).alloc (Obj.cells #[Value.int IntKind.i64 0, Value.int IntKind.i64 0, Value.int IntKind.i64 0, Value.int IntKind.i64 0] 23) = W1
  have f1_0 : W1.cell? ⟨w.heap.size, 0, none⟩ = some (i6 x) := by rw [← hW]; exact cell_old (cell_new rfl)
  have g1_0 : W1.frozen? ⟨w.heap.size, 0, none⟩ = false := by rw [← hW]; exact (frozen_old (cell_new rfl) frozen_new)
  have f1_1 : W1.cell? ⟨w.heap.size, 1, none⟩ = some (i6 y) := by rw [← hW]; exact cell_old (cell_new rfl)
  have g1_1 : W1.frozen? ⟨w.heap.size, 1, none⟩ = false := by rw [← hW]; exact (frozen_old (cell_new rfl) frozen_new)
  have f1_2 : W1.cell? ⟨w.heap.size, 2, none⟩ = some (i6 r) := by rw [← hW]; exact cell_old (cell_new rfl)
  have g1_2 : W1.frozen? ⟨w.heap.size, 2, none⟩ = false := by rw [← hW]; exact (frozen_old (cell_new rfl) frozen_new)
  have f1_3 : W1.cell? ⟨w.heap.size, 3, none⟩ = some (i6 h) := by rw [← hW]; exact cell_old (cell_new rfl)
  have g1_3 : W1.frozen? ⟨w.heap.size, 3, none⟩ = false := by rw [← hW]; exact (frozen_old (cell_new rfl) frozen_new)
  have f1_4 : W1.cell? ⟨w.heap.size + 1, 0, none⟩ = some (i6 0) := by rw [← hW]; exact cell_new1 rfl
  have g1_4 : W1.frozen? ⟨w.heap.size + 1, 0, none⟩ = false := by rw [← hW]; exact frozen_new1
  have f1_5 : W1.cell? ⟨w.heap.size + 1, 1, none⟩ = some (i6 0) := by rw [← hW]; exact cell_new1 rfl
  have g1_5 : W1.frozen? ⟨w.heap.size + 1, 1, none⟩ = false := by rw [← hW]; exact frozen_new1
  have f1_6 : W1.cell? ⟨w.heap.size + 1, 2, none⟩ = some (i6 0) := by rw [← hW]; exact cell_new1 rfl
  have g1_6 : W1.frozen? ⟨w.heap.size + 1, 2, none⟩ = false := by rw [← hW]; exact frozen_new1
  have f1_7 : W1.cell? ⟨w.heap.size + 1, 3, none⟩ = some (i6 0) := by rw [← hW]; exact cell_new1 rfl
  have g1_7 : W1.frozen? ⟨w.heap.size + 1, 3, none⟩ = false := by rw [← hW]; exact frozen_new1
  have hq1 : Below w.heap.size w W1 := by rw [← hW]; (repeat' (first | with_reducible exact Below.refl _ _ | with_reducible assumption | with_reducible refine q_alloc ?_ _ | with_reducible refine q_drew ?_ | with_reducible refine q_drewN _ ?_ | with_reducible refine q_setCell ?_ ?_ _ | (left; simp; done) | (right; simp; done) | (right; dsimp only; omega) | (left; dsimp only; omega)))
  clear hW
  refine (as_norm HN.out _).mono ?_
  rintro e w2 ⟨rfl, hb⟩
  have hq2 : Below w.heap.size w w2 := q_step hq1 hb
  have f2_0 := cell_below hb f1_0
  have f2_1 := cell_below hb f1_1
  have f2_2 := cell_below hb f1_2
  have f2_3 := cell_below hb f1_3
  have f2_4 := cell_below hb f1_4
  have f2_5 := cell_below hb f1_5
  have f2_6 := cell_below hb f1_6
  have f2_7 := cell_below hb f1_7
  have g2_0 := frozen_below hb f1_0 g1_0
  have g2_1 := frozen_below hb f1_1 g1_1
  have g2_2 := frozen_below hb f1_2 g1_2
  have g2_3 := frozen_below hb f1_3 g1_3
  have g2_4 := frozen_below hb f1_4 g1_4
  have g2_5 := frozen_below hb f1_5 g1_5
  have g2_6 := frozen_below hb f1_6 g1_6
  have g2_7 := frozen_below hb f1_7 g1_7
  clear hb f1_0 f1_1 f1_2 f1_3 f1_4 f1_5 f1_6 f1_7 g1_0 g1_1 g1_2 g1_3 g1_4 g1_5 g1_6 g1_7 hq1
  have z2_1 := block_lt_of_cell f2_0
  have z2_2 := block_lt_of_cell f2_4
  go_upto_region 2 with fail
  generalize hW : ((((w2).setCell ⟨w.heap.size, 0, none⟩ (Value.int IntKind.i64 0)).setCell ⟨w.heap.size, 1, none⟩ (Value.int IntKind.i64 0)).setCell ⟨w.heap.size, 2, none⟩ (Value.int IntKind.i64 0)).setCell ⟨w.heap.size, 3, none⟩ (Value.int IntKind.i64 0) = W3
  have hS : set4 w2 (w.heap.size) (Value.int IntKind.i64 0) (Value.int IntKind.i64 0) (Value.int IntKind.i64 0) (Value.int IntKind.i64 0) = W3 := hW
  clear hW
  have f3_0 : W3.cell? ⟨w.heap.size, 0, none⟩ = some (i6 0) := by rw [← hS]; exact set4_0 f2_0
  have f3_1 : W3.cell? ⟨w.heap.size, 1, none⟩ = some (i6 0) := by rw [← hS]; exact set4_1 f2_1
  have f3_2 : W3.cell? ⟨w.heap.size, 2, none⟩ = some (i6 0) := by rw [← hS]; exact set4_2 f2_2
  have f3_3 : W3.cell? ⟨w.heap.size, 3, none⟩ = some (i6 0) := by rw [← hS]; exact set4_3 f2_3
  have f3_4 : W3.cell? ⟨w.heap.size + 1, 0, none⟩ = some (i6 0) := by rw [← hS]; exact set4_o f2_4 (by omega)
  have f3_5 : W3.cell? ⟨w.heap.size + 1, 1, none⟩ = some (i6 0) := by rw [← hS]; exact set4_o f2_5 (by omega)
  have f3_6 : W3.cell? ⟨w.heap.size + 1, 2, none⟩ = some (i6 0) := by rw [← hS]; exact set4_o f2_6 (by omega)
  have f3_7 : W3.cell? ⟨w.heap.size + 1, 3, none⟩ = some (i6 0) := by rw [← hS]; exact set4_o f2_7 (by omega)
  have g3_0 : W3.frozen? ⟨w.heap.size, 0, none⟩ = false := by rw [← hS]; exact set4_f g2_0
  have g3_1 : W3.frozen? ⟨w.heap.size, 1, none⟩ = false := by rw [← hS]; exact set4_f g2_1
  have g3_2 : W3.frozen? ⟨w.heap.size, 2, none⟩ = false := by rw [← hS]; exact set4_f g2_2
  have g3_3 : W3.frozen? ⟨w.heap.size, 3, none⟩ = false := by rw [← hS]; exact set4_f g2_3
  have g3_4 : W3.frozen? ⟨w.heap.size + 1, 0, none⟩ = false := by rw [← hS]; exact set4_f g2_4
  have g3_5 : W3.frozen? ⟨w.heap.size + 1, 1, none⟩ = false := by rw [← hS]; exact set4_f g2_5
  have g3_6 : W3.frozen? ⟨w.heap.size + 1, 2, none⟩ = false := by rw [← hS]; exact set4_f g2_6
  have g3_7 : W3.frozen? ⟨w.heap.size + 1, 3, none⟩ = false := by rw [← hS]; exact set4_f g2_7
  have hq3 : Below w.heap.size w W3 := by rw [← hS]; exact set4_q hq2 (Nat.le_refl _)
  clear hS f2_0 f2_1 f2_2 f2_3 f2_4 f2_5 f2_6 f2_7 g2_0 g2_1 g2_2 g2_3 g2_4 g2_5 g2_6 g2_7 hq2 z2_1 z2_2
  have z3_1 := block_lt_of_cell f3_0
  have z3_2 := block_lt_of_cell f3_4
  go_wp2_with fail
  generalize hW : (((W3.setCell ⟨w.heap.size + 1, 0, none⟩ (Value.int IntKind.i64 0)).setCell ⟨w.heap.size + 1, 1, none⟩ (Value.int IntKind.i64 0)).setCell ⟨w.heap.size + 1, 2, none⟩ (Value.int IntKind.i64 0)).setCell ⟨w.heap.size + 1, 3, none⟩ (Value.int IntKind.i64 0) = W99
  have hS : set4 W3 (w.heap.size + 1) (Value.int IntKind.i64 0) (Value.int IntKind.i64 0) (Value.int IntKind.i64 0) (Value.int IntKind.i64 0) = W99 := hW
  clear hW
  have u0 : W99.cell? ⟨w.heap.size + 1, 0, none⟩ = some (i6 0) := by rw [← hS]; exact set4_0 f3_4
  have u1 : W99.cell? ⟨w.heap.size + 1, 1, none⟩ = some (i6 0) := by rw [← hS]; exact set4_1 f3_5
  have u2 : W99.cell? ⟨w.heap.size + 1, 2, none⟩ = some (i6 0) := by rw [← hS]; exact set4_2 f3_6
  have u3 : W99.cell? ⟨w.heap.size + 1, 3, none⟩ = some (i6 0) := by rw [← hS]; exact set4_3 f3_7
  have hq99 : Below w.heap.size w W99 := by rw [← hS]; exact set4_q hq3 (by omega)
  clear hS
  refine bodyPost_ret (v := rectV 0 0 0 0) (by simp [results, Tryd.results28, go_sem, u0, u1, u2, u3]) rfl ⟨rfl, hq99⟩

set_option maxHeartbeats 2000000 in
theorem rshift_x1 (x y r h a b c d dx dy : Int) (w : World) (n : Norm x y r h a b c d) (hc : ¬ c = 0) (h1 : 4194304 < dx) :
    Calls Tryd.prog 28 #[rectV x y r h, i6 dx, i6 dy] w fun e w' => e = .returned (rectV 0 0 0 0) ∧ Below w.heap.size w w' := by
  have HN := Lib.hid n
  clear n
  go_enter Tryd.func28, Tryd.ntmps28
  go_wp2_with fail
  generalize hW : (w.alloc (Obj.cells #[Value.int IntKind.i64 x, Value.int IntKind.i64 y, Value.int IntKind.i64 r, Value.int IntKind.i64 h] 23)).alloc (Obj.cells #[Value.int IntKind.i64 0, Value.int IntKind.i64 0, Value.int IntKind.i64 0, Value.int IntKind.i64 0] 23) = W1
  have f1_0 : W1.cell? ⟨w.heap.size, 0, none⟩ = some (i6 x) := by rw [← hW]; exact cell_old (cell_new rfl)
  have g1_0 : W1.frozen? ⟨w.heap.size, 0, none⟩ = false := by rw [← hW]; exact (frozen_old (cell_new rfl) frozen_new)
  have f1_1 : W1.cell? ⟨w.heap.size, 1, none⟩ = some (i6 y) := by rw [← hW]; exact cell_old (cell_new rfl)
  have g1_1 : W1.frozen? ⟨w.heap.size, 1, none⟩ = false := by rw [← hW]; exact (frozen_old (cell_new rfl) frozen_new)
  have f1_2 : W1.cell? ⟨w.heap.size, 2, none⟩ = some (i6 r) := by rw [← hW]; exact cell_old (cell_new rfl)
  have g1_2 : W1.frozen? ⟨w.heap.size, 2, none⟩ = false := by rw [← hW]; exact (frozen_old (cell_new rfl) frozen_new)
  have f1_3 : W1.cell? ⟨w.heap.size, 3, none⟩ = some (i6 h) := by rw [← hW]; exact cell_old (cell_new rfl)
  have g1_3 : W1.frozen? ⟨w.heap.size, 3, none⟩ = false := by rw [← hW]; exact (frozen_old (cell_new rfl) frozen_new)
  have f1_4 : W1.cell? ⟨w.heap.size + 1, 0, none⟩ = some (i6 0) := by rw [← hW]; exact cell_new1 rfl
  have g1_4 : W1.frozen? ⟨w.heap.size + 1, 0, none⟩ = false := by rw [← hW]; exact frozen_new1
  have f1_5 : W1.cell? ⟨w.heap.size + 1, 1, none⟩ = some (i6 0) := by rw [← hW]; exact cell_new1 rfl
  have g1_5 : W1.frozen? ⟨w.heap.size + 1, 1, none⟩ = false := by rw [← hW]; exact frozen_new1
  have f1_6 : W1.cell? ⟨w.heap.size + 1, 2, none⟩ = some (i6 0) := by rw [← hW]; exact cell_new1 rfl
  have g1_6 : W1.frozen? ⟨w.heap.size + 1, 2, none⟩ = false := by rw [← hW]; exact frozen_new1
  have f1_7 : W1.cell? ⟨w.heap.size + 1, 3, none⟩ = some (i6 0) := by rw [← hW]; exact cell_new1 rfl
  have g1_7 : W1.frozen? ⟨w.heap.size + 1, 3, none⟩ = false := by rw [← hW]; exact frozen_new1
  have hq1 : Below w.heap.size w W1 := by rw [← hW]; (repeat' (first | with_reducible exact Below.refl _ _ | with_reducible assumption | with_reducible refine q_alloc ?_ _ | with_reducible refine q_drew ?_ | with_reducible refine q_drewN _ ?_ | with_reducible refine q_setCell ?_ ?_ _ | (left; simp; done) | (right; simp; done) | (right; dsimp only; omega) | (left; dsimp only; omega)))
  clear hW
  refine (as_norm HN.out _).mono ?_
  rintro e w2 ⟨rfl, hb⟩
  have hq2 : Below w.heap.size w w2 := q_step hq1 hb
  have f2_0 := cell_below hb f1_0
  have f2_1 := cell_below hb f1_1
  have f2_2 := cell_below hb f1_2
  have f2_3 := cell_below hb f1_3
  have f2_4 := cell_below hb f1_4
  have f2_5 := cell_below hb f1_5
  have f2_6 := cell_below hb f1_6
  have f2_7 := cell_below hb f1_7
  have g2_0 := frozen_below hb f1_0 g1_0
  have g2_1 := frozen_below hb f1_1 g1_1
  have g2_2 := frozen_below hb f1_2 g1_2
  have g2_3 := frozen_below hb f1_3 g1_3
  have g2_4 := frozen_below hb f1_4 g1_4
  have g2_5 := frozen_below hb f1_5 g1_5
  have g2_6 := frozen_below hb f1_6 g1_6
  have g2_7 := frozen_below hb f1_7 g1_7
  clear hb f1_0 f1_1 f1_2 f1_3 f1_4 f1_5 f1_6 f1_7 g1_0 g1_1 g1_2 g1_3 g1_4 g1_5 g1_6 g1_7 hq1
  have z2_1 := block_lt_of_cell f2_0
  have z2_2 := block_lt_of_cell f2_4
  go_upto_region 2 with fail
  generalize hW : ((((w2).setCell ⟨w.heap.size, 0, none⟩ (Value.int IntKind.i64 a)).setCell ⟨w.heap.size, 1, none⟩ (Value.int IntKind.i64 b)).setCell ⟨w.heap.size, 2, none⟩ (Value.int IntKind.i64 c)).setCell ⟨w.heap.size, 3, none⟩ (Value.int IntKind.i64 d) = W3
  have hS : set4 w2 (w.heap.size) (Value.int IntKind.i64 a) (Value.int IntKind.i64 b) (Value.int IntKind.i64 c) (Value.int IntKind.i64 d) = W3 := hW
  clear hW
  have f3_0 : W3.cell? ⟨w.heap.size, 0, none⟩ = some (i6 a) := by rw [← hS]; exact set4_0 f2_0
  have f3_1 : W3.cell? ⟨w.heap.size, 1, none⟩ = some (i6 b) := by rw [← hS]; exact set4_1 f2_1
  have f3_2 : W3.cell? ⟨w.heap.size, 2, none⟩ = some (i6 c) := by rw [← hS]; exact set4_2 f2_2
  have f3_3 : W3.cell? ⟨w.heap.size, 3, none⟩ = some (i6 d) := by rw [← hS]; exact set4_3 f2_3
  have f3_4 : W3.cell? ⟨w.heap.size + 1, 0, none⟩ = some (i6 0) := by rw [← hS]; exact set4_o f2_4 (by omega)
  have f3_5 : W3.cell? ⟨w.heap.size + 1, 1, none⟩ = some (i6 0) := by rw [← hS]; exact set4_o f2_5 (by omega)
  have f3_6 : W3.cell? ⟨w.heap.size + 1, 2, none⟩ = some (i6 0) := by rw [← hS]; exact set4_o f2_6 (by omega)
  have f3_7 : W3.cell? ⟨w.heap.size + 1, 3, none⟩ = some (i6 0) := by rw [← hS]; exact set4_o f2_7 (by omega)
  have g3_0 : W3.frozen? ⟨w.heap.size, 0, none⟩ = false := by rw [← hS]; exact set4_f g2_0
  have g3_1 : W3.frozen? ⟨w.heap.size, 1, none⟩ = false := by rw [← hS]; exact set4_f g2_1
  have g3_2 : W3.frozen? ⟨w.heap.size, 2, none⟩ = false := by rw [← hS]; exact set4_f g2_2
  have g3_3 : W3.frozen? ⟨w.heap.size, 3, none⟩ = false := by rw [← hS]; exact set4_f g2_3
  have g3_4 : W3.frozen? ⟨w.heap.size + 1, 0, none⟩ = false := by rw [← hS]; exact set4_f g2_4
  have g3_5 : W3.frozen? ⟨w.heap.size + 1, 1, none⟩ = false := by rw [← hS]; exact set4_f g2_5
  have g3_6 : W3.frozen? ⟨w.heap.size + 1, 2, none⟩ = false := by rw [← hS]; exact set4_f g2_6
  have g3_7 : W3.frozen? ⟨w.heap.size + 1, 3, none⟩ = false := by rw [← hS]; exact set4_f g2_7
  have hq3 : Below w.heap.size w W3 := by rw [← hS]; exact set4_q hq2 (Nat.le_refl _)
  clear hS f2_0 f2_1 f2_2 f2_3 f2_4 f2_5 f2_6 f2_7 g2_0 g2_1 g2_2 g2_3 g2_4 g2_5 g2_6 g2_7 hq2 z2_1 z2_2
  have z3_1 := block_lt_of_cell f3_0
  have z3_2 := block_lt_of_cell f3_4
  go_wp2_with fail
  generalize hW : (((W3.setCell ⟨w.heap.size + 1, 0, none⟩ (Value.int IntKind.i64 0)).setCell ⟨w.heap.size + 1, 1, none⟩ (Value.int IntKind.i64 0)).setCell ⟨w.heap.size + 1, 2, none⟩ (Value.int IntKind.i64 0)).setCell ⟨w.heap.size + 1, 3, none⟩ (Value.int IntKind.i64 0) = W99
  have hS : set4 W3 (w.heap.size + 1) (Value.int IntKind.i64 0) (Value.int IntKind.i64 0) (Value.int IntKind.i64 0) (Value.int IntKind.i64 0) = W99 := hW
  clear hW
  have u0 : W99.cell? ⟨w.heap.size + 1, 0, none⟩ = some (i6 0) := by rw [← hS]; exact set4_0 f3_4
  have u1 : W99.cell? ⟨w.heap.size + 1, 1, none⟩ = some (i6 0) := by rw [← hS]; exact set4_1 f3_5
  have u2 : W99.cell? ⟨w.heap.size + 1, 2, none⟩ = some (i6 0) := by rw [← hS]; exact set4_2 f3_6
  have u3 : W99.cell? ⟨w.heap.size + 1, 3, none⟩ = some (i6 0) := by rw [← hS]; exact set4_3 f3_7
  have hq99 : Below w.heap.size w W99 := by rw [← hS]; exact set4_q hq3 (by omega)
  clear hS
  refine bodyPost_ret (v := rectV 0 0 0 0) (by simp [results, Tryd.results28, go_sem, u0, u1, u2, u3]) rfl ⟨rfl, hq99⟩

set_option maxHeartbeats 2000000 in
theorem rshift_x2 (x y r h a b c d dx dy : Int) (w : World) (n : Norm x y r h a b c d) (hc : ¬ c = 0) (h0 : dx ≤ 4194304) (h1 : dx < -4194304) :
    Calls Tryd.prog 28 #[rectV x y r h, i6 dx, i6 dy] w fun e w' => e = .returned (rectV 0 0 0 0) ∧ Below w.heap.size w w' := by
  have HN := Lib.hid n
  clear n
  go_enter Tryd.func28, Tryd.ntmps28
  go_wp2_with fail
  generalize hW : (w.alloc (Obj.cells #[Value.int IntKind.i64 x, Value.int IntKind.i64 y, Value.int IntKind.i64 r, Value.int IntKind.i64 h] 23)).alloc (Obj.cells #[Value.int IntKind.i64 0, Value.int IntKind.i64 0, Value.int IntKind.i64 0, Value.int IntKind.i64 0] 23) = W1
  have f1_0 : W1.cell? ⟨w.heap.size, 0, none⟩ = some (i6 x) := by rw [← hW]; exact cell_old (cell_new rfl)
  have g1_0 : W1.frozen? ⟨w.heap.size, 0, none⟩ = false := by rw [← hW]; exact (frozen_old (cell_new rfl) frozen_new)
  have f1_1 : W1.cell? ⟨w.heap.size, 1, none⟩ = some (i6 y) := by rw [← hW]; exact cell_old (cell_new rfl)
  have g1_1 : W1.frozen? ⟨w.heap.size, 1, none⟩ = false := by rw [← hW]; exact (frozen_old (cell_new rfl) frozen_new)
  have f1_2 : W1.cell? ⟨w.heap.size, 2, none⟩ = some (i6 r) := by rw [← hW]; exact cell_old (cell_new rfl)
  have g1_2 : W1.frozen? ⟨w.heap.size, 2, none⟩ = false := by rw [← hW]; exact (frozen_old (cell_new rfl) frozen_new)
  have f1_3 : W1.cell? ⟨w.heap.size, 3, none⟩ = some (i6 h) := by rw [← hW]; exact cell_old (cell_new rfl)
  have g1_3 : W1.frozen? ⟨w.heap.size, 3, none⟩ = false := by rw [← hW]; exact (frozen_old (cell_new rfl) frozen_new)
  have f1_4 : W1.cell? ⟨w.heap.size + 1, 0, none⟩ = some (i6 0) := by rw [← hW]; exact cell_new1 rfl
  have g1_4 : W1.frozen? ⟨w.heap.size + 1, 0, none⟩ = false := by rw [← hW]; exact frozen_new1
  have f1_5 : W1.cell? ⟨w.heap.size + 1, 1, none⟩ = some (i6 0) := by rw [← hW]; exact cell_new1 rfl
  have g1_5 : W1.frozen? ⟨w.heap.size + 1, 1, none⟩ = false := by rw [← hW]; exact frozen_new1
  have f1_6 : W1.cell? ⟨w.heap.size + 1, 2, none⟩ = some (i6 0) := by rw [← hW]; exact cell_new1 rfl
  have g1_6 : W1.frozen? ⟨w.heap.size + 1, 2, none⟩ = false := by rw [← hW]; exact frozen_new1
  have f1_7 : W1.cell? ⟨w.heap.size + 1, 3, none⟩ = some (i6 0) := by rw [← hW]; exact cell_new1 rfl
  have g1_7 : W1.frozen? ⟨w.heap.size + 1, 3, none⟩ = false := by rw [← hW]; exact frozen_new1
  have hq1 : Below w.heap.size w W1 := by rw [← hW]; (repeat' (first | with_reducible exact Below.refl _ _ | with_reducible assumption | with_reducible refine q_alloc ?_ _ | with_reducible refine q_drew ?_ | with_reducible refine q_drewN _ ?_ | with_reducible refine q_setCell ?_ ?_ _ | (left; simp; done) | (right; simp; done) | (right; dsimp only; omega) | (left; dsimp only; omega)))
  clear hW
  refine (as_norm HN.out _).mono ?_
  rintro e w2 ⟨rfl, hb⟩
  have hq2 : Below w.heap.size w w2 := q_step hq1 hb
  have f2_0 := cell_below hb f1_0
  have f2_1 := cell_below hb f1_1
  have f2_2 := cell_below hb f1_2
  have f2_3 := cell_below hb f1_3
  have f2_4 := cell_below hb f1_4
  have f2_5 := cell_below hb f1_5
  have f2_6 := cell_below hb f1_6
  have f2_7 := cell_below hb f1_7
  have g2_0 := frozen_below hb f1_0 g1_0
  have g2_1 := frozen_below hb f1_1 g1_1
  have g2_2 := frozen_below hb f1_2 g1_2
  have g2_3 := frozen_below hb f1_3 g1_3
  have g2_4 := frozen_below hb f1_4 g1_4
  have g2_5 := frozen_below hb f1_5 g1_5
  have g2_6 := frozen_below hb f1_6 g1_6
  have g2_7 := frozen_below hb f1_7 g1_7
  clear hb f1_0 f1_1 f1_2 f1_3 f1_4 f1_5 f1_6 f1_7 g1_0 g1_1 g1_2 g1_3 g1_4 g1_5 g1_6 g1_7 hq1
  have z2_1 := block_lt_of_cell f2_0
  have z2_2 := block_lt_of_cell f2_4
  go_upto_region 2 with fail
  generalize hW : ((((w2).setCell ⟨w.heap.size, 0, none⟩ (Value.int IntKind.i64 a)).setCell ⟨w.heap.size, 1, none⟩ (Value.int IntKind.i64 b)).setCell ⟨w.heap.size, 2, none⟩ (Value.int IntKind.i64 c)).setCell ⟨w.heap.size, 3, none⟩ (Value.int IntKind.i64 d) = W3
  have hS : set4 w2 (w.heap.size) (Value.int IntKind.i64 a) (Value.int IntKind.i64 b) (Value.int IntKind.i64 c) (Value.int IntKind.i64 d) = W3 := hW
  clear hW
  have f3_0 : W3.cell? ⟨w.heap.size, 0, none⟩ = some (i6 a) := by rw [← hS]; exact set4_0 f2_0
  have f3_1 : W3.cell? ⟨w.heap.size, 1, none⟩ = some (i6 b) := by rw [← hS]; exact set4_1 f2_1
  have f3_2 : W3.cell? ⟨w.heap.size, 2, none⟩ = some (i6 c) := by rw [← hS]; exact set4_2 f2_2
  have f3_3 : W3.cell? ⟨w.heap.size, 3, none⟩ = some (i6 d) := by rw [← hS]; exact set4_3 f2_3
  have f3_4 : W3.cell? ⟨w.heap.size + 1, 0, none⟩ = some (i6 0) := by rw [← hS]; exact set4_o f2_4 (by omega)
  have f3_5 : W3.cell? ⟨w.heap.size + 1, 1, none⟩ = some (i6 0) := by rw [← hS]; exact set4_o f2_5 (by omega)
  have f3_6 : W3.cell? ⟨w.heap.size + 1, 2, none⟩ = some (i6 0) := by rw [← hS]; exact set4_o f2_6 (by omega)
  have f3_7 : W3.cell? ⟨w.heap.size + 1, 3, none⟩ = some (i6 0) := by rw [← hS]; exact set4_o f2_7 (by omega)
  have g3_0 : W3.frozen? ⟨w.heap.size, 0, none⟩ = false := by rw [← hS]; exact set4_f g2_0
  have g3_1 : W3.frozen? ⟨w.heap.size, 1, none⟩ = false := by rw [← hS]; exact set4_f g2_1
  have g3_2 : W3.frozen? ⟨w.heap.size, 2, none⟩ = false := by rw [← hS]; exact set4_f g2_2
  have g3_3 : W3.frozen? ⟨w.heap.size, 3, none⟩ = false := by rw [← hS]; exact set4_f g2_3
  have g3_4 : W3.frozen? ⟨w.heap.size + 1, 0, none⟩ = false := by rw [← hS]; exact set4_f g2_4
  have g3_5 : W3.frozen? ⟨w.heap.size + 1, 1, none⟩ = false := by rw [← hS]; exact set4_f g2_5
  have g3_6 : W3.frozen? ⟨w.heap.size + 1, 2, none⟩ = false := by rw [← hS]; exact set4_f g2_6
  have g3_7 : W3.frozen? ⟨w.heap.size + 1, 3, none⟩ = false := by rw [← hS]; exact set4_f g2_7
  have hq3 : Below w.heap.size w W3 := by rw [← hS]; exact set4_q hq2 (Nat.le_refl _)
  clear hS f2_0 f2_1 f2_2 f2_3 f2_4 f2_5 f2_6 f2_7 g2_0 g2_1 g2_2 g2_3 g2_4 g2_5 g2_6 g2_7 hq2 z2_1 z2_2
  have z3_1 := block_lt_of_cell f3_0
  have z3_2 := block_lt_of_cell f3_4
  go_wp2_with fail
  generalize hW : (((W3.setCell ⟨w.heap.size + 1, 0, none⟩ (Value.int IntKind.i64 0)).setCell ⟨w.heap.size + 1, 1, none⟩ (Value.int IntKind.i64 0)).setCell ⟨w.heap.size + 1, 2, none⟩ (Value.int IntKind.i64 0)).setCell ⟨w.heap.size + 1, 3, none⟩ (Value.int IntKind.i64 0) = W99
  have hS : set4 W3 (w.heap.size + 1) (Value.int IntKind.i64 0) (Value.int IntKind.i64 0) (Value.int IntKind.i64 0) (Value.int IntKind.i64 0) = W99 := hW
  clear hW
  have u0 : W99.cell? ⟨w.heap.size + 1, 0, none⟩ = some (i6 0) := by rw [← hS]; exact set4_0 f3_4
  have u1 : W99.cell? ⟨w.heap.size + 1, 1, none⟩ = some (i6 0) := by rw [← hS]; exact set4_1 f3_5
  have u2 : W99.cell? ⟨w.heap.size + 1, 2, none⟩ = some (i6 0) := by rw [← hS]; exact set4_2 f3_6
  have u3 : W99.cell? ⟨w.heap.size + 1, 3, none⟩ = some (i6 0) := by rw [← hS]; exact set4_3 f3_7
  have hq99 : Below w.heap.size w W99 := by rw [← hS]; exact set4_q hq3 (by omega)
  clear hS
  refine bodyPost_ret (v := rectV 0 0 0 0) (by simp [results, Tryd.results28, go_sem, u0, u1, u2, u3]) rfl ⟨rfl, hq99⟩

set_option maxHeartbeats 2000000 in
theorem rshift_y1 (x y r h a b c d dx dy : Int) (w : World) (n : Norm x y r h a b c d) (hc : ¬ c = 0) (h0 : dx ≤ 4194304) (h1 : -4194304 ≤ dx) (h2 : 4194304 < dy) :
    Calls Tryd.prog 28 #[rectV x y r h, i6 dx, i6 dy] w fun e w' => e = .returned (rectV 0 0 0 0) ∧ Below w.heap.size w w' := by
  have HN := Lib.hid n
  clear n
  go_enter Tryd.func28, Tryd.ntmps28
  go_wp2_with fail
  generalize hW : (w.alloc (Obj.cells #[Value.int IntKind.i64 x, Value.int IntKind.i64 y, Value.int IntKind.i64 r, Value.int IntKind.i64 h] 23)).alloc (Obj.cells #[Value.int IntKind.i64 0, Value.int IntKind.i64 0, Value.int IntKind.i64 0, Value.int IntKind.i64 0] 23) = W1
  have f1_0 : W1.cell? ⟨w.heap.size, 0, none⟩ = some (i6 x) := by rw [← hW]; exact cell_old (cell_new rfl)
  have g1_0 : W1.frozen? ⟨w.heap.size, 0, none⟩ = false := by rw [← hW]; exact (frozen_old (cell_new rfl) frozen_new)
  have f1_1 : W1.cell? ⟨w.heap.size, 1, none⟩ = some (i6 y) := by rw [← hW]; exact cell_old (cell_new rfl)
  have g1_1 : W1.frozen? ⟨w.heap.size, 1, none⟩ = false := by rw [← hW]; exact (frozen_old (cell_new rfl) frozen_new)
  have f1_2 : W1.cell? ⟨w.heap.size, 2, none⟩ = some (i6 r) := by rw [← hW]; exact cell_old (cell_new rfl)
  have g1_2 : W1.frozen? ⟨w.heap.size, 2, none⟩ = false := by rw [← hW]; exact (frozen_old (cell_new rfl) frozen_new)
  have f1_3 : W1.cell? ⟨w.heap.size, 3, none⟩ = some (i6 h) := by rw [← hW]; exact cell_old (cell_new rfl)
  have g1_3 : W1.frozen? ⟨w.heap.size, 3, none⟩ = false := by rw [← hW]; exact (frozen_old (cell_new rfl) frozen_new)
  have f1_4 : W1.cell? ⟨w.heap.size + 1, 0, none⟩ = some (i6 0) := by rw [← hW]; exact cell_new1 rfl
  have g1_4 : W1.frozen? ⟨w.heap.size + 1, 0, none⟩ = false := by rw [← hW]; exact frozen_new1
  have f1_5 : W1.cell? ⟨w.heap.size + 1, 1, none⟩ = some (i6 0) := by rw [← hW]; exact cell_new1 rfl
  have g1_5 : W1.frozen? ⟨w.heap.size + 1, 1, none⟩ = false := by rw [← hW]; exact frozen_new1
  have f1_6 : W1.cell? ⟨w.heap.size + 1, 2, none⟩ = some (i6 0) := by rw [← hW]; exact cell_new1 rfl
  have g1_6 : W1.frozen? ⟨w.heap.size + 1, 2, none⟩ = false := by rw [← hW]; exact frozen_new1
  have f1_7 : W1.cell? ⟨w.heap.size + 1, 3, none⟩ = some (i6 0) := by rw [← hW]; exact cell_new1 rfl
  have g1_7 : W1.frozen? ⟨w.heap.size + 1, 3, none⟩ = false := by rw [← hW]; exact frozen_new1
  have hq1 : Below w.heap.size w W1 := by rw [← hW]; (repeat' (first | with_reducible exact Below.refl _ _ | with_reducible assumption | with_reducible refine q_alloc ?_ _ | with_reducible refine q_drew ?_ | with_reducible refine q_drewN _ ?_ | with_reducible refine q_setCell ?_ ?_ _ | (left; simp; done) | (right; simp; done) | (right; dsimp only; omega) | (left; dsimp only; omega)))
  clear hW
  refine (as_norm HN.out _).mono ?_
  rintro e w2 ⟨rfl, hb⟩
  have hq2 : Below w.heap.size w w2 := q_step hq1 hb
  have f2_0 := cell_below hb f1_0
  have f2_1 := cell_below hb f1_1
  have f2_2 := cell_below hb f1_2
  have f2_3 := cell_below hb f1_3
  have f2_4 := cell_below hb f1_4
  have f2_5 := cell_below hb f1_5
  have f2_6 := cell_below hb f1_6
  have f2_7 := cell_below hb f1_7
  have g2_0 := frozen_below hb f1_0 g1_0
  have g2_1 := frozen_below hb f1_1 g1_1
  have g2_2 := frozen_below hb f1_2 g1_2
  have g2_3 := frozen_below hb f1_3 g1_3
  have g2_4 := frozen_below hb f1_4 g1_4
  have g2_5 := frozen_below hb f1_5 g1_5
  have g2_6 := frozen_below hb f1_6 g1_6
  have g2_7 := frozen_below hb f1_7 g1_7
  clear hb f1_0 f1_1 f1_2 f1_3 f1_4 f1_5 f1_6 f1_7 g1_0 g1_1 g1_2 g1_3 g1_4 g1_5 g1_6 g1_7 hq1
  have z2_1 := block_lt_of_cell f2_0
  have z2_2 := block_lt_of_cell f2_4
  go_upto_region 2 with fail
  generalize hW : ((((w2).setCell ⟨w.heap.size, 0, none⟩ (Value.int IntKind.i64 a)).setCell ⟨w.heap.size, 1, none⟩ (Value.int IntKind.i64 b)).setCell ⟨w.heap.size, 2, none⟩ (Value.int IntKind.i64 c)).setCell ⟨w.heap.size, 3, none⟩ (Value.int IntKind.i64 d) = W3
  have hS : set4 w2 (w.heap.size) (Value.int IntKind.i64 a) (Value.int IntKind.i64 b) (Value.int IntKind.i64 c) (Value.int IntKind.i64 d) = W3 := hW
  clear hW
  have f3_0 : W3.cell? ⟨w.heap.size, 0, none⟩ = some (i6 a) := by rw [← hS]; exact set4_0 f2_0
  have f3_1 : W3.cell? ⟨w.heap.size, 1, none⟩ = some (i6 b) := by rw [← hS]; exact set4_1 f2_1
  have f3_2 : W3.cell? ⟨w.heap.size, 2, none⟩ = some (i6 c) := by rw [← hS]; exact set4_2 f2_2
  have f3_3 : W3.cell? ⟨w.heap.size, 3, none⟩ = some (i6 d) := by rw [← hS]; exact set4_3 f2_3
  have f3_4 : W3.cell? ⟨w.heap.size + 1, 0, none⟩ = some (i6 0) := by rw [← hS]; exact set4_o f2_4 (by omega)
  have f3_5 : W3.cell? ⟨w.heap.size + 1, 1, none⟩ = some (i6 0) := by rw [← hS]; exact set4_o f2_5 (by omega)
  have f3_6 : W3.cell? ⟨w.heap.size + 1, 2, none⟩ = some (i6 0) := by rw [← hS]; exact set4_o f2_6 (by omega)
  have f3_7 : W3.cell? ⟨w.heap.size + 1, 3, none⟩ = some (i6 0) := by rw [← hS]; exact set4_o f2_7 (by omega)
  have g3_0 : W3.frozen? ⟨w.heap.size, 0, none⟩ = false := by rw [← hS]; exact set4_f g2_0
  have g3_1 : W3.frozen? ⟨w.heap.size, 1, none⟩ = false := by rw [← hS]; exact set4_f g2_1
  have g3_2 : W3.frozen? ⟨w.heap.size, 2, none⟩ = false := by rw [← hS]; exact set4_f g2_2
  have g3_3 : W3.frozen? ⟨w.heap.size, 3, none⟩ = false := by rw [← hS]; exact set4_f g2_3
  have g3_4 : W3.frozen? ⟨w.heap.size + 1, 0, none⟩ = false := by rw [← hS]; exact set4_f g2_4
  have g3_5 : W3.frozen? ⟨w.heap.size + 1, 1, none⟩ = false := by rw [← hS]; exact set4_f g2_5
  have g3_6 : W3.frozen? ⟨w.heap.size + 1, 2, none⟩ = false := by rw [← hS]; exact set4_f g2_6
  have g3_7 : W3.frozen? ⟨w.heap.size + 1, 3, none⟩ = false := by rw [← hS]; exact set4_f g2_7
  have hq3 : Below w.heap.size w W3 := by rw [← hS]; exact set4_q hq2 (Nat.le_refl _)
  clear hS f2_0 f2_1 f2_2 f2_3 f2_4 f2_5 f2_6 f2_7 g2_0 g2_1 g2_2 g2_3 g2_4 g2_5 g2_6 g2_7 hq2 z2_1 z2_2
  have z3_1 := block_lt_of_cell f3_0
  have z3_2 := block_lt_of_cell f3_4
  go_wp2_with fail
  generalize hW : (((W3.setCell ⟨w.heap.size + 1, 0, none⟩ (Value.int IntKind.i64 0)).setCell ⟨w.heap.size + 1, 1, none⟩ (Value.int IntKind.i64 0)).setCell ⟨w.heap.size + 1, 2, none⟩ (Value.int IntKind.i64 0)).setCell ⟨w.heap.size + 1, 3, none⟩ (Value.int IntKind.i64 0) = W99
  have hS : set4 W3 (w.heap.size + 1) (Value.int IntKind.i64 0) (Value.int IntKind.i64 0) (Value.int IntKind.i64 0) (Value.int IntKind.i64 0) = W99 := hW
  clear hW
  have u0 : W99.cell? ⟨w.heap.size + 1, 0, none⟩ = some (i6 0) := by rw [← hS]; exact set4_0 f3_4
  have u1 : W99.cell? ⟨w.heap.size + 1, 1, none⟩ = some (i6 0) := by rw [← hS]; exact set4_1 f3_5
  have u2 : W99.cell? ⟨w.heap.size + 1, 2, none⟩ = some (i6 0) := by rw [← hS]; exact set4_2 f3_6
  have u3 : W99.cell? ⟨w.heap.size + 1, 3, none⟩ = some (i6 0) := by rw [← hS]; exact set4_3 f3_7
  have hq99 : Below w.heap.size w W99 := by rw [← hS]; exact set4_q hq3 (by omega)
  clear hS
  refine bodyPost_ret (v := rectV 0 0 0 0) (by simp [results, Tryd.results28, go_sem, u0, u1, u2, u3]) rfl ⟨rfl, hq99⟩

set_option maxHeartbeats 2000000 in
theorem rshift_y2 (x y r h a b c d dx dy : Int) (w : World) (n : Norm x y r h a b c d) (hc : ¬ c = 0) (h0 : dx ≤ 4194304) (h1 : -4194304 ≤ dx) (h2 : dy ≤ 4194304) (h3 : dy < -4194304) :
    Calls Tryd.prog 28 #[rectV x y r h, i6 dx, i6 dy] w fun e w' => e = .returned (rectV 0 0 0 0) ∧ Below w.heap.size w w' := by
  have HN := Lib.hid n
  clear n
  go_enter Tryd.func28, Tryd.ntmps28
  go_wp2_with fail
  generalize hW : (w.alloc (Obj.cells #[Value.int IntKind.i64 x, Value.int IntKind.i64 y, Value.int IntKind.i64 r, Value.int IntKind.i64 h] 23)).alloc (Obj.cells #[Value.int IntKind.i64 0, Value.int IntKind.i64 0, Value.int IntKind.i64 0, Value.int IntKind.i64 0] 23) = W1
  have f1_0 : W1.cell? ⟨w.heap.size, 0, none⟩ = some (i6 x) := by rw [← hW]; exact cell_old (cell_new rfl)
  have g1_0 : W1.frozen? ⟨w.heap.size, 0, none⟩ = false := by rw [← hW]; exact (frozen_old (cell_new rfl) frozen_new)
  have f1_1 : W1.cell? ⟨w.heap.size, 1, none⟩ = some (i6 y) := by rw [← hW]; exact cell_old (cell_new rfl)
  have g1_1 : W1.frozen? ⟨w.heap.size, 1, none⟩ = false := by rw [← hW]; exact (frozen_old (cell_new rfl) frozen_new)
  have f1_2 : W1.cell? ⟨w.heap.size, 2, none⟩ = some (i6 r) := by rw [← hW]; exact cell_old (cell_new rfl)
  have g1_2 : W1.frozen? ⟨w.heap.size, 2, none⟩ = false := by rw [← hW]; exact (frozen_old (cell_new rfl) frozen_new)
  have f1_3 : W1.cell? ⟨w.heap.size, 3, none⟩ = some (i6 h) := by rw [← hW]; exact cell_old (cell_new rfl)
  have g1_3 : W1.frozen? ⟨w.heap.size, 3, none⟩ = false := by rw [← hW]; exact (frozen_old (cell_new rfl) frozen_new)
  have f1_4 : W1.cell? ⟨w.heap.size + 1, 0, none⟩ = some (i6 0) := by rw [← hW]; exact cell_new1 rfl
  have g1_4 : W1.frozen? ⟨w.heap.size + 1, 0, none⟩ = false := by rw [← hW]; exact frozen_new1
  have f1_5 : W1.cell? ⟨w.heap.size + 1, 1, none⟩ = some (i6 0) := by rw [← hW]; exact cell_new1 rfl
  have g1_5 : W1.frozen? ⟨w.heap.size + 1, 1, none⟩ = false := by rw [← hW]; exact frozen_new1
  have f1_6 : W1.cell? ⟨w.heap.size + 1, 2, none⟩ = some (i6 0) := by rw [← hW]; exact cell_new1 rfl
  have g1_6 : W1.frozen? ⟨w.heap.size + 1, 2, none⟩ = false := by rw [← hW]; exact frozen_new1
  have f1_7 : W1.cell? ⟨w.heap.size + 1, 3, none⟩ = some (i6 0) := by rw [← hW]; exact cell_new1 rfl
  have g1_7 : W1.frozen? ⟨w.heap.size + 1, 3, none⟩ = false := by rw [← hW]; exact frozen_new1
  have hq1 : Below w.heap.size w W1 := by rw [← hW]; (repeat' (first | with_reducible exact Below.refl _ _ | with_reducible assumption | with_reducible refine q_alloc ?_ _ | with_reducible refine q_drew ?_ | with_reducible refine q_drewN _ ?_ | with_reducible refine q_setCell ?_ ?_ _ | (left; simp; done) | (right; simp; done) | (right; dsimp only; omega) | (left; dsimp only; omega)))
  clear hW
  refine (as_norm HN.out _).mono ?_
  rintro e w2 ⟨rfl, hb⟩
  have hq2 : Below w.heap.size w w2 := q_step hq1 hb
  have f2_0 := cell_below hb f1_0
  have f2_1 := cell_below hb f1_1
  have f2_2 := cell_below hb f1_2
  have f2_3 := cell_below hb f1_3
  have f2_4 := cell_below hb f1_4
  have f2_5 := cell_below hb f1_5
  have f2_6 := cell_below hb f1_6
  have f2_7 := cell_below hb f1_7
  have g2_0 := frozen_below hb f1_0 g1_0
  have g2_1 := frozen_below hb f1_1 g1_1
  have g2_2 := frozen_below hb f1_2 g1_2
  have g2_3 := frozen_below hb f1_3 g1_3
  have g2_4 := frozen_below hb f1_4 g1_4
  have g2_5 := frozen_below hb f1_5 g1_5
  have g2_6 := frozen_below hb f1_6 g1_6
  have g2_7 := frozen_below hb f1_7 g1_7
  clear hb f1_0 f1_1 f1_2 f1_3 f1_4 f1_5 f1_6 f1_7 g1_0 g1_1 g1_2 g1_3 g1_4 g1_5 g1_6 g1_7 hq1
  have z2_1 := block_lt_of_cell f2_0
  have z2_2 := block_lt_of_cell f2_4
  go_upto_region 2 with fail
  generalize hW : ((((w2).setCell ⟨w.heap.size, 0, none⟩ (Value.int IntKind.i64 a)).setCell ⟨w.heap.size, 1, none⟩ (Value.int IntKind.i64 b)).setCell ⟨w.heap.size, 2, none⟩ (Value.int IntKind.i64 c)).setCell ⟨w.heap.size, 3, none⟩ (Value.int IntKind.i64 d) = W3
  have hS : set4 w2 (w.heap.size) (Value.int IntKind.i64 a) (Value.int IntKind.i64 b) (Value.int IntKind.i64 c) (Value.int IntKind.i64 d) = W3 := hW
  clear hW
  have f3_0 : W3.cell? ⟨w.heap.size, 0, none⟩ = some (i6 a) := by rw [← hS]; exact set4_0 f2_0
  have f3_1 : W3.cell? ⟨w.heap.size, 1, none⟩ = some (i6 b) := by rw [← hS]; exact set4_1 f2_1
  have f3_2 : W3.cell? ⟨w.heap.size, 2, none⟩ = some (i6 c) := by rw [← hS]; exact set4_2 f2_2
  have f3_3 : W3.cell? ⟨w.heap.size, 3, none⟩ = some (i6 d) := by rw [← hS]; exact set4_3 f2_3
  have f3_4 : W3.cell? ⟨w.heap.size + 1, 0, none⟩ = some (i6 0) := by rw [← hS]; exact set4_o f2_4 (by omega)
  have f3_5 : W3.cell? ⟨w.heap.size + 1, 1, none⟩ = some (i6 0) := by rw [← hS]; exact set4_o f2_5 (by omega)
  have f3_6 : W3.cell? ⟨w.heap.size + 1, 2, none⟩ = some (i6 0) := by rw [← hS]; exact set4_o f2_6 (by omega)
  have f3_7 : W3.cell? ⟨w.heap.size + 1, 3, none⟩ = some (i6 0) := by rw [← hS]; exact set4_o f2_7 (by omega)
  have g3_0 : W3.frozen? ⟨w.heap.size, 0, none⟩ = false := by rw [← hS]; exact set4_f g2_0
  have g3_1 : W3.frozen? ⟨w.heap.size, 1, none⟩ = false := by rw [← hS]; exact set4_f g2_1
  have g3_2 : W3.frozen? ⟨w.heap.size, 2, none⟩ = false := by rw [← hS]; exact set4_f g2_2
  have g3_3 : W3.frozen? ⟨w.heap.size, 3, none⟩ = false := by rw [← hS]; exact set4_f g2_3
  have g3_4 : W3.frozen? ⟨w.heap.size + 1, 0, none⟩ = false := by rw [← hS]; exact set4_f g2_4
  have g3_5 : W3.frozen? ⟨w.heap.size + 1, 1, none⟩ = false := by rw [← hS]; exact set4_f g2_5
  have g3_6 : W3.frozen? ⟨w.heap.size + 1, 2, none⟩ = false := by rw [← hS]; exact set4_f g2_6
  have g3_7 : W3.frozen? ⟨w.heap.size + 1, 3, none⟩ = false := by rw [← hS]; exact set4_f g2_7
  have hq3 : Below w.heap.size w W3 := by rw [← hS]; exact set4_q hq2 (Nat.le_refl _)
  clear hS f2_0 f2_1 f2_2 f2_3 f2_4 f2_5 f2_6 f2_7 g2_0 g2_1 g2_2 g2_3 g2_4 g2_5 g2_6 g2_7 hq2 z2_1 z2_2
  have z3_1 := block_lt_of_cell f3_0
  have z3_2 := block_lt_of_cell f3_4
  go_wp2_with fail
  generalize hW : (((W3.setCell ⟨w.heap.size + 1, 0, none⟩ (Value.int IntKind.i64 0)).setCell ⟨w.heap.size + 1, 1, none⟩ (Value.int IntKind.i64 0)).setCell ⟨w.heap.size + 1, 2, none⟩ (Value.int IntKind.i64 0)).setCell ⟨w.heap.size + 1, 3, none⟩ (Value.int IntKind.i64 0) = W99
  have hS : set4 W3 (w.heap.size + 1) (Value.int IntKind.i64 0) (Value.int IntKind.i64 0) (Value.int IntKind.i64 0) (Value.int IntKind.i64 0) = W99 := hW
  clear hW
  have u0 : W99.cell? ⟨w.heap.size + 1, 0, none⟩ = some (i6 0) := by rw [← hS]; exact set4_0 f3_4
  have u1 : W99.cell? ⟨w.heap.size + 1, 1, none⟩ = some (i6 0) := by rw [← hS]; exact set4_1 f3_5
  have u2 : W99.cell? ⟨w.heap.size + 1, 2, none⟩ = some (i6 0) := by rw [← hS]; exact set4_2 f3_6
  have u3 : W99.cell? ⟨w.heap.size + 1, 3, none⟩ = some (i6 0) := by rw [← hS]; exact set4_3 f3_7
  have hq99 : Below w.heap.size w W99 := by rw [← hS]; exact set4_q hq3 (by omega)
  clear hS
  refine bodyPost_ret (v := rectV 0 0 0 0) (by simp [results, Tryd.results28, go_sem, u0, u1, u2, u3]) rfl ⟨rfl, hq99⟩

theorem norm_bad {x y r h : Int} (g : ¬ Good x y r h) : Norm x y r h 0 0 0 0 := Or.inr ⟨g, rfl, rfl, rfl, rfl⟩
/-- The document's Shift: what shift_any tells of the program's. -/
theorem rshift_any (x y r h a b c d dx dy a' b' c' d' : Int) (w : World) (n : Norm x y r h a b c d)
    (hh : (c = 0 ∨ dx < -2097152 ∨ 2097152 < dx ∨ dy < -2097152 ∨ 2097152 < dy) ∧ a' = 0 ∧ b' = 0 ∧ c' = 0 ∧ d' = 0 ∨ ¬ (c = 0 ∨ dx < -2097152 ∨ 2097152 < dx ∨ dy < -2097152 ∨ 2097152 < dy) ∧ Norm (a + dx) (b + dy) c d a' b' c' d') :
    Calls Tryd.prog 28 #[rectV x y r h, i6 dx, i6 dy] w fun e w' => e = .returned (rectV a' b' c' d') ∧ Below w.heap.size w w' := by
  have bn := n.bounds
  rcases hh with ⟨hh, rfl, rfl, rfl, rfl⟩ | ⟨hh, n2⟩
  · by_cases hc : c = 0
    · obtain ⟨rfl, rfl, rfl, rfl⟩ : a = 0 ∧ b = 0 ∧ c = 0 ∧ d = 0 := by omega
      exact rshift_zero x y r h dx dy w n
    · by_cases h1 : 4194304 < dx
      · exact rshift_x1 x y r h a b c d dx dy w n hc h1
      · by_cases h2 : dx < -4194304
        · exact rshift_x2 x y r h a b c d dx dy w n hc (by omega) h2
        · by_cases h3 : 4194304 < dy
          · exact rshift_y1 x y r h a b c d dx dy w n hc (by omega) (by omega) h3
          · by_cases h4 : dy < -4194304
            · exact rshift_y2 x y r h a b c d dx dy w n hc (by omega) (by omega) (by omega) h4
            · exact rshift_near x y r h a b c d dx dy 0 0 0 0 w n (by omega) (by omega) (by omega) (by omega) (by omega) (norm_bad fun g => by have := g.bounds; omega)
  · exact rshift_near x y r h a b c d dx dy a' b' c' d' w n (by omega) (by omega) (by omega) (by omega) (by omega) n2
end Go.Proofs.YtlofhbeifgaoeaaDoor
