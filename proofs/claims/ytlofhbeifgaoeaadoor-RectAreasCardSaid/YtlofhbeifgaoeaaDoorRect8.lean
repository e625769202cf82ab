import Derived.Test.YtlofhbeifgaoeaaDoorRect7
namespace Go.Proofs.YtlofhbeifgaoeaaDoor
open Go Go.RowKit
theorem rhas0 (x y r h a b c d u v : Int) (w : World) (n : Norm x y r h a b c d)  (c0 : ¬ a ≤ u) :
    Calls Tryd.prog 15 #[rectV x y r h, i6 u, i6 v] w fun e w' => e = .returned (.bool false) ∧ Below w.heap.size w w' := by
  have HN := Lib.hid n
  have bn := n.bounds
  clear n
  go_enter Tryd.func15, Tryd.ntmps15
  go_wp2_with fail
  generalize hW : w.alloc (Obj.cells #[Value.int IntKind.i64 x, Value.int IntKind.i64 y, Value.int IntKind.i64 r, Value.int IntKind.i64 h] 23) = W1
  have f1_0 : W1.cell? ⟨w.heap.size, 0, none⟩ = some (i6 x) := by rw [← hW]; exact cell_new rfl
  have g1_0 : W1.frozen? ⟨w.heap.size, 0, none⟩ = false := by rw [← hW]; exact frozen_new
  have f1_1 : W1.cell? ⟨w.heap.size, 1, none⟩ = some (i6 y) := by rw [← hW]; exact cell_new rfl
  have g1_1 : W1.frozen? ⟨w.heap.size, 1, none⟩ = false := by rw [← hW]; exact frozen_new
  have f1_2 : W1.cell? ⟨w.heap.size, 2, none⟩ = some (i6 r) := by rw [← hW]; exact cell_new rfl
  have g1_2 : W1.frozen? ⟨w.heap.size, 2, none⟩ = false := by rw [← hW]; exact frozen_new
  have f1_3 : W1.cell? ⟨w.heap.size, 3, none⟩ = some (i6 h) := by rw [← hW]; exact cell_new rfl
  have g1_3 : W1.frozen? ⟨w.heap.size, 3, none⟩ = false := by rw [← hW]; exact frozen_new
  have hq1 : Below w.heap.size w W1 := by rw [← hW]; (repeat' (first | with_reducible exact Below.refl _ _ | with_reducible assumption | with_reducible refine q_alloc ?_ _ | with_reducible refine q_drew ?_ | with_reducible refine q_drewN _ ?_ | with_reducible refine q_setCell ?_ ?_ _ | (left; simp; done) | (right; simp; done) | (right; dsimp only; omega) | (left; dsimp only; omega)))
  clear hW
  refine (as_norm HN.out _).mono ?_
  rintro e w2 ⟨rfl, hb⟩
  have hq2 : Below w.heap.size w w2 := q_step hq1 hb
  have f2_0 := cell_below hb f1_0
  have f2_1 := cell_below hb f1_1
  have f2_2 := cell_below hb f1_2
  have f2_3 := cell_below hb f1_3
  have g2_0 := frozen_below hb f1_0 g1_0
  have g2_1 := frozen_below hb f1_1 g1_1
  have g2_2 := frozen_below hb f1_2 g1_2
  have g2_3 := frozen_below hb f1_3 g1_3
  clear hb f1_0 f1_1 f1_2 f1_3 g1_0 g1_1 g1_2 g1_3 hq1
  have z2_1 := block_lt_of_cell f2_0
  go_upto_region 2 with fail
  generalize hW : ((((w2).setCell ⟨w.heap.size, 0, none⟩ (Value.int IntKind.i64 a)).setCell ⟨w.heap.size, 1, none⟩ (Value.int IntKind.i64 b)).setCell ⟨w.heap.size, 2, none⟩ (Value.int IntKind.i64 c)).setCell ⟨w.heap.size, 3, none⟩ (Value.int IntKind.i64 d) = W3
  have hS : set4 w2 (w.heap.size) (Value.int IntKind.i64 a) (Value.int IntKind.i64 b) (Value.int IntKind.i64 c) (Value.int IntKind.i64 d) = W3 := hW
  clear hW
  have f3_0 : W3.cell? ⟨w.heap.size, 0, none⟩ = some (i6 a) := by rw [← hS]; exact set4_0 f2_0
  have f3_1 : W3.cell? ⟨w.heap.size, 1, none⟩ = some (i6 b) := by rw [← hS]; exact set4_1 f2_1
  have f3_2 : W3.cell? ⟨w.heap.size, 2, none⟩ = some (i6 c) := by rw [← hS]; exact set4_2 f2_2
  have f3_3 : W3.cell? ⟨w.heap.size, 3, none⟩ = some (i6 d) := by rw [← hS]; exact set4_3 f2_3
  have g3_0 : W3.frozen? ⟨w.heap.size, 0, none⟩ = false := by rw [← hS]; exact set4_f g2_0
  have g3_1 : W3.frozen? ⟨w.heap.size, 1, none⟩ = false := by rw [← hS]; exact set4_f g2_1
  have g3_2 : W3.frozen? ⟨w.heap.size, 2, none⟩ = false := by rw [← hS]; exact set4_f g2_2
  have g3_3 : W3.frozen? ⟨w.heap.size, 3, none⟩ = false := by rw [← hS]; exact set4_f g2_3
  have hq3 : Below w.heap.size w W3 := by rw [← hS]; exact set4_q hq2 (Nat.le_refl _)
  clear hS f2_0 f2_1 f2_2 f2_3 g2_0 g2_1 g2_2 g2_3 hq2 z2_1
  have z3_1 := block_lt_of_cell f3_0
  clear HN
  go_wp2
  go_returns
  exact ⟨ret_bool (by first | rfl | (simp; done) | (simp; omega)), by (repeat' (first | with_reducible exact Below.refl _ _ | with_reducible assumption | with_reducible refine q_alloc ?_ _ | with_reducible refine q_drew ?_ | with_reducible refine q_drewN _ ?_ | with_reducible refine q_setCell ?_ ?_ _ | (left; simp; done) | (right; simp; done) | (right; dsimp only; omega) | (left; dsimp only; omega)))⟩

theorem rhas1 (x y r h a b c d u v : Int) (w : World) (n : Norm x y r h a b c d) (c0 : a ≤ u) (c1 : ¬ u < a + c) :
    Calls Tryd.prog 15 #[rectV x y r h, i6 u, i6 v] w fun e w' => e = .returned (.bool false) ∧ Below w.heap.size w w' := by
  have HN := Lib.hid n
  have bn := n.bounds
  clear n
  go_enter Tryd.func15, Tryd.ntmps15
  go_wp2_with fail
  generalize hW : w.alloc (Obj.cells #[Value.int IntKind.i64 x, Value.int IntKind.i64 y, Value.int IntKind.i64 r, Value.int IntKind.i64 h] 23) = W1
  have f1_0 : W1.cell? ⟨w.heap.size, 0, none⟩ = some (i6 x) := by rw [← hW]; exact cell_new rfl
  have g1_0 : W1.frozen? ⟨w.heap.size, 0, none⟩ = false := by rw [← hW]; exact frozen_new
  have f1_1 : W1.cell? ⟨w.heap.size, 1, none⟩ = some (i6 y) := by rw [← hW]; exact cell_new rfl
  have g1_1 : W1.frozen? ⟨w.heap.size, 1, none⟩ = false := by rw [← hW]; exact frozen_new
  have f1_2 : W1.cell? ⟨w.heap.size, 2, none⟩ = some (i6 r) := by rw [← hW]; exact cell_new rfl
  have g1_2 : W1.frozen? ⟨w.heap.size, 2, none⟩ = false := by rw [← hW]; exact frozen_new
  have f1_3 : W1.cell? ⟨w.heap.size, 3, none⟩ = some (i6 h) := by rw [← hW]; exact cell_new rfl
  have g1_3 : W1.frozen? ⟨w.heap.size, 3, none⟩ = false := by rw [← hW]; exact frozen_new
  have hq1 : Below w.heap.size w W1 := by rw [← hW]; (repeat' (first | with_reducible exact Below.refl _ _ | with_reducible assumption | with_reducible refine q_alloc ?_ _ | with_reducible refine q_drew ?_ | with_reducible refine q_drewN _ ?_ | with_reducible refine q_setCell ?_ ?_ _ | (left; simp; done) | (right; simp; done) | (right; dsimp only; omega) | (left; dsimp only; omega)))
  clear hW
  refine (as_norm HN.out _).mono ?_
  rintro e w2 ⟨rfl, hb⟩
  have hq2 : Below w.heap.size w w2 := q_step hq1 hb
  have f2_0 := cell_below hb f1_0
  have f2_1 := cell_below hb f1_1
  have f2_2 := cell_below hb f1_2
  have f2_3 := cell_below hb f1_3
  have g2_0 := frozen_below hb f1_0 g1_0
  have g2_1 := frozen_below hb f1_1 g1_1
  have g2_2 := frozen_below hb f1_2 g1_2
  have g2_3 := frozen_below hb f1_3 g1_3
  clear hb f1_0 f1_1 f1_2 f1_3 g1_0 g1_1 g1_2 g1_3 hq1
  have z2_1 := block_lt_of_cell f2_0
  go_upto_region 2 with fail
  generalize hW : ((((w2).setCell ⟨w.heap.size, 0, none⟩ (Value.int IntKind.i64 a)).setCell ⟨w.heap.size, 1, none⟩ (Value.int IntKind.i64 b)).setCell ⟨w.heap.size, 2, none⟩ (Value.int IntKind.i64 c)).setCell ⟨w.heap.size, 3, none⟩ (Value.int IntKind.i64 d) = W3
  have hS : set4 w2 (w.heap.size) (Value.int IntKind.i64 a) (Value.int IntKind.i64 b) (Value.int IntKind.i64 c) (Value.int IntKind.i64 d) = W3 := hW
  clear hW
  have f3_0 : W3.cell? ⟨w.heap.size, 0, none⟩ = some (i6 a) := by rw [← hS]; exact set4_0 f2_0
  have f3_1 : W3.cell? ⟨w.heap.size, 1, none⟩ = some (i6 b) := by rw [← hS]; exact set4_1 f2_1
  have f3_2 : W3.cell? ⟨w.heap.size, 2, none⟩ = some (i6 c) := by rw [← hS]; exact set4_2 f2_2
  have f3_3 : W3.cell? ⟨w.heap.size, 3, none⟩ = some (i6 d) := by rw [← hS]; exact set4_3 f2_3
  have g3_0 : W3.frozen? ⟨w.heap.size, 0, none⟩ = false := by rw [← hS]; exact set4_f g2_0
  have g3_1 : W3.frozen? ⟨w.heap.size, 1, none⟩ = false := by rw [← hS]; exact set4_f g2_1
  have g3_2 : W3.frozen? ⟨w.heap.size, 2, none⟩ = false := by rw [← hS]; exact set4_f g2_2
  have g3_3 : W3.frozen? ⟨w.heap.size, 3, none⟩ = false := by rw [← hS]; exact set4_f g2_3
  have hq3 : Below w.heap.size w W3 := by rw [← hS]; exact set4_q hq2 (Nat.le_refl _)
  clear hS f2_0 f2_1 f2_2 f2_3 g2_0 g2_1 g2_2 g2_3 hq2 z2_1
  have z3_1 := block_lt_of_cell f3_0
  clear HN
  go_wp2
  go_returns
  exact ⟨ret_bool (by first | rfl | (simp; done) | (simp; omega)), by (repeat' (first | with_reducible exact Below.refl _ _ | with_reducible assumption | with_reducible refine q_alloc ?_ _ | with_reducible refine q_drew ?_ | with_reducible refine q_drewN _ ?_ | with_reducible refine q_setCell ?_ ?_ _ | (left; simp; done) | (right; simp; done) | (right; dsimp only; omega) | (left; dsimp only; omega)))⟩

theorem rhas2 (x y r h a b c d u v : Int) (w : World) (n : Norm x y r h a b c d) (c0 : a ≤ u) (c1 : u < a + c) (c2 : ¬ b ≤ v) :
    Calls Tryd.prog 15 #[rectV x y r h, i6 u, i6 v] w fun e w' => e = .returned (.bool false) ∧ Below w.heap.size w w' := by
  have HN := Lib.hid n
  have bn := n.bounds
  clear n
  go_enter Tryd.func15, Tryd.ntmps15
  go_wp2_with fail
  generalize hW : w.alloc (Obj.cells #[Value.int IntKind.i64 x, Value.int IntKind.i64 y, Value.int IntKind.i64 r, Value.int IntKind.i64 h] 23) = W1
  have f1_0 : W1.cell? ⟨w.heap.size, 0, none⟩ = some (i6 x) := by rw [← hW]; exact cell_new rfl
  have g1_0 : W1.frozen? ⟨w.heap.size, 0, none⟩ = false := by rw [← hW]; exact frozen_new
  have f1_1 : W1.cell? ⟨w.heap.size, 1, none⟩ = some (i6 y) := by rw [← hW]; exact cell_new rfl
  have g1_1 : W1.frozen? ⟨w.heap.size, 1, none⟩ = false := by rw [← hW]; exact frozen_new
  have f1_2 : W1.cell? ⟨w.heap.size, 2, none⟩ = some (i6 r) := by rw [← hW]; exact cell_new rfl
  have g1_2 : W1.frozen? ⟨w.heap.size, 2, none⟩ = false := by rw [← hW]; exact frozen_new
  have f1_3 : W1.cell? ⟨w.heap.size, 3, none⟩ = some (i6 h) := by rw [← hW]; exact cell_new rfl
  have g1_3 : W1.frozen? ⟨w.heap.size, 3, none⟩ = false := by rw [← hW]; exact frozen_new
  have hq1 : Below w.heap.size w W1 := by rw [← hW]; (repeat' (first | with_reducible exact Below.refl _ _ | with_reducible assumption | with_reducible refine q_alloc ?_ _ | with_reducible refine q_drew ?_ | with_reducible refine q_drewN _ ?_ | with_reducible refine q_setCell ?_ ?_ _ | (left; simp; done) | (right; simp; done) | (right; dsimp only; omega) | (left; dsimp only; omega)))
  clear hW
  refine (as_norm HN.out _).mono ?_
  rintro e w2 ⟨rfl, hb⟩
  have hq2 : Below w.heap.size w w2 := q_step hq1 hb
  have f2_0 := cell_below hb f1_0
  have f2_1 := cell_below hb f1_1
  have f2_2 := cell_below hb f1_2
  have f2_3 := cell_below hb f1_3
  have g2_0 := frozen_below hb f1_0 g1_0
  have g2_1 := frozen_below hb f1_1 g1_1
  have g2_2 := frozen_below hb f1_2 g1_2
  have g2_3 := frozen_below hb f1_3 g1_3
  clear hb f1_0 f1_1 f1_2 f1_3 g1_0 g1_1 g1_2 g1_3 hq1
  have z2_1 := block_lt_of_cell f2_0
  go_upto_region 2 with fail
  generalize hW : ((((w2).setCell ⟨w.heap.size, 0, none⟩ (Value.int IntKind.i64 a)).setCell ⟨w.heap.size, 1, none⟩ (Value.int IntKind.i64 b)).setCell ⟨w.heap.size, 2, none⟩ (Value.int IntKind.i64 c)).setCell ⟨w.heap.size, 3, none⟩ (Value.int IntKind.i64 d) = W3
  have hS : set4 w2 (w.heap.size) (Value.int IntKind.i64 a) (Value.int IntKind.i64 b) (Value.int IntKind.i64 c) (Value.int IntKind.i64 d) = W3 := hW
  clear hW
  have f3_0 : W3.cell? ⟨w.heap.size, 0, none⟩ = some (i6 a) := by rw [← hS]; exact set4_0 f2_0
  have f3_1 : W3.cell? ⟨w.heap.size, 1, none⟩ = some (i6 b) := by rw [← hS]; exact set4_1 f2_1
  have f3_2 : W3.cell? ⟨w.heap.size, 2, none⟩ = some (i6 c) := by rw [← hS]; exact set4_2 f2_2
  have f3_3 : W3.cell? ⟨w.heap.size, 3, none⟩ = some (i6 d) := by rw [← hS]; exact set4_3 f2_3
  have g3_0 : W3.frozen? ⟨w.heap.size, 0, none⟩ = false := by rw [← hS]; exact set4_f g2_0
  have g3_1 : W3.frozen? ⟨w.heap.size, 1, none⟩ = false := by rw [← hS]; exact set4_f g2_1
  have g3_2 : W3.frozen? ⟨w.heap.size, 2, none⟩ = false := by rw [← hS]; exact set4_f g2_2
  have g3_3 : W3.frozen? ⟨w.heap.size, 3, none⟩ = false := by rw [← hS]; exact set4_f g2_3
  have hq3 : Below w.heap.size w W3 := by rw [← hS]; exact set4_q hq2 (Nat.le_refl _)
  clear hS f2_0 f2_1 f2_2 f2_3 g2_0 g2_1 g2_2 g2_3 hq2 z2_1
  have z3_1 := block_lt_of_cell f3_0
  clear HN
  go_wp2
  go_returns
  exact ⟨ret_bool (by first | rfl | (simp; done) | (simp; omega)), by (repeat' (first | with_reducible exact Below.refl _ _ | with_reducible assumption | with_reducible refine q_alloc ?_ _ | with_reducible refine q_drew ?_ | with_reducible refine q_drewN _ ?_ | with_reducible refine q_setCell ?_ ?_ _ | (left; simp; done) | (right; simp; done) | (right; dsimp only; omega) | (left; dsimp only; omega)))⟩

theorem rhas3 (x y r h a b c d u v : Int) (w : World) (n : Norm x y r h a b c d) (c0 : a ≤ u) (c1 : u < a + c) (c2 : b ≤ v) (c3 : ¬ v < b + d) :
    Calls Tryd.prog 15 #[rectV x y r h, i6 u, i6 v] w fun e w' => e = .returned (.bool false) ∧ Below w.heap.size w w' := by
  have HN := Lib.hid n
  have bn := n.bounds
  clear n
  go_enter Tryd.func15, Tryd.ntmps15
  go_wp2_with fail
  generalize hW : w.alloc (Obj.cells #[Value.int IntKind.i64 x, Value.int IntKind.i64 y, Value.int IntKind.i64 r, Value.int IntKind.i64 h] 23) = W1
  have f1_0 : W1.cell? ⟨w.heap.size, 0, none⟩ = some (i6 x) := by rw [← hW]; exact cell_new rfl
  have g1_0 : W1.frozen? ⟨w.heap.size, 0, none⟩ = false := by rw [← hW]; exact frozen_new
  have f1_1 : W1.cell? ⟨w.heap.size, 1, none⟩ = some (i6 y) := by rw [← hW]; exact cell_new rfl
  have g1_1 : W1.frozen? ⟨w.heap.size, 1, none⟩ = false := by rw [← hW]; exact frozen_new
  have f1_2 : W1.cell? ⟨w.heap.size, 2, none⟩ = some (i6 r) := by rw [← hW]; exact cell_new rfl
  have g1_2 : W1.frozen? ⟨w.heap.size, 2, none⟩ = false := by rw [← hW]; exact frozen_new
  have f1_3 : W1.cell? ⟨w.heap.size, 3, none⟩ = some (i6 h) := by rw [← hW]; exact cell_new rfl
  have g1_3 : W1.frozen? ⟨w.heap.size, 3, none⟩ = false := by rw [← hW]; exact frozen_new
  have hq1 : Below w.heap.size w W1 := by rw [← hW]; (repeat' (first | with_reducible exact Below.refl _ _ | with_reducible assumption | with_reducible refine q_alloc ?_ _ | with_reducible refine q_drew ?_ | with_reducible refine q_drewN _ ?_ | with_reducible refine q_setCell ?_ ?_ _ | (left; simp; done) | (right; simp; done) | (right; dsimp only; omega) | (left; dsimp only; omega)))
  clear hW
  refine (as_norm HN.out _).mono ?_
  rintro e w2 ⟨rfl, hb⟩
  have hq2 : Below w.heap.size w w2 := q_step hq1 hb
  have f2_0 := cell_below hb f1_0
  have f2_1 := cell_below hb f1_1
  have f2_2 := cell_below hb f1_2
  have f2_3 := cell_below hb f1_3
  have g2_0 := frozen_below hb f1_0 g1_0
  have g2_1 := frozen_below hb f1_1 g1_1
  have g2_2 := frozen_below hb f1_2 g1_2
  have g2_3 := frozen_below hb f1_3 g1_3
  clear hb f1_0 f1_1 f1_2 f1_3 g1_0 g1_1 g1_2 g1_3 hq1
  have z2_1 := block_lt_of_cell f2_0
  go_upto_region 2 with fail
  generalize hW : ((((w2).setCell ⟨w.heap.size, 0, none⟩ (Value.int IntKind.i64 a)).setCell ⟨w.heap.size, 1, none⟩ (Value.int IntKind.i64 b)).setCell ⟨w.heap.size, 2, none⟩ (Value.int IntKind.i64 c)).setCell ⟨w.heap.size, 3, none⟩ (Value.int IntKind.i64 d) = W3
  have hS : set4 w2 (w.heap.size) (Value.int IntKind.i64 a) (Value.int IntKind.i64 b) (Value.int IntKind.i64 c) (Value.int IntKind.i64 d) = W3 := hW
  clear hW
  have f3_0 : W3.cell? ⟨w.heap.size, 0, none⟩ = some (i6 a) := by rw [← hS]; exact set4_0 f2_0
  have f3_1 : W3.cell? ⟨w.heap.size, 1, none⟩ = some (i6 b) := by rw [← hS]; exact set4_1 f2_1
  have f3_2 : W3.cell? ⟨w.heap.size, 2, none⟩ = some (i6 c) := by rw [← hS]; exact set4_2 f2_2
  have f3_3 : W3.cell? ⟨w.heap.size, 3, none⟩ = some (i6 d) := by rw [← hS]; exact set4_3 f2_3
  have g3_0 : W3.frozen? ⟨w.heap.size, 0, none⟩ = false := by rw [← hS]; exact set4_f g2_0
  have g3_1 : W3.frozen? ⟨w.heap.size, 1, none⟩ = false := by rw [← hS]; exact set4_f g2_1
  have g3_2 : W3.frozen? ⟨w.heap.size, 2, none⟩ = false := by rw [← hS]; exact set4_f g2_2
  have g3_3 : W3.frozen? ⟨w.heap.size, 3, none⟩ = false := by rw [← hS]; exact set4_f g2_3
  have hq3 : Below w.heap.size w W3 := by rw [← hS]; exact set4_q hq2 (Nat.le_refl _)
  clear hS f2_0 f2_1 f2_2 f2_3 g2_0 g2_1 g2_2 g2_3 hq2 z2_1
  have z3_1 := block_lt_of_cell f3_0
  clear HN
  go_wp2
  go_returns
  exact ⟨ret_bool (by first | rfl | (simp; done) | (simp; omega)), by (repeat' (first | with_reducible exact Below.refl _ _ | with_reducible assumption | with_reducible refine q_alloc ?_ _ | with_reducible refine q_drew ?_ | with_reducible refine q_drewN _ ?_ | with_reducible refine q_setCell ?_ ?_ _ | (left; simp; done) | (right; simp; done) | (right; dsimp only; omega) | (left; dsimp only; omega)))⟩

theorem rhas4 (x y r h a b c d u v : Int) (w : World) (n : Norm x y r h a b c d) (c0 : a ≤ u) (c1 : u < a + c) (c2 : b ≤ v) (c3 : v < b + d) :
    Calls Tryd.prog 15 #[rectV x y r h, i6 u, i6 v] w fun e w' => e = .returned (.bool true) ∧ Below w.heap.size w w' := by
  have HN := Lib.hid n
  have bn := n.bounds
  clear n
  go_enter Tryd.func15, Tryd.ntmps15
  go_wp2_with fail
  generalize hW : w.alloc (Obj.cells #[Value.int IntKind.i64 x, Value.int IntKind.i64 y, Value.int IntKind.i64 r, Value.int IntKind.i64 h] 23) = W1
  have f1_0 : W1.cell? ⟨w.heap.size, 0, none⟩ = some (i6 x) := by rw [← hW]; exact cell_new rfl
  have g1_0 : W1.frozen? ⟨w.heap.size, 0, none⟩ = false := by rw [← hW]; exact frozen_new
  have f1_1 : W1.cell? ⟨w.heap.size, 1, none⟩ = some (i6 y) := by rw [← hW]; exact cell_new rfl
  have g1_1 : W1.frozen? ⟨w.heap.size, 1, none⟩ = false := by rw [← hW]; exact frozen_new
  have f1_2 : W1.cell? ⟨w.heap.size, 2, none⟩ = some (i6 r) := by rw [← hW]; exact cell_new rfl
  have g1_2 : W1.frozen? ⟨w.heap.size, 2, none⟩ = false := by rw [← hW]; exact frozen_new
  have f1_3 : W1.cell? ⟨w.heap.size, 3, none⟩ = some (i6 h) := by rw [← hW]; exact cell_new rfl
  have g1_3 : W1.frozen? ⟨w.heap.size, 3, none⟩ = false := by rw [← hW]; exact frozen_new
  have hq1 : Below w.heap.size w W1 := by rw [← hW]; (repeat' (first | with_reducible exact Below.refl _ _ | with_reducible assumption | with_reducible refine q_alloc ?_ _ | with_reducible refine q_drew ?_ | with_reducible refine q_drewN _ ?_ | with_reducible refine q_setCell ?_ ?_ _ | (left; simp; done) | (right; simp; done) | (right; dsimp only; omega) | (left; dsimp only; omega)))
  clear hW
  refine (as_norm HN.out _).mono ?_
  rintro e w2 ⟨rfl, hb⟩
  have hq2 : Below w.heap.size w w2 := q_step hq1 hb
  have f2_0 := cell_below hb f1_0
  have f2_1 := cell_below hb f1_1
  have f2_2 := cell_below hb f1_2
  have f2_3 := cell_below hb f1_3
  have g2_0 := frozen_below hb f1_0 g1_0
  have g2_1 := frozen_below hb f1_1 g1_1
  have g2_2 := frozen_below hb f1_2 g1_2
  have g2_3 := frozen_below hb f1_3 g1_3
  clear hb f1_0 f1_1 f1_2 f1_3 g1_0 g1_1 g1_2 g1_3 hq1
  have z2_1 := block_lt_of_cell f2_0
  go_upto_region 2 with fail
  generalize hW : ((((w2).setCell ⟨w.heap.size, 0, none⟩ (Value.int IntKind.i64 a)).setCell ⟨w.heap.size, 1, none⟩ (Value.int IntKind.i64 b)).setCell ⟨w.heap.size, 2, none⟩ (Value.int IntKind.i64 c)).setCell ⟨w.heap.size, 3, none⟩ (Value.int IntKind.i64 d) = W3
  have hS : set4 w2 (w.heap.size) (Value.int IntKind.i64 a) (Value.int IntKind.i64 b) (Value.int IntKind.i64 c) (Value.int IntKind.i64 d) = W3 := hW
  clear hW
  have f3_0 : W3.cell? ⟨w.heap.size, 0, none⟩ = some (i6 a) := by rw [← hS]; exact set4_0 f2_0
  have f3_1 : W3.cell? ⟨w.heap.size, 1, none⟩ = some (i6 b) := by rw [← hS]; exact set4_1 f2_1
  have f3_2 : W3.cell? ⟨w.heap.size, 2, none⟩ = some (i6 c) := by rw [← hS]; exact set4_2 f2_2
  have f3_3 : W3.cell? ⟨w.heap.size, 3, none⟩ = some (i6 d) := by rw [← hS]; exact set4_3 f2_3
  have g3_0 : W3.frozen? ⟨w.heap.size, 0, none⟩ = false := by rw [← hS]; exact set4_f g2_0
  have g3_1 : W3.frozen? ⟨w.heap.size, 1, none⟩ = false := by rw [← hS]; exact set4_f g2_1
  have g3_2 : W3.frozen? ⟨w.heap.size, 2, none⟩ = false := by rw [← hS]; exact set4_f g2_2
  have g3_3 : W3.frozen? ⟨w.heap.size, 3, none⟩ = false := by rw [← hS]; exact set4_f g2_3
  have hq3 : Below w.heap.size w W3 := by rw [← hS]; exact set4_q hq2 (Nat.le_refl _)
  clear hS f2_0 f2_1 f2_2 f2_3 g2_0 g2_1 g2_2 g2_3 hq2 z2_1
  have z3_1 := block_lt_of_cell f3_0
  clear HN
  go_wp2
  go_returns
  exact ⟨ret_bool (by first | rfl | (simp; done) | (simp; omega)), by (repeat' (first | with_reducible exact Below.refl _ _ | with_reducible assumption | with_reducible refine q_alloc ?_ _ | with_reducible refine q_drew ?_ | with_reducible refine q_drewN _ ?_ | with_reducible refine q_setCell ?_ ?_ _ | (left; simp; done) | (right; simp; done) | (right; dsimp only; omega) | (left; dsimp only; omega)))⟩

theorem rhas_any (x y r h a b c d u v : Int) (w : World) (n : Norm x y r h a b c d) :
    Calls Tryd.prog 15 #[rectV x y r h, i6 u, i6 v] w fun e w' => e = .returned (.bool (inB a b c d u v)) ∧ Below w.heap.size w w' := by
  unfold inB
  by_cases c0 : a ≤ u
  · skip
    by_cases c1 : u < a + c
    · skip
      by_cases c2 : b ≤ v
      · skip
        by_cases c3 : v < b + d
        · skip
          rw [decide_eq_true (by omega)]
          exact rhas4 x y r h a b c d u v w n c0 c1 c2 c3
        · rw [decide_eq_false (by omega)]
          exact rhas3 x y r h a b c d u v w n c0 c1 c2 c3
      · rw [decide_eq_false (by omega)]
        exact rhas2 x y r h a b c d u v w n c0 c1 c2
    · rw [decide_eq_false (by omega)]
      exact rhas1 x y r h a b c d u v w n c0 c1
  · rw [decide_eq_false (by omega)]
    exact rhas0 x y r h a b c d u v w n  c0

theorem empty_norm (x y r h a b c d : Int) (w : World) (hs : RowAt 0 noneCells w) (n : Norm x y r h a b c d) :
    Calls Tryd.prog 12 #[rectV x y r h] w fun e w' => e = .returned (.bool (decide (c = 0))) ∧ Below w.heap.size w w' := by
  rcases n with ⟨g, rfl, rfl, rfl, rfl⟩ | ⟨g, rfl, rfl, rfl, rfl⟩
  · rw [decide_eq_false (by have := g.bounds; omega)]
    exact empty_good _ _ _ _ w hs g
  · exact empty_bad x y r h w hs g
theorem check_any (x y r h : Int) (w : World) (hs : RowAt 0 noneCells w) :
    Calls Tryd.prog 11 #[rectV x y r h] w fun e w' => e = .returned (i6 (if rightB x y r h then 0 else 1)) ∧ Below w.heap.size w w' := by
  rcases hr : rightB x y r h with _ | _
  all_goals
    have HR := Lib.hid hr
    clear hr
    go_enter Tryd.func11, Tryd.ntmps11
    go_wp2_with fail
    refine (isRight_any x y r h _ (by first | exact hs | exact hs.alloc _ | exact (hs.alloc _).alloc _)).mono ?_
    rintro e w1 ⟨rfl, hb⟩
    rw [HR.out]
    have hq : Below w.heap.size w w1 := by first | exact hb | exact q_step (a := w) (by (repeat' (first | with_reducible exact Below.refl _ _ | with_reducible assumption | with_reducible refine q_alloc ?_ _ | with_reducible refine q_drew ?_ | with_reducible refine q_drewN _ ?_ | with_reducible refine q_setCell ?_ ?_ _ | (left; simp; done) | (right; simp; done) | (right; dsimp only; omega) | (left; dsimp only; omega)))) hb
    clear hb
    go_wp2
    go_returns
    exact ⟨by first | rfl | (simp; done), hq⟩
end Go.Proofs.YtlofhbeifgaoeaaDoor
