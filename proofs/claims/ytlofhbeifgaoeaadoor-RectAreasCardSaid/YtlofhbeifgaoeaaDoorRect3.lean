import Derived.Test.YtlofhbeifgaoeaaDoorRectR
import Derived.Test.YtlofhbeifgaoeaaDoorLib2
import Derived.Deep.Cut
import Derived.Deep.DeepCutAuto
namespace Go.Proofs.YtlofhbeifgaoeaaDoor
open Go Go.RowKit

/-- The rectangle as it counts: itself, if it has places, or nothing. -/
def Norm (x y r h a b c d : Int) : Prop := (Good x y r h ∧ a = x ∧ b = y ∧ c = r ∧ d = h) ∨ (¬ Good x y r h ∧ a = 0 ∧ b = 0 ∧ c = 0 ∧ d = 0)
theorem norm_ex (x y r h : Int) : ∃ a b c d, Norm x y r h a b c d := by
  by_cases g : Good x y r h
  · exact ⟨x, y, r, h, Or.inl ⟨g, rfl, rfl, rfl, rfl⟩⟩
  · exact ⟨0, 0, 0, 0, Or.inr ⟨g, rfl, rfl, rfl, rfl⟩⟩
theorem Norm.bounds {x y r h a b c d : Int} (n : Norm x y r h a b c d) : 0 ≤ c ∧ c ≤ 2097152 ∧ -1048576 ≤ a ∧ a ≤ 1048576 ∧ a + c ≤ 1048576 ∧ 0 ≤ d ∧ d ≤ 2097152 ∧ -1048576 ≤ b ∧ b ≤ 1048576 ∧ b + d ≤ 1048576 ∧ ((c = 0 ∧ d = 0 ∧ a = 0 ∧ b = 0) ∨ (1 ≤ c ∧ 1 ≤ d)) := by
  rcases n with ⟨g, rfl, rfl, rfl, rfl⟩ | ⟨_, rfl, rfl, rfl, rfl⟩
  · have := g.bounds; omega
  · omega

theorem right_norm (x y r h a b c d : Int) (w : World) (hs : RowAt 0 noneCells w) (n : Norm x y r h a b c d) :
    Calls Tryd.prog 30 #[rectV x y r h] w fun e w' => e = .returned (rectV a b c d) ∧ Below w.heap.size w w' := by
  rcases n with ⟨g, rfl, rfl, rfl, rfl⟩ | ⟨g, rfl, rfl, rfl, rfl⟩
  · exact right_good _ _ _ _ w hs g
  · exact right_bad x y r h w hs g

def inB (X Y W H u v : Int) : Bool := decide (X ≤ u ∧ u < X + W ∧ Y ≤ v ∧ v < Y + H)

theorem has0 (x y r h a b c d u v : Int) (w : World) (hs : RowAt 0 noneCells w) (n : Norm x y r h a b c d)  (c0 : ¬ a ≤ u) :
    Calls Tryd.prog 14 #[rectV x y r h, i6 u, i6 v] w fun e w' => e = .returned (.bool false) ∧ Below w.heap.size w w' := by
  have HS := Lib.hid hs
  have HN := Lib.hid n
  have bn := n.bounds
  clear hs n
  go_enter Tryd.func14, Tryd.ntmps14
  go_wp2_with fail
  generalize hW : w.alloc (Obj.cells #[Value.int IntKind.i64 x, Value.int IntKind.i64 y, Value.int IntKind.i64 r, Value.int IntKind.i64 h] 23) = W1
  have f1_0 : W1.cell? ⟨w.heap.size, 0, none⟩ = some (i6 x) := by rw [← hW]; exact cell_new rfl
  have g1_0 : W1.frozen? ⟨w.heap.size, 0, none⟩ = false := by rw [← hW]; exact frozen_new
  have f1_1 : W1.cell? ⟨w.heap.size, 1, none⟩ = some (i6 y) := by rw [← hW]; exact cell_new rfl
  have g1_1 : W1.frozen? ⟨w.heap.size, 1, none⟩ = false := by rw [← hW]; exact frozen_new
  have f1_2 : W1.cell? ⟨w.heap.size, 2, none⟩ = some (i6 r) := by rw [← hW]; exact cell_new rfl
  have g1_2 : W1.frozen? ⟨w.heap.size, 2, none⟩ = false := by rw [← hW]; exact frozen_new
  have f1_3 : W1.cell? ⟨w.heap.size, 3, none⟩ = some (i6 h) := by rw [← hW]; exact cell_new rfl
  have g1_3 : W1.frozen? ⟨w.heap.size, 3, none⟩ = false := by rw [← hW]; exact frozen_new
  have hq1 : Below w.heap.size w W1 := by rw [← hW]; (repeat' (first | with_reducible exact Below.refl _ _ | with_reducible assumption | with_reducible refine q_alloc ?_ _ | with_reducible refine q_drew ?_ | with_reducible refine q_drewN _ ?_ | with_reducible refine q_setCell ?_ ?_ _ | (left; simp; done) | (right; simp; done) | (right; dsimp only; omega) | (left; dsimp only; omega)))
  clear hW
  refine (right_norm x y r h a b c d _ (HS.out.below hq1) HN.out).mono ?_
  rintro e w2 ⟨rfl, hb⟩
  have hq2 : Below w.heap.size w w2 := q_step hq1 hb
  have f2_0 := cell_below hb f1_0
  have f2_1 := cell_below hb f1_1
  have f2_2 := cell_below hb f1_2
  have f2_3 := cell_below hb f1_3
  have g2_0 := frozen_below hb f1_0 g1_0
  have g2_1 := frozen_below hb f1_1 g1_1
  have g2_2 := frozen_below hb f1_2 g1_2
  have g2_3 := frozen_below hb f1_3 g1_3
  clear hb f1_0 f1_1 f1_2 f1_3 g1_0 g1_1 g1_2 g1_3 hq1
  have z2_1 := block_lt_of_cell f2_0
  go_upto_region 2 with fail
  generalize hW : ((((w2).setCell ⟨w.heap.size, 0, none⟩ (Value.int IntKind.i64 a)).setCell ⟨w.heap.size, 1, none⟩ (Value.int IntKind.i64 b)).setCell ⟨w.heap.size, 2, none⟩ (Value.int IntKind.i64 c)).setCell ⟨w.heap.size, 3, none⟩ (Value.int IntKind.i64 d) = W3
  have hS : set4 w2 (w.heap.size) (Value.int IntKind.i64 a) (Value.int IntKind.i64 b) (Value.int IntKind.i64 c) (Value.int IntKind.i64 d) = W3 := hW
  clear hW
  have f3_0 : W3.cell? ⟨w.heap.size, 0, none⟩ = some (i6 a) := by rw [← hS]; exact set4_0 f2_0
  have f3_1 : W3.cell? ⟨w.heap.size, 1, none⟩ = some (i6 b) := by rw [← hS]; exact set4_1 f2_1
  have f3_2 : W3.cell? ⟨w.heap.size, 2, none⟩ = some (i6 c) := by rw [← hS]; exact set4_2 f2_2
  have f3_3 : W3.cell? ⟨w.heap.size, 3, none⟩ = some (i6 d) := by rw [← hS]; exact set4_3 f2_3
  have g3_0 : W3.frozen? ⟨w.heap.size, 0, none⟩ = false := by rw [← hS]; exact set4_f g2_0
  have g3_1 : W3.frozen? ⟨w.heap.size, 1, none⟩ = false := by rw [← hS]; exact set4_f g2_1
  have g3_2 : W3.frozen? ⟨w.heap.size, 2, none⟩ = false := by rw [← hS]; exact set4_f g2_2
  have g3_3 : W3.frozen? ⟨w.heap.size, 3, none⟩ = false := by rw [← hS]; exact set4_f g2_3
  have hq3 : Below w.heap.size w W3 := by rw [← hS]; exact set4_q hq2 (Nat.le_refl _)
  clear hS f2_0 f2_1 f2_2 f2_3 g2_0 g2_1 g2_2 g2_3 hq2 z2_1
  have z3_1 := block_lt_of_cell f3_0
  clear HS HN
  go_wp2
  go_returns
  exact ⟨ret_bool (by first | rfl | (simp; done) | (simp; omega)), by (repeat' (first | with_reducible exact Below.refl _ _ | with_reducible assumption | with_reducible refine q_alloc ?_ _ | with_reducible refine q_drew ?_ | with_reducible refine q_drewN _ ?_ | with_reducible refine q_setCell ?_ ?_ _ | (left; simp; done) | (right; simp; done) | (right; dsimp only; omega) | (left; dsimp only; omega)))⟩

theorem has1 (x y r h a b c d u v : Int) (w : World) (hs : RowAt 0 noneCells w) (n : Norm x y r h a b c d) (c0 : a ≤ u) (c1 : ¬ u < a + c) :
    Calls Tryd.prog 14 #[rectV x y r h, i6 u, i6 v] w fun e w' => e = .returned (.bool false) ∧ Below w.heap.size w w' := by
  have HS := Lib.hid hs
  have HN := Lib.hid n
  have bn := n.bounds
  clear hs n
  go_enter Tryd.func14, Tryd.ntmps14
  go_wp2_with fail
  generalize hW : w.alloc (Obj.cells #[Value.int IntKind.i64 x, Value.int IntKind.i64 y, Value.int IntKind.i64 r, Value.int IntKind.i64 h] 23) = W1
  have f1_0 : W1.cell? ⟨w.heap.size, 0, none⟩ = some (i6 x) := by rw [← hW]; exact cell_new rfl
  have g1_0 : W1.frozen? ⟨w.heap.size, 0, none⟩ = false := by rw [← hW]; exact frozen_new
  have f1_1 : W1.cell? ⟨w.heap.size, 1, none⟩ = some (i6 y) := by rw [← hW]; exact cell_new rfl
  have g1_1 : W1.frozen? ⟨w.heap.size, 1, none⟩ = false := by rw [← hW]; exact frozen_new
  have f1_2 : W1.cell? ⟨w.heap.size, 2, none⟩ = some (i6 r) := by rw [← hW]; exact cell_new rfl
  have g1_2 : W1.frozen? ⟨w.heap.size, 2, none⟩ = false := by rw [← hW]; exact frozen_new
  have f1_3 : W1.cell? ⟨w.heap.size, 3, none⟩ = some (i6 h) := by rw [← hW]; exact cell_new rfl
  have g1_3 : W1.frozen? ⟨w.heap.size, 3, none⟩ = false := by rw [← hW]; exact frozen_new
  have hq1 : Below w.heap.size w W1 := by rw [← hW]; (repeat' (first | with_reducible exact Below.refl _ _ | with_reducible assumption | with_reducible refine q_alloc ?_ _ | with_reducible refine q_drew ?_ | with_reducible refine q_drewN _ ?_ | with_reducible refine q_setCell ?_ ?_ _ | (left; simp; done) | (right; simp; done) | (right; dsimp only; omega) | (left; dsimp only; omega)))
  clear hW
  refine (right_norm x y r h a b c d _ (HS.out.below hq1) HN.out).mono ?_
  rintro e w2 ⟨rfl, hb⟩
  have hq2 : Below w.heap.size w w2 := q_step hq1 hb
  have f2_0 := cell_below hb f1_0
  have f2_1 := cell_below hb f1_1
  have f2_2 := cell_below hb f1_2
  have f2_3 := cell_below hb f1_3
  have g2_0 := frozen_below hb f1_0 g1_0
  have g2_1 := frozen_below hb f1_1 g1_1
  have g2_2 := frozen_below hb f1_2 g1_2
  have g2_3 := frozen_below hb f1_3 g1_3
  clear hb f1_0 f1_1 f1_2 f1_3 g1_0 g1_1 g1_2 g1_3 hq1
  have z2_1 := block_lt_of_cell f2_0
  go_upto_region 2 with fail
  generalize hW : ((((w2).setCell ⟨w.heap.size, 0, none⟩ (Value.int IntKind.i64 a)).setCell ⟨w.heap.size, 1, none⟩ (Value.int IntKind.i64 b)).setCell ⟨w.heap.size, 2, none⟩ (Value.int IntKind.i64 c)).setCell ⟨w.heap.size, 3, none⟩ (Value.int IntKind.i64 d) = W3
  have hS : set4 w2 (w.heap.size) (Value.int IntKind.i64 a) (Value.int IntKind.i64 b) (Value.int IntKind.i64 c) (Value.int IntKind.i64 d) = W3 := hW
  clear hW
  have f3_0 : W3.cell? ⟨w.heap.size, 0, none⟩ = some (i6 a) := by rw [← hS]; exact set4_0 f2_0
  have f3_1 : W3.cell? ⟨w.heap.size, 1, none⟩ = some (i6 b) := by rw [← hS]; exact set4_1 f2_1
  have f3_2 : W3.cell? ⟨w.heap.size, 2, none⟩ = some (i6 c) := by rw [← hS]; exact set4_2 f2_2
  have f3_3 : W3.cell? ⟨w.heap.size, 3, none⟩ = some (i6 d) := by rw [← hS]; exact set4_3 f2_3
  have g3_0 : W3.frozen? ⟨w.heap.size, 0, none⟩ = false := by rw [← hS]; exact set4_f g2_0
  have g3_1 : W3.frozen? ⟨w.heap.size, 1, none⟩ = false := by rw [← hS]; exact set4_f g2_1
  have g3_2 : W3.frozen? ⟨w.heap.size, 2, none⟩ = false := by rw [← hS]; exact set4_f g2_2
  have g3_3 : W3.frozen? ⟨w.heap.size, 3, none⟩ = false := by rw [← hS]; exact set4_f g2_3
  have hq3 : Below w.heap.size w W3 := by rw [← hS]; exact set4_q hq2 (Nat.le_refl _)
  clear hS f2_0 f2_1 f2_2 f2_3 g2_0 g2_1 g2_2 g2_3 hq2 z2_1
  have z3_1 := block_lt_of_cell f3_0
  clear HS HN
  go_wp2
  go_returns
  exact ⟨ret_bool (by first | rfl | (simp; done) | (simp; omega)), by (repeat' (first | with_reducible exact Below.refl _ _ | with_reducible assumption | with_reducible refine q_alloc ?_ _ | with_reducible refine q_drew ?_ | with_reducible refine q_drewN _ ?_ | with_reducible refine q_setCell ?_ ?_ _ | (left; simp; done) | (right; simp; done) | (right; dsimp only; omega) | (left; dsimp only; omega)))⟩

theorem has2 (x y r h a b c d u v : Int) (w : World) (hs : RowAt 0 noneCells w) (n : Norm x y r h a b c d) (c0 : a ≤ u) (c1 : u < a + c) (c2 : ¬ b ≤ v) :
    Calls Tryd.prog 14 #[rectV x y r h, i6 u, i6 v] w fun e w' => e = .returned (.bool false) ∧ Below w.heap.size w w' := by
  have HS := Lib.hid hs
  have HN := Lib.hid n
  have bn := n.bounds
  clear hs n
  go_enter Tryd.func14, Tryd.ntmps14
  go_wp2_with fail
  generalize hW : w.alloc (Obj.cells #[Value.int IntKind.i64 x, Value.int IntKind.i64 y, Value.int IntKind.i64 r, Value.int IntKind.i64 h] 23) = W1
  have f1_0 : W1.cell? ⟨w.heap.size, 0, none⟩ = some (i6 x) := by rw [← hW]; exact cell_new rfl
  have g1_0 : W1.frozen? ⟨w.heap.size, 0, none⟩ = false := by rw [← hW]; exact frozen_new
  have f1_1 : W1.cell? ⟨w.heap.size, 1, none⟩ = some (i6 y) := by rw [← hW]; exact cell_new rfl
  have g1_1 : W1.frozen? ⟨w.heap.size, 1, none⟩ = false := by rw [← hW]; exact frozen_new
  have f1_2 : W1.cell? ⟨w.heap.size, 2, none⟩ = some (i6 r) := by rw [← hW]; exact cell_new rfl
  have g1_2 : W1.frozen? ⟨w.heap.size, 2, none⟩ = false := by rw [← hW]; exact frozen_new
  have f1_3 : W1.cell? ⟨w.heap.size, 3, none⟩ = some (i6 h) := by rw [← hW]; exact cell_new rfl
  have g1_3 : W1.frozen? ⟨w.heap.size, 3, none⟩ = false := by rw [← hW]; exact frozen_new
  have hq1 : Below w.heap.size w W1 := by rw [← hW]; (repeat' (first | with_reducible exact Below.refl _ _ | with_reducible assumption | with_reducible refine q_alloc ?_ _ | with_reducible refine q_drew ?_ | with_reducible refine q_drewN _ ?_ | with_reducible refine q_setCell ?_ ?_ _ | (left; simp; done) | (right; simp; done) | (right; dsimp only; omega) | (left; dsimp only; omega)))
  clear hW
  refine (right_norm x y r h a b c d _ (HS.out.below hq1) HN.out).mono ?_
  rintro e w2 ⟨rfl, hb⟩
  have hq2 : Below w.heap.size w w2 := q_step hq1 hb
  have f2_0 := cell_below hb f1_0
  have f2_1 := cell_below hb f1_1
  have f2_2 := cell_below hb f1_2
  have f2_3 := cell_below hb f1_3
  have g2_0 := frozen_below hb f1_0 g1_0
  have g2_1 := frozen_below hb f1_1 g1_1
  have g2_2 := frozen_below hb f1_2 g1_2
  have g2_3 := frozen_below hb f1_3 g1_3
  clear hb f1_0 f1_1 f1_2 f1_3 g1_0 g1_1 g1_2 g1_3 hq1
  have z2_1 := block_lt_of_cell f2_0
  go_upto_region 2 with fail
  generalize hW : ((((w2).setCell ⟨w.heap.size, 0, none⟩ (Value.int IntKind.i64 a)).setCell ⟨w.heap.size, 1, none⟩ (Value.int IntKind.i64 b)).setCell ⟨w.heap.size, 2, none⟩ (Value.int IntKind.i64 c)).setCell ⟨w.heap.size, 3, none⟩ (Value.int IntKind.i64 d) = W3
  have hS : set4 w2 (w.heap.size) (Value.int IntKind.i64 a) (Value.int IntKind.i64 b) (Value.int IntKind.i64 c) (Value.int IntKind.i64 d) = W3 := hW
  clear hW
  have f3_0 : W3.cell? ⟨w.heap.size, 0, none⟩ = some (i6 a) := by rw [← hS]; exact set4_0 f2_0
  have f3_1 : W3.cell? ⟨w.heap.size, 1, none⟩ = some (i6 b) := by rw [← hS]; exact set4_1 f2_1
  have f3_2 : W3.cell? ⟨w.heap.size, 2, none⟩ = some (i6 c) := by rw [← hS]; exact set4_2 f2_2
  have f3_3 : W3.cell? ⟨w.heap.size, 3, none⟩ = some (i6 d) := by rw [← hS]; exact set4_3 f2_3
  have g3_0 : W3.frozen? ⟨w.heap.size, 0, none⟩ = false := by rw [← hS]; exact set4_f g2_0
  have g3_1 : W3.frozen? ⟨w.heap.size, 1, none⟩ = false := by rw [← hS]; exact set4_f g2_1
  have g3_2 : W3.frozen? ⟨w.heap.size, 2, none⟩ = false := by rw [← hS]; exact set4_f g2_2
  have g3_3 : W3.frozen? ⟨w.heap.size, 3, none⟩ = false := by rw [← hS]; exact set4_f g2_3
  have hq3 : Below w.heap.size w W3 := by rw [← hS]; exact set4_q hq2 (Nat.le_refl _)
  clear hS f2_0 f2_1 f2_2 f2_3 g2_0 g2_1 g2_2 g2_3 hq2 z2_1
  have z3_1 := block_lt_of_cell f3_0
  clear HS HN
  go_wp2
  go_returns
  exact ⟨ret_bool (by first | rfl | (simp; done) | (simp; omega)), by (repeat' (first | with_reducible exact Below.refl _ _ | with_reducible assumption | with_reducible refine q_alloc ?_ _ | with_reducible refine q_drew ?_ | with_reducible refine q_drewN _ ?_ | with_reducible refine q_setCell ?_ ?_ _ | (left; simp; done) | (right; simp; done) | (right; dsimp only; omega) | (left; dsimp only; omega)))⟩

theorem has3 (x y r h a b c d u v : Int) (w : World) (hs : RowAt 0 noneCells w) (n : Norm x y r h a b c d) (c0 : a ≤ u) (c1 : u < a + c) (c2 : b ≤ v) (c3 : ¬ v < b + d) :
    Calls Tryd.prog 14 #[rectV x y r h, i6 u, i6 v] w fun e w' => e = .returned (.bool false) ∧ Below w.heap.size w w' := by
  have HS := Lib.hid hs
  have HN := Lib.hid n
  have bn := n.bounds
  clear hs n
  go_enter Tryd.func14, Tryd.ntmps14
  go_wp2_with fail
  generalize hW : w.alloc (Obj.cells #[Value.int IntKind.i64 x, Value.int IntKind.i64 y, Value.int IntKind.i64 r, Value.int IntKind.i64 h] 23) = W1
  have f1_0 : W1.cell? ⟨w.heap.size, 0, none⟩ = some (i6 x) := by rw [← hW]; exact cell_new rfl
  have g1_0 : W1.frozen? ⟨w.heap.size, 0, none⟩ = false := by rw [← hW]; exact frozen_new
  have f1_1 : W1.cell? ⟨w.heap.size, 1, none⟩ = some (i6 y) := by rw [← hW]; exact cell_new rfl
  have g1_1 : W1.frozen? ⟨w.heap.size, 1, none⟩ = false := by rw [← hW]; exact frozen_new
  have f1_2 : W1.cell? ⟨w.heap.size, 2, none⟩ = some (i6 r) := by rw [← hW]; exact cell_new rfl
  have g1_2 : W1.frozen? ⟨w.heap.size, 2, none⟩ = false := by rw [← hW]; exact frozen_new
  have f1_3 : W1.cell? ⟨w.heap.size, 3, none⟩ = some (i6 h) := by rw [← hW]; exact cell_new rfl
  have g1_3 : W1.frozen? ⟨w.heap.size, 3, none⟩ = false := by rw [← hW]; exact frozen_new
  have hq1 : Below w.heap.size w W1 := by rw [← hW]; (repeat' (first | with_reducible exact Below.refl _ _ | with_reducible assumption | with_reducible refine q_alloc ?_ _ | with_reducible refine q_drew ?_ | with_reducible refine q_drewN _ ?_ | with_reducible refine q_setCell ?_ ?_ _ | (left; simp; done) | (right; simp; done) | (right; dsimp only; omega) | (left; dsimp only; omega)))
  clear hW
  refine (right_norm x y r h a b c d _ (HS.out.below hq1) HN.out).mono ?_
  rintro e w2 ⟨rfl, hb⟩
  have hq2 : Below w.heap.size w w2 := q_step hq1 hb
  have f2_0 := cell_below hb f1_0
  have f2_1 := cell_below hb f1_1
  have f2_2 := cell_below hb f1_2
  have f2_3 := cell_below hb f1_3
  have g2_0 := frozen_below hb f1_0 g1_0
  have g2_1 := frozen_below hb f1_1 g1_1
  have g2_2 := frozen_below hb f1_2 g1_2
  have g2_3 := frozen_below hb f1_3 g1_3
  clear hb f1_0 f1_1 f1_2 f1_3 g1_0 g1_1 g1_2 g1_3 hq1
  have z2_1 := block_lt_of_cell f2_0
  go_upto_region 2 with fail
  generalize hW : ((((w2).setCell ⟨w.heap.size, 0, none⟩ (Value.int IntKind.i64 a)).setCell ⟨w.heap.size, 1, none⟩ (Value.int IntKind.i64 b)).setCell ⟨w.heap.size, 2, none⟩ (Value.int IntKind.i64 c)).setCell ⟨w.heap.size, 3, none⟩ (Value.int IntKind.i64 d) = W3
  have hS : set4 w2 (w.heap.size) (Value.int IntKind.i64 a) (Value.int IntKind.i64 b) (Value.int IntKind.i64 c) (Value.int IntKind.i64 d) = W3 := hW
  clear hW
  have f3_0 : W3.cell? ⟨w.heap.size, 0, none⟩ = some (i6 a) := by rw [← hS]; exact set4_0 f2_0
  have f3_1 : W3.cell? ⟨w.heap.size, 1, none⟩ = some (i6 b) := by rw [← hS]; exact set4_1 f2_1
  have f3_2 : W3.cell? ⟨w.heap.size, 2, none⟩ = some (i6 c) := by rw [← hS]; exact set4_2 f2_2
  have f3_3 : W3.cell? ⟨w.heap.size, 3, none⟩ = some (i6 d) := by rw [← hS]; exact set4_3 f2_3
  have g3_0 : W3.frozen? ⟨w.heap.size, 0, none⟩ = false := by rw [← hS]; exact set4_f g2_0
  have g3_1 : W3.frozen? ⟨w.heap.size, 1, none⟩ = false := by rw [← hS]; exact set4_f g2_1
  have g3_2 : W3.frozen? ⟨w.heap.size, 2, none⟩ = false := by rw [← hS]; exact set4_f g2_2
  have g3_3 : W3.frozen? ⟨w.heap.size, 3, none⟩ = false := by rw [← hS]; exact set4_f g2_3
  have hq3 : Below w.heap.size w W3 := by rw [← hS]; exact set4_q hq2 (Nat.le_refl _)
  clear hS f2_0 f2_1 f2_2 f2_3 g2_0 g2_1 g2_2 g2_3 hq2 z2_1
  have z3_1 := block_lt_of_cell f3_0
  clear HS HN
  go_wp2
  go_returns
  exact ⟨ret_bool (by first | rfl | (simp; done) | (simp; omega)), by (repeat' (first | with_reducible exact Below.refl _ _ | with_reducible assumption | with_reducible refine q_alloc ?_ _ | with_reducible refine q_drew ?_ | with_reducible refine q_drewN _ ?_ | with_reducible refine q_setCell ?_ ?_ _ | (left; simp; done) | (right; simp; done) | (right; dsimp only; omega) | (left; dsimp only; omega)))⟩

theorem has4 (x y r h a b c d u v : Int) (w : World) (hs : RowAt 0 noneCells w) (n : Norm x y r h a b c d) (c0 : a ≤ u) (c1 : u < a + c) (c2 : b ≤ v) (c3 : v < b + d) :
    Calls Tryd.prog 14 #[rectV x y r h, i6 u, i6 v] w fun e w' => e = .returned (.bool true) ∧ Below w.heap.size w w' := by
  have HS := Lib.hid hs
  have HN := Lib.hid n
  have bn := n.bounds
  clear hs n
  go_enter Tryd.func14, Tryd.ntmps14
  go_wp2_with fail
  generalize hW : w.alloc (Obj.cells #[Value.int IntKind.i64 x, Value.int IntKind.i64 y, Value.int IntKind.i64 r, Value.int IntKind.i64 h] 23) = W1
  have f1_0 : W1.cell? ⟨w.heap.size, 0, none⟩ = some (i6 x) := by rw [← hW]; exact cell_new rfl
  have g1_0 : W1.frozen? ⟨w.heap.size, 0, none⟩ = false := by rw [← hW]; exact frozen_new
  have f1_1 : W1.cell? ⟨w.heap.size, 1, none⟩ = some (i6 y) := by rw [← hW]; exact cell_new rfl
  have g1_1 : W1.frozen? ⟨w.heap.size, 1, none⟩ = false := by rw [← hW]; exact frozen_new
  have f1_2 : W1.cell? ⟨w.heap.size, 2, none⟩ = some (i6 r) := by rw [← hW]; exact cell_new rfl
  have g1_2 : W1.frozen? ⟨w.heap.size, 2, none⟩ = false := by rw [← hW]; exact frozen_new
  have f1_3 : W1.cell? ⟨w.heap.size, 3, none⟩ = some (i6 h) := by rw [← hW]; exact cell_new rfl
  have g1_3 : W1.frozen? ⟨w.heap.size, 3, none⟩ = false := by rw [← hW]; exact frozen_new
  have hq1 : Below w.heap.size w W1 := by rw [← hW]; (repeat' (first | with_reducible exact Below.refl _ _ | with_reducible assumption | with_reducible refine q_alloc ?_ _ | with_reducible refine q_drew ?_ | with_reducible refine q_drewN _ ?_ | with_reducible refine q_setCell ?_ ?_ _ | (left; simp; done) | (right; simp; done) | (right; dsimp only; omega) | (left; dsimp only; omega)))
  clear hW
  refine (right_norm x y r h a b c d _ (HS.out.below hq1) HN.out).mono ?_
  rintro e w2 ⟨rfl, hb⟩
  have hq2 : Below w.heap.size w w2 := q_step hq1 hb
  have f2_0 := cell_below hb f1_0
  have f2_1 := cell_below hb f1_1
  have f2_2 := cell_below hb f1_2
  have f2_3 := cell_below hb f1_3
  have g2_0 := frozen_below hb f1_0 g1_0
  have g2_1 := frozen_below hb f1_1 g1_1
  have g2_2 := frozen_below hb f1_2 g1_2
  have g2_3 := frozen_below hb f1_3 g1_3
  clear hb f1_0 f1_1 f1_2 f1_3 g1_0 g1_1 g1_2 g1_3 hq1
  have z2_1 := block_lt_of_cell f2_0
  go_upto_region 2 with fail
  generalize hW : ((((w2).setCell ⟨w.heap.size, 0, none⟩ (Value.int IntKind.i64 a)).setCell ⟨w.heap.size, 1, none⟩ (Value.int IntKind.i64 b)).setCell ⟨w.heap.size, 2, none⟩ (Value.int IntKind.i64 c)).setCell ⟨w.heap.size, 3, none⟩ (Value.int IntKind.i64 d) = W3
  have hS : set4 w2 (w.heap.size) (Value.int IntKind.i64 a) (Value.int IntKind.i64 b) (Value.int IntKind.i64 c) (Value.int IntKind.i64 d) = W3 := hW
  clear hW
  have f3_0 : W3.cell? ⟨w.heap.size, 0, none⟩ = some (i6 a) := by rw [← hS]; exact set4_0 f2_0
  have f3_1 : W3.cell? ⟨w.heap.size, 1, none⟩ = some (i6 b) := by rw [← hS]; exact set4_1 f2_1
  have f3_2 : W3.cell? ⟨w.heap.size, 2, none⟩ = some (i6 c) := by rw [← hS]; exact set4_2 f2_2
  have f3_3 : W3.cell? ⟨w.heap.size, 3, none⟩ = some (i6 d) := by rw [← hS]; exact set4_3 f2_3
  have g3_0 : W3.frozen? ⟨w.heap.size, 0, none⟩ = false := by rw [← hS]; exact set4_f g2_0
  have g3_1 : W3.frozen? ⟨w.heap.size, 1, none⟩ = false := by rw [← hS]; exact set4_f g2_1
  have g3_2 : W3.frozen? ⟨w.heap.size, 2, none⟩ = false := by rw [← hS]; exact set4_f g2_2
  have g3_3 : W3.frozen? ⟨w.heap.size, 3, none⟩ = false := by rw [← hS]; exact set4_f g2_3
  have hq3 : Below w.heap.size w W3 := by rw [← hS]; exact set4_q hq2 (Nat.le_refl _)
  clear hS f2_0 f2_1 f2_2 f2_3 g2_0 g2_1 g2_2 g2_3 hq2 z2_1
  have z3_1 := block_lt_of_cell f3_0
  clear HS HN
  go_wp2
  go_returns
  exact ⟨ret_bool (by first | rfl | (simp; done) | (simp; omega)), by (repeat' (first | with_reducible exact Below.refl _ _ | with_reducible assumption | with_reducible refine q_alloc ?_ _ | with_reducible refine q_drew ?_ | with_reducible refine q_drewN _ ?_ | with_reducible refine q_setCell ?_ ?_ _ | (left; simp; done) | (right; simp; done) | (right; dsimp only; omega) | (left; dsimp only; omega)))⟩

theorem has_any (x y r h a b c d u v : Int) (w : World) (hs : RowAt 0 noneCells w) (n : Norm x y r h a b c d) :
    Calls Tryd.prog 14 #[rectV x y r h, i6 u, i6 v] w fun e w' => e = .returned (.bool (inB a b c d u v)) ∧ Below w.heap.size w w' := by
  unfold inB
  by_cases c0 : a ≤ u
  · skip
    by_cases c1 : u < a + c
    · skip
      by_cases c2 : b ≤ v
      · skip
        by_cases c3 : v < b + d
        · skip
          rw [decide_eq_true (by omega)]
          exact has4 x y r h a b c d u v w hs n c0 c1 c2 c3
        · rw [decide_eq_false (by omega)]
          exact has3 x y r h a b c d u v w hs n c0 c1 c2 c3
      · rw [decide_eq_false (by omega)]
        exact has2 x y r h a b c d u v w hs n c0 c1 c2
    · rw [decide_eq_false (by omega)]
      exact has1 x y r h a b c d u v w hs n c0 c1
  · rw [decide_eq_false (by omega)]
    exact has0 x y r h a b c d u v w hs n  c0

theorem area_any (x y r h a b c d : Int) (w : World) (hs : RowAt 0 noneCells w) (n : Norm x y r h a b c d) :
    Calls Tryd.prog 18 #[rectV x y r h] w fun e w' => e = .returned (i6 (c * d)) ∧ Below w.heap.size w w' := by
  have hm : 0 ≤ c * d ∧ c * d ≤ 2097152 * 2097152 := by
    have bn := n.bounds
    exact ⟨Int.mul_nonneg bn.1 (by omega), Int.mul_le_mul bn.2.1 (by omega) (by omega) (by omega)⟩
  have hwr : IntKind.i64.wrap (c * d) = c * d := IntWalk.i64_in _ (by omega)
  have HS := Lib.hid hs
  have HN := Lib.hid n
  have bn := n.bounds
  clear hs n
  go_enter Tryd.func18, Tryd.ntmps18
  go_wp2_with fail
  generalize hW : w.alloc (Obj.cells #[Value.int IntKind.i64 x, Value.int IntKind.i64 y, Value.int IntKind.i64 r, Value.int IntKind.i64 h] 23) = W1
  have f1_0 : W1.cell? ⟨w.heap.size, 0, none⟩ = some (i6 x) := by rw [← hW]; exact cell_new rfl
  have g1_0 : W1.frozen? ⟨w.heap.size, 0, none⟩ = false := by rw [← hW]; exact frozen_new
  have f1_1 : W1.cell? ⟨w.heap.size, 1, none⟩ = some (i6 y) := by rw [← hW]; exact cell_new rfl
  have g1_1 : W1.frozen? ⟨w.heap.size, 1, none⟩ = false := by rw [← hW]; exact frozen_new
  have f1_2 : W1.cell? ⟨w.heap.size, 2, none⟩ = some (i6 r) := by rw [← hW]; exact cell_new rfl
  have g1_2 : W1.frozen? ⟨w.heap.size, 2, none⟩ = false := by rw [← hW]; exact frozen_new
  have f1_3 : W1.cell? ⟨w.heap.size, 3, none⟩ = some (i6 h) := by rw [← hW]; exact cell_new rfl
  have g1_3 : W1.frozen? ⟨w.heap.size, 3, none⟩ = false := by rw [← hW]; exact frozen_new
  have hq1 : Below w.heap.size w W1 := by rw [← hW]; (repeat' (first | with_reducible exact Below.refl _ _ | with_reducible assumption | with_reducible refine q_alloc ?_ _ | with_reducible refine q_drew ?_ | with_reducible refine q_drewN _ ?_ | with_reducible refine q_setCell ?_ ?_ _ | (left; simp; done) | (right; simp; done) | (right; dsimp only; omega) | (left; dsimp only; omega)))
  clear hW
  refine (right_norm x y r h a b c d _ (HS.out.below hq1) HN.out).mono ?_
  rintro e w2 ⟨rfl, hb⟩
  have hq2 : Below w.heap.size w w2 := q_step hq1 hb
  have f2_0 := cell_below hb f1_0
  have f2_1 := cell_below hb f1_1
  have f2_2 := cell_below hb f1_2
  have f2_3 := cell_below hb f1_3
  have g2_0 := frozen_below hb f1_0 g1_0
  have g2_1 := frozen_below hb f1_1 g1_1
  have g2_2 := frozen_below hb f1_2 g1_2
  have g2_3 := frozen_below hb f1_3 g1_3
  clear hb f1_0 f1_1 f1_2 f1_3 g1_0 g1_1 g1_2 g1_3 hq1
  have z2_1 := block_lt_of_cell f2_0
  go_upto_region 2 with fail
  generalize hW : ((((w2).setCell ⟨w.heap.size, 0, none⟩ (Value.int IntKind.i64 a)).setCell ⟨w.heap.size, 1, none⟩ (Value.int IntKind.i64 b)).setCell ⟨w.heap.size, 2, none⟩ (Value.int IntKind.i64 c)).setCell ⟨w.heap.size, 3, none⟩ (Value.int IntKind.i64 d) = W3
  have hS : set4 w2 (w.heap.size) (Value.int IntKind.i64 a) (Value.int IntKind.i64 b) (Value.int IntKind.i64 c) (Value.int IntKind.i64 d) = W3 := hW
  clear hW
  have f3_0 : W3.cell? ⟨w.heap.size, 0, none⟩ = some (i6 a) := by rw [← hS]; exact set4_0 f2_0
  have f3_1 : W3.cell? ⟨w.heap.size, 1, none⟩ = some (i6 b) := by rw [← hS]; exact set4_1 f2_1
  have f3_2 : W3.cell? ⟨w.heap.size, 2, none⟩ = some (i6 c) := by rw [← hS]; exact set4_2 f2_2
  have f3_3 : W3.cell? ⟨w.heap.size, 3, none⟩ = some (i6 d) := by rw [← hS]; exact set4_3 f2_3
  have g3_0 : W3.frozen? ⟨w.heap.size, 0, none⟩ = false := by rw [← hS]; exact set4_f g2_0
  have g3_1 : W3.frozen? ⟨w.heap.size, 1, none⟩ = false := by rw [← hS]; exact set4_f g2_1
  have g3_2 : W3.frozen? ⟨w.heap.size, 2, none⟩ = false := by rw [← hS]; exact set4_f g2_2
  have g3_3 : W3.frozen? ⟨w.heap.size, 3, none⟩ = false := by rw [← hS]; exact set4_f g2_3
  have hq3 : Below w.heap.size w W3 := by rw [← hS]; exact set4_q hq2 (Nat.le_refl _)
  clear hS f2_0 f2_1 f2_2 f2_3 g2_0 g2_1 g2_2 g2_3 hq2 z2_1
  have z3_1 := block_lt_of_cell f3_0
  go_wp2
  go_returns
  exact ⟨ret_int (by first | rfl | (simp; done) | (simp [hwr]; done)), by (repeat' (first | with_reducible exact Below.refl _ _ | with_reducible assumption | with_reducible refine q_alloc ?_ _ | with_reducible refine q_drew ?_ | with_reducible refine q_drewN _ ?_ | with_reducible refine q_setCell ?_ ?_ _ | (left; simp; done) | (right; simp; done) | (right; dsimp only; omega) | (left; dsimp only; omega)))⟩

end Go.Proofs.YtlofhbeifgaoeaaDoor
