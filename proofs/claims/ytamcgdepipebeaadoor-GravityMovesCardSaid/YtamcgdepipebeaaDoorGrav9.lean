import Derived.Test.YtamcgdepipebeaaDoorGrav7
import Derived.Test.YtamcgdepipebeaaDoorGrav2
import Derived.Deep.Cut
import Derived.Deep.DeepCutAuto
namespace Go.Proofs.YtamcgdepipebeaaDoor
open Go Go.RowKit

theorem lright_good (x y r h : Int) (w : World) (g : Good x y r h) :
    Calls Tryd.prog 14 #[rectV x y r h] w fun e w' => e = .returned (.bool true) ∧ Below w.heap.size w w' := by
  have hb := g.bounds
  have HR := Lib.hid (rightC_good g)
  clear g
  go_enter Tryd.func14, Tryd.ntmps14
  go_wp2_with fail
  refine (rright_any x y r h _).mono ?_
  rintro e w1 ⟨rfl, hb1⟩
  rw [HR.out]
  have hq := q_step (a := w) (by (repeat' (first | with_reducible exact Below.refl _ _ | with_reducible assumption | with_reducible refine q_alloc ?_ _ | with_reducible refine q_drew ?_ | with_reducible refine q_drewN _ ?_ | with_reducible refine q_setCell ?_ ?_ _ | (left; simp; done) | (right; simp; done) | (right; dsimp only; omega) | (left; dsimp only; omega)))) hb1
  have c0 : w1.cell? ⟨w.heap.size, 2, none⟩ = some (i6 r) := (hb1.cell (by simp; try omega)).trans (by go_cell)
  clear hb1
  go_wp2
  go_returns
  exact ⟨ret_bool (by first | rfl | (simp; done) | (simp; omega)), by (repeat' (first | with_reducible exact Below.refl _ _ | with_reducible assumption | with_reducible refine q_alloc ?_ _ | with_reducible refine q_drew ?_ | with_reducible refine q_drewN _ ?_ | with_reducible refine q_setCell ?_ ?_ _ | (left; simp; done) | (right; simp; done) | (right; dsimp only; omega) | (left; dsimp only; omega)))⟩

theorem lright_bad (x y r h : Int) (w : World) (g : ¬ Good x y r h) :
    Calls Tryd.prog 14 #[rectV x y r h] w fun e w' => e = .returned (.bool false) ∧ Below w.heap.size w w' := by
  have HR := Lib.hid (rightC_bad g)
  clear g
  rcases hz : rightC x y r h with _ | _
  · have HZ := Lib.hid hz
    clear hz
    go_enter Tryd.func14, Tryd.ntmps14
    go_wp2_with fail
    refine (rright_any x y r h _).mono ?_
    rintro e w1 ⟨rfl, hb1⟩
    rw [HZ.out]
    have hq := q_step (a := w) (by (repeat' (first | with_reducible exact Below.refl _ _ | with_reducible assumption | with_reducible refine q_alloc ?_ _ | with_reducible refine q_drew ?_ | with_reducible refine q_drewN _ ?_ | with_reducible refine q_setCell ?_ ?_ _ | (left; simp; done) | (right; simp; done) | (right; dsimp only; omega) | (left; dsimp only; omega)))) hb1
    clear hb1
    go_wp2
    go_returns
    exact ⟨ret_bool (by first | rfl | (simp; done) | (simp; omega)), by (repeat' (first | with_reducible exact Below.refl _ _ | with_reducible assumption | with_reducible refine q_alloc ?_ _ | with_reducible refine q_drew ?_ | with_reducible refine q_drewN _ ?_ | with_reducible refine q_setCell ?_ ?_ _ | (left; simp; done) | (right; simp; done) | (right; dsimp only; omega) | (left; dsimp only; omega)))⟩
  · have HZ := Lib.hid hz
    obtain rfl := HR.out hz
    clear hz HR
    go_enter Tryd.func14, Tryd.ntmps14
    go_wp2_with fail
    refine (rright_any x y 0 h _).mono ?_
    rintro e w1 ⟨rfl, hb1⟩
    rw [HZ.out]
    have hq := q_step (a := w) (by (repeat' (first | with_reducible exact Below.refl _ _ | with_reducible assumption | with_reducible refine q_alloc ?_ _ | with_reducible refine q_drew ?_ | with_reducible refine q_drewN _ ?_ | with_reducible refine q_setCell ?_ ?_ _ | (left; simp; done) | (right; simp; done) | (right; dsimp only; omega) | (left; dsimp only; omega)))) hb1
    have c0 : w1.cell? ⟨w.heap.size, 2, none⟩ = some (i6 0) := (hb1.cell (by simp; try omega)).trans (by go_cell)
    clear hb1
    go_wp2
    go_returns
    exact ⟨ret_bool (by first | rfl | (simp; done) | (simp; omega)), by (repeat' (first | with_reducible exact Below.refl _ _ | with_reducible assumption | with_reducible refine q_alloc ?_ _ | with_reducible refine q_drew ?_ | with_reducible refine q_drewN _ ?_ | with_reducible refine q_setCell ?_ ?_ _ | (left; simp; done) | (right; simp; done) | (right; dsimp only; omega) | (left; dsimp only; omega)))⟩

set_option maxHeartbeats 1000000 in
theorem stays_ok (g x y r h x' y' r' h' px py : Int) (w : World) (hs : RowAt 1 noneCells w) (hn : RowAt 0 gnames w) (s1 : ShiftIs g x y r h x' y' r' h' px py true) (s2 : ShiftIs 10 x y r h x' y' r' h' (x - x') (y - y') true) (ga : Good x y r h) (gb : Good x' y' r' h') (hk : r ≠ r' ∨ (r = r' ∧ h ≠ h') ∨ (r = r' ∧ h = h' ∧ g = 10) ∨ (r = r' ∧ h = h' ∧ g ≠ 10 ∧ px = 0 ∧ py = 0)) :
    Calls Tryd.prog 4 #[i6 g, rectV x y r h, rectV x' y' r' h'] w fun e w' => e = .returned (.bool true) ∧ Below w.heap.size w w' := by
  have HS := Lib.hid hs
  have HN := Lib.hid hn
  clear hs hn
  have H1 := Lib.hid s1
  have H2 := Lib.hid s2
  have HA := Lib.hid ga
  have HB := Lib.hid gb
  have ba := ga.bounds
  have bb := gb.bounds
  clear s1 s2 ga gb
  go_enter Tryd.func4, Tryd.ntmps4
  go_wp2_with fail
  generalize hW : (w.alloc (Obj.cells #[Value.int IntKind.i64 x, Value.int IntKind.i64 y, Value.int IntKind.i64 r, Value.int IntKind.i64 h] 23)).alloc (Obj.cells #[Value.int IntKind.i64 x', Value.int IntKind.i64 y', Value.int IntKind.i64 r', Value.int IntKind.i64 h'] 23) = W1
  have f1_0 : W1.cell? ⟨w.heap.size, 0, none⟩ = some (i6 x) := by rw [← hW]; exact cell_old (cell_new rfl)
  have f1_1 : W1.cell? ⟨w.heap.size, 1, none⟩ = some (i6 y) := by rw [← hW]; exact cell_old (cell_new rfl)
  have f1_2 : W1.cell? ⟨w.heap.size, 2, none⟩ = some (i6 r) := by rw [← hW]; exact cell_old (cell_new rfl)
  have f1_3 : W1.cell? ⟨w.heap.size, 3, none⟩ = some (i6 h) := by rw [← hW]; exact cell_old (cell_new rfl)
  have f1_4 : W1.cell? ⟨w.heap.size + 1, 0, none⟩ = some (i6 x') := by rw [← hW]; exact cell_new1 rfl
  have f1_5 : W1.cell? ⟨w.heap.size + 1, 1, none⟩ = some (i6 y') := by rw [← hW]; exact cell_new1 rfl
  have f1_6 : W1.cell? ⟨w.heap.size + 1, 2, none⟩ = some (i6 r') := by rw [← hW]; exact cell_new1 rfl
  have f1_7 : W1.cell? ⟨w.heap.size + 1, 3, none⟩ = some (i6 h') := by rw [← hW]; exact cell_new1 rfl
  have hq1 : Below w.heap.size w W1 := by rw [← hW]; (repeat' (first | with_reducible exact Below.refl _ _ | with_reducible assumption | with_reducible refine q_alloc ?_ _ | with_reducible refine q_drew ?_ | with_reducible refine q_drewN _ ?_ | with_reducible refine q_setCell ?_ ?_ _ | (left; simp; done) | (right; simp; done) | (right; dsimp only; omega) | (left; dsimp only; omega)))
  clear hW
  refine (gawake_any _ (HS.out.below hq1) (HN.out.below hq1)).mono ?_
  rintro e w2 ⟨rfl, hb⟩
  have hq2 : Below w.heap.size w w2 := q_step hq1 hb
  have f2_0 := cell_below hb f1_0
  have f2_1 := cell_below hb f1_1
  have f2_2 := cell_below hb f1_2
  have f2_3 := cell_below hb f1_3
  have f2_4 := cell_below hb f1_4
  have f2_5 := cell_below hb f1_5
  have f2_6 := cell_below hb f1_6
  have f2_7 := cell_below hb f1_7
  clear hb f1_0 f1_1 f1_2 f1_3 f1_4 f1_5 f1_6 f1_7 hq1
  have z2_1 := block_lt_of_cell f2_0
  have z2_2 := block_lt_of_cell f2_4
  go_wp2_with fail
  refine (H1.out _ (HS.out.below hq2)).mono ?_
  rintro e w3 ⟨rfl, hb⟩
  have hq3 : Below w.heap.size w w3 := q_step hq2 hb
  have f3_0 := cell_below hb f2_0
  have f3_1 := cell_below hb f2_1
  have f3_2 := cell_below hb f2_2
  have f3_3 := cell_below hb f2_3
  have f3_4 := cell_below hb f2_4
  have f3_5 := cell_below hb f2_5
  have f3_6 := cell_below hb f2_6
  have f3_7 := cell_below hb f2_7
  clear hb f2_0 f2_1 f2_2 f2_3 f2_4 f2_5 f2_6 f2_7 hq2 z2_1 z2_2
  have z3_1 := block_lt_of_cell f3_0
  have z3_2 := block_lt_of_cell f3_4
  go_wp2_with fail
  generalize hW : w3.alloc (Obj.cells #[Value.int IntKind.i64 px, Value.int IntKind.i64 py] 26) = W4
  have f4_0 : W4.cell? ⟨w.heap.size, 0, none⟩ = some (i6 x) := by rw [← hW]; exact (cell_old f3_0)
  have f4_1 : W4.cell? ⟨w.heap.size, 1, none⟩ = some (i6 y) := by rw [← hW]; exact (cell_old f3_1)
  have f4_2 : W4.cell? ⟨w.heap.size, 2, none⟩ = some (i6 r) := by rw [← hW]; exact (cell_old f3_2)
  have f4_3 : W4.cell? ⟨w.heap.size, 3, none⟩ = some (i6 h) := by rw [← hW]; exact (cell_old f3_3)
  have f4_4 : W4.cell? ⟨w.heap.size + 1, 0, none⟩ = some (i6 x') := by rw [← hW]; exact (cell_old f3_4)
  have f4_5 : W4.cell? ⟨w.heap.size + 1, 1, none⟩ = some (i6 y') := by rw [← hW]; exact (cell_old f3_5)
  have f4_6 : W4.cell? ⟨w.heap.size + 1, 2, none⟩ = some (i6 r') := by rw [← hW]; exact (cell_old f3_6)
  have f4_7 : W4.cell? ⟨w.heap.size + 1, 3, none⟩ = some (i6 h') := by rw [← hW]; exact (cell_old f3_7)
  have f4_8 : W4.cell? ⟨w3.heap.size, 0, none⟩ = some (i6 px) := by rw [← hW]; exact cell_new rfl
  have f4_9 : W4.cell? ⟨w3.heap.size, 1, none⟩ = some (i6 py) := by rw [← hW]; exact cell_new rfl
  have hq4 : Below w.heap.size w W4 := by rw [← hW]; (repeat' (first | with_reducible exact Below.refl _ _ | with_reducible assumption | with_reducible refine q_alloc ?_ _ | with_reducible refine q_drew ?_ | with_reducible refine q_drewN _ ?_ | with_reducible refine q_setCell ?_ ?_ _ | (left; simp; done) | (right; simp; done) | (right; dsimp only; omega) | (left; dsimp only; omega)))
  clear hW f3_0 f3_1 f3_2 f3_3 f3_4 f3_5 f3_6 f3_7 hq3 z3_1 z3_2
  refine (lright_good _ _ _ _ _ HA.out).mono ?_
  rintro e w5 ⟨rfl, hb⟩
  have hq5 : Below w.heap.size w w5 := q_step hq4 hb
  have f5_0 := cell_below hb f4_0
  have f5_1 := cell_below hb f4_1
  have f5_2 := cell_below hb f4_2
  have f5_3 := cell_below hb f4_3
  have f5_4 := cell_below hb f4_4
  have f5_5 := cell_below hb f4_5
  have f5_6 := cell_below hb f4_6
  have f5_7 := cell_below hb f4_7
  have f5_8 := cell_below hb f4_8
  have f5_9 := cell_below hb f4_9
  clear hb f4_0 f4_1 f4_2 f4_3 f4_4 f4_5 f4_6 f4_7 f4_8 f4_9 hq4
  have z5_1 := block_lt_of_cell f5_0
  have z5_2 := block_lt_of_cell f5_4
  have z5_3 := block_lt_of_cell f5_8
  go_wp2_with fail
  refine (lright_good _ _ _ _ _ HB.out).mono ?_
  rintro e w6 ⟨rfl, hb⟩
  have hq6 : Below w.heap.size w w6 := q_step hq5 hb
  have f6_0 := cell_below hb f5_0
  have f6_1 := cell_below hb f5_1
  have f6_2 := cell_below hb f5_2
  have f6_3 := cell_below hb f5_3
  have f6_4 := cell_below hb f5_4
  have f6_5 := cell_below hb f5_5
  have f6_6 := cell_below hb f5_6
  have f6_7 := cell_below hb f5_7
  have f6_8 := cell_below hb f5_8
  have f6_9 := cell_below hb f5_9
  clear hb f5_0 f5_1 f5_2 f5_3 f5_4 f5_5 f5_6 f5_7 f5_8 f5_9 hq5 z5_1 z5_2 z5_3
  have z6_1 := block_lt_of_cell f6_0
  have z6_2 := block_lt_of_cell f6_4
  have z6_3 := block_lt_of_cell f6_8
  rcases hk with hk | hk | hk | hk
  · skip
    have hb1 : (r == r') = false := by simp; omega
    clear hk
    go_wp2_with fail
    refine (H2.out _ (HS.out.below hq6)).mono ?_
    rintro e w7 ⟨rfl, hb⟩
    have hq7 : Below w.heap.size w w7 := q_step hq6 hb
    have f7_0 := cell_below hb f6_0
    have f7_1 := cell_below hb f6_1
    have f7_2 := cell_below hb f6_2
    have f7_3 := cell_below hb f6_3
    have f7_4 := cell_below hb f6_4
    have f7_5 := cell_below hb f6_5
    have f7_6 := cell_below hb f6_6
    have f7_7 := cell_below hb f6_7
    have f7_8 := cell_below hb f6_8
    have f7_9 := cell_below hb f6_9
    clear hb f6_0 f6_1 f6_2 f6_3 f6_4 f6_5 f6_6 f6_7 f6_8 f6_9 hq6 z6_1 z6_2 z6_3
    have z7_1 := block_lt_of_cell f7_0
    have z7_2 := block_lt_of_cell f7_4
    have z7_3 := block_lt_of_cell f7_8
    go_upto_region 11 with fail
    generalize hW : w7.alloc (Obj.cells #[Value.int IntKind.i64 (x - x'), Value.int IntKind.i64 (y - y')] 26) = W8
    have f8_0 : W8.cell? ⟨w.heap.size, 0, none⟩ = some (i6 x) := by rw [← hW]; exact (cell_old f7_0)
    have f8_1 : W8.cell? ⟨w.heap.size, 1, none⟩ = some (i6 y) := by rw [← hW]; exact (cell_old f7_1)
    have f8_2 : W8.cell? ⟨w.heap.size, 2, none⟩ = some (i6 r) := by rw [← hW]; exact (cell_old f7_2)
    have f8_3 : W8.cell? ⟨w.heap.size, 3, none⟩ = some (i6 h) := by rw [← hW]; exact (cell_old f7_3)
    have f8_4 : W8.cell? ⟨w.heap.size + 1, 0, none⟩ = some (i6 x') := by rw [← hW]; exact (cell_old f7_4)
    have f8_5 : W8.cell? ⟨w.heap.size + 1, 1, none⟩ = some (i6 y') := by rw [← hW]; exact (cell_old f7_5)
    have f8_6 : W8.cell? ⟨w.heap.size + 1, 2, none⟩ = some (i6 r') := by rw [← hW]; exact (cell_old f7_6)
    have f8_7 : W8.cell? ⟨w.heap.size + 1, 3, none⟩ = some (i6 h') := by rw [← hW]; exact (cell_old f7_7)
    have f8_8 : W8.cell? ⟨w3.heap.size, 0, none⟩ = some (i6 px) := by rw [← hW]; exact (cell_old f7_8)
    have f8_9 : W8.cell? ⟨w3.heap.size, 1, none⟩ = some (i6 py) := by rw [← hW]; exact (cell_old f7_9)
    have f8_10 : W8.cell? ⟨w7.heap.size, 0, none⟩ = some (i6 (x - x')) := by rw [← hW]; exact cell_new rfl
    have f8_11 : W8.cell? ⟨w7.heap.size, 1, none⟩ = some (i6 (y - y')) := by rw [← hW]; exact cell_new rfl
    have hq8 : Below w.heap.size w W8 := by rw [← hW]; (repeat' (first | with_reducible exact Below.refl _ _ | with_reducible assumption | with_reducible refine q_alloc ?_ _ | with_reducible refine q_drew ?_ | with_reducible refine q_drewN _ ?_ | with_reducible refine q_setCell ?_ ?_ _ | (left; simp; done) | (right; simp; done) | (right; dsimp only; omega) | (left; dsimp only; omega)))
    clear hW f7_0 f7_1 f7_2 f7_3 f7_4 f7_5 f7_6 f7_7 f7_8 f7_9 hq7 z7_1 z7_2 z7_3
    have wr1 : x' + (x - x') = x := by omega
    have wr2 : y' + (y - y') = y := by omega
    go_wp2
    go_returns
    exact ⟨rfl, hq8⟩
  · skip
    have hb1 : (r == r') = true := by simp; omega
    have hb2 : (h == h') = false := by simp; omega
    clear hk
    go_wp2_with fail
    refine (H2.out _ (HS.out.below hq6)).mono ?_
    rintro e w7 ⟨rfl, hb⟩
    have hq7 : Below w.heap.size w w7 := q_step hq6 hb
    have f7_0 := cell_below hb f6_0
    have f7_1 := cell_below hb f6_1
    have f7_2 := cell_below hb f6_2
    have f7_3 := cell_below hb f6_3
    have f7_4 := cell_below hb f6_4
    have f7_5 := cell_below hb f6_5
    have f7_6 := cell_below hb f6_6
    have f7_7 := cell_below hb f6_7
    have f7_8 := cell_below hb f6_8
    have f7_9 := cell_below hb f6_9
    clear hb f6_0 f6_1 f6_2 f6_3 f6_4 f6_5 f6_6 f6_7 f6_8 f6_9 hq6 z6_1 z6_2 z6_3
    have z7_1 := block_lt_of_cell f7_0
    have z7_2 := block_lt_of_cell f7_4
    have z7_3 := block_lt_of_cell f7_8
    go_upto_region 11 with fail
    generalize hW : w7.alloc (Obj.cells #[Value.int IntKind.i64 (x - x'), Value.int IntKind.i64 (y - y')] 26) = W8
    have f8_0 : W8.cell? ⟨w.heap.size, 0, none⟩ = some (i6 x) := by rw [← hW]; exact (cell_old f7_0)
    have f8_1 : W8.cell? ⟨w.heap.size, 1, none⟩ = some (i6 y) := by rw [← hW]; exact (cell_old f7_1)
    have f8_2 : W8.cell? ⟨w.heap.size, 2, none⟩ = some (i6 r) := by rw [← hW]; exact (cell_old f7_2)
    have f8_3 : W8.cell? ⟨w.heap.size, 3, none⟩ = some (i6 h) := by rw [← hW]; exact (cell_old f7_3)
    have f8_4 : W8.cell? ⟨w.heap.size + 1, 0, none⟩ = some (i6 x') := by rw [← hW]; exact (cell_old f7_4)
    have f8_5 : W8.cell? ⟨w.heap.size + 1, 1, none⟩ = some (i6 y') := by rw [← hW]; exact (cell_old f7_5)
    have f8_6 : W8.cell? ⟨w.heap.size + 1, 2, none⟩ = some (i6 r') := by rw [← hW]; exact (cell_old f7_6)
    have f8_7 : W8.cell? ⟨w.heap.size + 1, 3, none⟩ = some (i6 h') := by rw [← hW]; exact (cell_old f7_7)
    have f8_8 : W8.cell? ⟨w3.heap.size, 0, none⟩ = some (i6 px) := by rw [← hW]; exact (cell_old f7_8)
    have f8_9 : W8.cell? ⟨w3.heap.size, 1, none⟩ = some (i6 py) := by rw [← hW]; exact (cell_old f7_9)
    have f8_10 : W8.cell? ⟨w7.heap.size, 0, none⟩ = some (i6 (x - x')) := by rw [← hW]; exact cell_new rfl
    have f8_11 : W8.cell? ⟨w7.heap.size, 1, none⟩ = some (i6 (y - y')) := by rw [← hW]; exact cell_new rfl
    have hq8 : Below w.heap.size w W8 := by rw [← hW]; (repeat' (first | with_reducible exact Below.refl _ _ | with_reducible assumption | with_reducible refine q_alloc ?_ _ | with_reducible refine q_drew ?_ | with_reducible refine q_drewN _ ?_ | with_reducible refine q_setCell ?_ ?_ _ | (left; simp; done) | (right; simp; done) | (right; dsimp only; omega) | (left; dsimp only; omega)))
    clear hW f7_0 f7_1 f7_2 f7_3 f7_4 f7_5 f7_6 f7_7 f7_8 f7_9 hq7 z7_1 z7_2 z7_3
    have wr1 : x' + (x - x') = x := by omega
    have wr2 : y' + (y - y') = y := by omega
    go_wp2
    go_returns
    exact ⟨rfl, hq8⟩
  · skip
    obtain ⟨h1, h2, rfl⟩ := hk
    have hb1 : (r == r') = true := by simp; omega
    have hb2 : (h == h') = true := by simp; omega
    clear h1 h2
    go_wp2_with fail
    refine (H2.out _ (HS.out.below hq6)).mono ?_
    rintro e w7 ⟨rfl, hb⟩
    have hq7 : Below w.heap.size w w7 := q_step hq6 hb
    have f7_0 := cell_below hb f6_0
    have f7_1 := cell_below hb f6_1
    have f7_2 := cell_below hb f6_2
    have f7_3 := cell_below hb f6_3
    have f7_4 := cell_below hb f6_4
    have f7_5 := cell_below hb f6_5
    have f7_6 := cell_below hb f6_6
    have f7_7 := cell_below hb f6_7
    have f7_8 := cell_below hb f6_8
    have f7_9 := cell_below hb f6_9
    clear hb f6_0 f6_1 f6_2 f6_3 f6_4 f6_5 f6_6 f6_7 f6_8 f6_9 hq6 z6_1 z6_2 z6_3
    have z7_1 := block_lt_of_cell f7_0
    have z7_2 := block_lt_of_cell f7_4
    have z7_3 := block_lt_of_cell f7_8
    go_upto_region 11 with fail
    generalize hW : w7.alloc (Obj.cells #[Value.int IntKind.i64 (x - x'), Value.int IntKind.i64 (y - y')] 26) = W8
    have f8_0 : W8.cell? ⟨w.heap.size, 0, none⟩ = some (i6 x) := by rw [← hW]; exact (cell_old f7_0)
    have f8_1 : W8.cell? ⟨w.heap.size, 1, none⟩ = some (i6 y) := by rw [← hW]; exact (cell_old f7_1)
    have f8_2 : W8.cell? ⟨w.heap.size, 2, none⟩ = some (i6 r) := by rw [← hW]; exact (cell_old f7_2)
    have f8_3 : W8.cell? ⟨w.heap.size, 3, none⟩ = some (i6 h) := by rw [← hW]; exact (cell_old f7_3)
    have f8_4 : W8.cell? ⟨w.heap.size + 1, 0, none⟩ = some (i6 x') := by rw [← hW]; exact (cell_old f7_4)
    have f8_5 : W8.cell? ⟨w.heap.size + 1, 1, none⟩ = some (i6 y') := by rw [← hW]; exact (cell_old f7_5)
    have f8_6 : W8.cell? ⟨w.heap.size + 1, 2, none⟩ = some (i6 r') := by rw [← hW]; exact (cell_old f7_6)
    have f8_7 : W8.cell? ⟨w.heap.size + 1, 3, none⟩ = some (i6 h') := by rw [← hW]; exact (cell_old f7_7)
    have f8_8 : W8.cell? ⟨w3.heap.size, 0, none⟩ = some (i6 px) := by rw [← hW]; exact (cell_old f7_8)
    have f8_9 : W8.cell? ⟨w3.heap.size, 1, none⟩ = some (i6 py) := by rw [← hW]; exact (cell_old f7_9)
    have f8_10 : W8.cell? ⟨w7.heap.size, 0, none⟩ = some (i6 (x - x')) := by rw [← hW]; exact cell_new rfl
    have f8_11 : W8.cell? ⟨w7.heap.size, 1, none⟩ = some (i6 (y - y')) := by rw [← hW]; exact cell_new rfl
    have hq8 : Below w.heap.size w W8 := by rw [← hW]; (repeat' (first | with_reducible exact Below.refl _ _ | with_reducible assumption | with_reducible refine q_alloc ?_ _ | with_reducible refine q_drew ?_ | with_reducible refine q_drewN _ ?_ | with_reducible refine q_setCell ?_ ?_ _ | (left; simp; done) | (right; simp; done) | (right; dsimp only; omega) | (left; dsimp only; omega)))
    clear hW f7_0 f7_1 f7_2 f7_3 f7_4 f7_5 f7_6 f7_7 f7_8 f7_9 hq7 z7_1 z7_2 z7_3
    have wr1 : x' + (x - x') = x := by omega
    have wr2 : y' + (y - y') = y := by omega
    go_wp2
    go_returns
    exact ⟨rfl, hq8⟩
  · skip
    obtain ⟨h1, h2, h3, rfl, rfl⟩ := hk
    have hb1 : (r == r') = true := by simp; omega
    have hb2 : (h == h') = true := by simp; omega
    have hb3 : (g != 10) = true := by simp; omega
    clear h1 h2 h3
    go_wp2_with fail
    refine (H2.out _ (HS.out.below hq6)).mono ?_
    rintro e w7 ⟨rfl, hb⟩
    have hq7 : Below w.heap.size w w7 := q_step hq6 hb
    have f7_0 := cell_below hb f6_0
    have f7_1 := cell_below hb f6_1
    have f7_2 := cell_below hb f6_2
    have f7_3 := cell_below hb f6_3
    have f7_4 := cell_below hb f6_4
    have f7_5 := cell_below hb f6_5
    have f7_6 := cell_below hb f6_6
    have f7_7 := cell_below hb f6_7
    have f7_8 := cell_below hb f6_8
    have f7_9 := cell_below hb f6_9
    clear hb f6_0 f6_1 f6_2 f6_3 f6_4 f6_5 f6_6 f6_7 f6_8 f6_9 hq6 z6_1 z6_2 z6_3
    have z7_1 := block_lt_of_cell f7_0
    have z7_2 := block_lt_of_cell f7_4
    have z7_3 := block_lt_of_cell f7_8
    go_upto_region 11 with fail
    generalize hW : w7.alloc (Obj.cells #[Value.int IntKind.i64 (x - x'), Value.int IntKind.i64 (y - y')] 26) = W8
    have f8_0 : W8.cell? ⟨w.heap.size, 0, none⟩ = some (i6 x) := by rw [← hW]; exact (cell_old f7_0)
    have f8_1 : W8.cell? ⟨w.heap.size, 1, none⟩ = some (i6 y) := by rw [← hW]; exact (cell_old f7_1)
    have f8_2 : W8.cell? ⟨w.heap.size, 2, none⟩ = some (i6 r) := by rw [← hW]; exact (cell_old f7_2)
    have f8_3 : W8.cell? ⟨w.heap.size, 3, none⟩ = some (i6 h) := by rw [← hW]; exact (cell_old f7_3)
    have f8_4 : W8.cell? ⟨w.heap.size + 1, 0, none⟩ = some (i6 x') := by rw [← hW]; exact (cell_old f7_4)
    have f8_5 : W8.cell? ⟨w.heap.size + 1, 1, none⟩ = some (i6 y') := by rw [← hW]; exact (cell_old f7_5)
    have f8_6 : W8.cell? ⟨w.heap.size + 1, 2, none⟩ = some (i6 r') := by rw [← hW]; exact (cell_old f7_6)
    have f8_7 : W8.cell? ⟨w.heap.size + 1, 3, none⟩ = some (i6 h') := by rw [← hW]; exact (cell_old f7_7)
    have f8_8 : W8.cell? ⟨w3.heap.size, 0, none⟩ = some (i6 0) := by rw [← hW]; exact (cell_old f7_8)
    have f8_9 : W8.cell? ⟨w3.heap.size, 1, none⟩ = some (i6 0) := by rw [← hW]; exact (cell_old f7_9)
    have f8_10 : W8.cell? ⟨w7.heap.size, 0, none⟩ = some (i6 (x - x')) := by rw [← hW]; exact cell_new rfl
    have f8_11 : W8.cell? ⟨w7.heap.size, 1, none⟩ = some (i6 (y - y')) := by rw [← hW]; exact cell_new rfl
    have hq8 : Below w.heap.size w W8 := by rw [← hW]; (repeat' (first | with_reducible exact Below.refl _ _ | with_reducible assumption | with_reducible refine q_alloc ?_ _ | with_reducible refine q_drew ?_ | with_reducible refine q_drewN _ ?_ | with_reducible refine q_setCell ?_ ?_ _ | (left; simp; done) | (right; simp; done) | (right; dsimp only; omega) | (left; dsimp only; omega)))
    clear hW f7_0 f7_1 f7_2 f7_3 f7_4 f7_5 f7_6 f7_7 f7_8 f7_9 hq7 z7_1 z7_2 z7_3
    have wr1 : x' + (x - x') = x := by omega
    have wr2 : y' + (y - y') = y := by omega
    go_wp2
    go_returns
    exact ⟨rfl, hq8⟩

set_option maxHeartbeats 1000000 in
theorem stays_no (g x y r h x' y' r' h' : Int) (w : World) (hs : RowAt 1 noneCells w) (hn : RowAt 0 gnames w) (s1 : ShiftIs g x y r h x' y' r' h' 0 0 false) :
    Calls Tryd.prog 4 #[i6 g, rectV x y r h, rectV x' y' r' h'] w fun e w' => e = .returned (.bool true) ∧ Below w.heap.size w w' := by
  have HS := Lib.hid hs
  have HN := Lib.hid hn
  clear hs hn
  have H1 := Lib.hid s1
  clear s1
  go_enter Tryd.func4, Tryd.ntmps4
  go_wp2_with fail
  generalize hW : (w.alloc (Obj.cells #[Value.int IntKind.i64 x, Value.int IntKind.i64 y, Value.int IntKind.i64 r, Value.int IntKind.i64 h] 23)).alloc (Obj.cells #[Value.int IntKind.i64 x', Value.int IntKind.i64 y', Value.int IntKind.i64 r', Value.int IntKind.i64 h'] 23) = W1
  have f1_0 : W1.cell? ⟨w.heap.size, 0, none⟩ = some (i6 x) := by rw [← hW]; exact cell_old (cell_new rfl)
  have f1_1 : W1.cell? ⟨w.heap.size, 1, none⟩ = some (i6 y) := by rw [← hW]; exact cell_old (cell_new rfl)
  have f1_2 : W1.cell? ⟨w.heap.size, 2, none⟩ = some (i6 r) := by rw [← hW]; exact cell_old (cell_new rfl)
  have f1_3 : W1.cell? ⟨w.heap.size, 3, none⟩ = some (i6 h) := by rw [← hW]; exact cell_old (cell_new rfl)
  have f1_4 : W1.cell? ⟨w.heap.size + 1, 0, none⟩ = some (i6 x') := by rw [← hW]; exact cell_new1 rfl
  have f1_5 : W1.cell? ⟨w.heap.size + 1, 1, none⟩ = some (i6 y') := by rw [← hW]; exact cell_new1 rfl
  have f1_6 : W1.cell? ⟨w.heap.size + 1, 2, none⟩ = some (i6 r') := by rw [← hW]; exact cell_new1 rfl
  have f1_7 : W1.cell? ⟨w.heap.size + 1, 3, none⟩ = some (i6 h') := by rw [← hW]; exact cell_new1 rfl
  have hq1 : Below w.heap.size w W1 := by rw [← hW]; (repeat' (first | with_reducible exact Below.refl _ _ | with_reducible assumption | with_reducible refine q_alloc ?_ _ | with_reducible refine q_drew ?_ | with_reducible refine q_drewN _ ?_ | with_reducible refine q_setCell ?_ ?_ _ | (left; simp; done) | (right; simp; done) | (right; dsimp only; omega) | (left; dsimp only; omega)))
  clear hW
  refine (gawake_any _ (HS.out.below hq1) (HN.out.below hq1)).mono ?_
  rintro e w2 ⟨rfl, hb⟩
  have hq2 : Below w.heap.size w w2 := q_step hq1 hb
  have f2_0 := cell_below hb f1_0
  have f2_1 := cell_below hb f1_1
  have f2_2 := cell_below hb f1_2
  have f2_3 := cell_below hb f1_3
  have f2_4 := cell_below hb f1_4
  have f2_5 := cell_below hb f1_5
  have f2_6 := cell_below hb f1_6
  have f2_7 := cell_below hb f1_7
  clear hb f1_0 f1_1 f1_2 f1_3 f1_4 f1_5 f1_6 f1_7 hq1
  have z2_1 := block_lt_of_cell f2_0
  have z2_2 := block_lt_of_cell f2_4
  go_wp2_with fail
  refine (H1.out _ (HS.out.below hq2)).mono ?_
  rintro e w3 ⟨rfl, hb⟩
  have hq3 : Below w.heap.size w w3 := q_step hq2 hb
  have f3_0 := cell_below hb f2_0
  have f3_1 := cell_below hb f2_1
  have f3_2 := cell_below hb f2_2
  have f3_3 := cell_below hb f2_3
  have f3_4 := cell_below hb f2_4
  have f3_5 := cell_below hb f2_5
  have f3_6 := cell_below hb f2_6
  have f3_7 := cell_below hb f2_7
  clear hb f2_0 f2_1 f2_2 f2_3 f2_4 f2_5 f2_6 f2_7 hq2 z2_1 z2_2
  have z3_1 := block_lt_of_cell f3_0
  have z3_2 := block_lt_of_cell f3_4
  go_upto_region 5 with fail
  generalize hW : w3.alloc (Obj.cells #[Value.int IntKind.i64 0, Value.int IntKind.i64 0] 26) = W4
  have f4_0 : W4.cell? ⟨w.heap.size, 0, none⟩ = some (i6 x) := by rw [← hW]; exact (cell_old f3_0)
  have f4_1 : W4.cell? ⟨w.heap.size, 1, none⟩ = some (i6 y) := by rw [← hW]; exact (cell_old f3_1)
  have f4_2 : W4.cell? ⟨w.heap.size, 2, none⟩ = some (i6 r) := by rw [← hW]; exact (cell_old f3_2)
  have f4_3 : W4.cell? ⟨w.heap.size, 3, none⟩ = some (i6 h) := by rw [← hW]; exact (cell_old f3_3)
  have f4_4 : W4.cell? ⟨w.heap.size + 1, 0, none⟩ = some (i6 x') := by rw [← hW]; exact (cell_old f3_4)
  have f4_5 : W4.cell? ⟨w.heap.size + 1, 1, none⟩ = some (i6 y') := by rw [← hW]; exact (cell_old f3_5)
  have f4_6 : W4.cell? ⟨w.heap.size + 1, 2, none⟩ = some (i6 r') := by rw [← hW]; exact (cell_old f3_6)
  have f4_7 : W4.cell? ⟨w.heap.size + 1, 3, none⟩ = some (i6 h') := by rw [← hW]; exact (cell_old f3_7)
  have f4_8 : W4.cell? ⟨w3.heap.size, 0, none⟩ = some (i6 0) := by rw [← hW]; exact cell_new rfl
  have f4_9 : W4.cell? ⟨w3.heap.size, 1, none⟩ = some (i6 0) := by rw [← hW]; exact cell_new rfl
  have hq4 : Below w.heap.size w W4 := by rw [← hW]; (repeat' (first | with_reducible exact Below.refl _ _ | with_reducible assumption | with_reducible refine q_alloc ?_ _ | with_reducible refine q_drew ?_ | with_reducible refine q_drewN _ ?_ | with_reducible refine q_setCell ?_ ?_ _ | (left; simp; done) | (right; simp; done) | (right; dsimp only; omega) | (left; dsimp only; omega)))
  clear hW f3_0 f3_1 f3_2 f3_3 f3_4 f3_5 f3_6 f3_7 hq3 z3_1 z3_2
  go_wp2
  go_returns
  exact ⟨rfl, hq4⟩

theorem shiftIs_none (g x y r h x' y' r' h' : Int) (hg : g ≤ 0 ∨ 11 ≤ g) : ShiftIs g x y r h x' y' r' h' 0 0 false :=
  fun W _ => shift_none g x y r h x' y' r' h' W hg
theorem shiftIs_bad (g x y r h x' y' r' h' : Int) (hg : ¬ (Good x y r h ∧ Good x' y' r' h')) : ShiftIs g x y r h x' y' r' h' 0 0 false := fun W hs => by
  by_cases h1 : 1 ≤ g ∧ g ≤ 10
  · by_cases ga : Good x y r h
    · exact shift_badB g x y r h x' y' r' h' W hs ga (fun gb => hg ⟨ga, gb⟩) h1.1 h1.2
    · exact shift_badA g x y r h x' y' r' h' W hs ga h1.1 h1.2
  · exact shift_none g x y r h x' y' r' h' W (by omega)
theorem half_bounds (d k : Int) (h : -2097152 ≤ d ∧ d ≤ 2097152) : -2097152 ≤ half d k ∧ half d k ≤ 2097152 := by
  unfold half; split
  · omega
  · split <;> omega
theorem half_zero (k : Int) : half 0 k = 0 := by
  unfold half; split
  · rfl
  · split <;> rfl

theorem stays_any (g x y r h x' y' r' h' : Int) (w : World) (hs : RowAt 1 noneCells w) (hn : RowAt 0 gnames w) :
    Calls Tryd.prog 4 #[i6 g, rectV x y r h, rectV x' y' r' h'] w fun e w' => e = .returned (.bool true) ∧ Below w.heap.size w w' := by
  by_cases hg : g ≤ 0 ∨ 11 ≤ g
  · exact stays_no g x y r h x' y' r' h' w hs hn (shiftIs_none g x y r h x' y' r' h' hg)
  · by_cases hab : Good x y r h ∧ Good x' y' r' h'
    · obtain ⟨ga, gb⟩ := hab
      by_cases h10 : g = 10
      · subst h10
        refine stays_ok 10 x y r h x' y' r' h' (x - x') (y - y') w hs hn (shiftIs_static x y r h x' y' r' h' ga gb) (shiftIs_static x y r h x' y' r' h' ga gb) ga gb ?_
        omega
      · have hm := shiftIs_mid g x y r h x' y' r' h' ga gb (by omega) (by omega)
        refine stays_ok g x y r h x' y' r' h' _ _ w hs hn hm (shiftIs_static x y r h x' y' r' h' ga gb) ga gb ?_
        by_cases e1 : r = r'
        · by_cases e2 : h = h'
          · subst e1 e2
            right; right; right
            exact ⟨rfl, rfl, h10, by simp [half_zero], by simp [half_zero]⟩
          · exact Or.inr (Or.inl ⟨e1, e2⟩)
        · exact Or.inl e1
    · exact stays_no g x y r h x' y' r' h' w hs hn (shiftIs_bad g x y r h x' y' r' h' hab)
end Go.Proofs.YtamcgdepipebeaaDoor
