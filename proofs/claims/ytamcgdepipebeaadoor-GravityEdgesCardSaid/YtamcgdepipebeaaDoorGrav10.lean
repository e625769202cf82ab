import Derived.Test.YtamcgdepipebeaaDoorGrav9
namespace Go.Proofs.YtamcgdepipebeaaDoor
open Go Go.RowKit

set_option maxHeartbeats 1000000 in
theorem edges_ok (x y r h x' y' r' h' ex ey cx cy : Int) (w : World) (hs : RowAt 1 noneCells w) (hn : RowAt 0 gnames w) (s1 : ShiftIs 1 x y r h x' y' r' h' 0 0 true) (s2 : ShiftIs 9 x y r h x' y' r' h' ex ey true) (s3 : ShiftIs 5 x y r h x' y' r' h' cx cy true) (ga : Good x y r h) (gb : Good x' y' r' h') (hex : ex = r' - r) (hey : ey = h' - h) (hcx : cx = (r' - r) / 2) (hcy : cy = (h' - h) / 2) :
    Calls Tryd.prog 5 #[rectV x y r h, rectV x' y' r' h'] w fun e w' => e = .returned (.bool true) ∧ Below w.heap.size w w' := by
  have HS := Lib.hid hs
  have HN := Lib.hid hn
  clear hs hn
  have H1 := Lib.hid s1
  have H2 := Lib.hid s2
  have H3 := Lib.hid s3
  have HA := Lib.hid ga
  have HB := Lib.hid gb
  have ba := ga.bounds
  have bb := gb.bounds
  clear s1 s2 s3 ga gb
  have k1 : r' - ex = r := by omega
  have k2 : h' - ey = h := by omega
  have bcx : -1100000 ≤ cx ∧ cx ≤ 1100000 := by omega
  have bcy : -1100000 ≤ cy ∧ cy ≤ 1100000 := by omega
  have e1 : ex - 2 * cx = 0 ∨ ex - 2 * cx = 1 := by omega
  have e2 : ey - 2 * cy = 0 ∨ ey - 2 * cy = 1 := by omega
  have bex : -3000000 ≤ ex ∧ ex ≤ 3000000 := by omega
  have bey : -3000000 ≤ ey ∧ ey ≤ 3000000 := by omega
  clear hex hey hcx hcy
  go_enter Tryd.func5, Tryd.ntmps5
  go_wp2_with fail
  generalize hW : (w.alloc (Obj.cells #[Value.int IntKind.i64 x, Value.int IntKind.i64 y, Value.int IntKind.i64 r, Value.int IntKind.i64 h] 23)).alloc (Obj.cells #[Value.int IntKind.i64 x', Value.int IntKind.i64 y', Value.int IntKind.i64 r', Value.int IntKind.i64 h'] 23) = W1
  have f1_0 : W1.cell? ⟨w.heap.size, 0, none⟩ = some (i6 x) := by rw [← hW]; exact cell_old (cell_new rfl)
  have f1_1 : W1.cell? ⟨w.heap.size, 1, none⟩ = some (i6 y) := by rw [← hW]; exact cell_old (cell_new rfl)
  have f1_2 : W1.cell? ⟨w.heap.size, 2, none⟩ = some (i6 r) := by rw [← hW]; exact cell_old (cell_new rfl)
  have f1_3 : W1.cell? ⟨w.heap.size, 3, none⟩ = some (i6 h) := by rw [← hW]; exact cell_old (cell_new rfl)
  have f1_4 : W1.cell? ⟨w.heap.size + 1, 0, none⟩ = some (i6 x') := by rw [← hW]; exact cell_new1 rfl
  have f1_5 : W1.cell? ⟨w.heap.size + 1, 1, none⟩ = some (i6 y') := by rw [← hW]; exact cell_new1 rfl
  have f1_6 : W1.cell? ⟨w.heap.size + 1, 2, none⟩ = some (i6 r') := by rw [← hW]; exact cell_new1 rfl
  have f1_7 : W1.cell? ⟨w.heap.size + 1, 3, none⟩ = some (i6 h') := by rw [← hW]; exact cell_new1 rfl
  have hq1 : Below w.heap.size w W1 := by rw [← hW]; (repeat' (first | with_reducible exact Below.refl _ _ | with_reducible assumption | with_reducible refine q_alloc ?_ _ | with_reducible refine q_drew ?_ | with_reducible refine q_drewN _ ?_ | with_reducible refine q_setCell ?_ ?_ _ | (left; simp; done) | (right; simp; done) | (right; dsimp only; omega) | (left; dsimp only; omega)))
  clear hW
  refine (gawake_any _ (HS.out.below hq1) (HN.out.below hq1)).mono ?_
  rintro e w2 ⟨rfl, hb⟩
  have hq2 : Below w.heap.size w w2 := q_step hq1 hb
  have f2_0 := cell_below hb f1_0
  have f2_1 := cell_below hb f1_1
  have f2_2 := cell_below hb f1_2
  have f2_3 := cell_below hb f1_3
  have f2_4 := cell_below hb f1_4
  have f2_5 := cell_below hb f1_5
  have f2_6 := cell_below hb f1_6
  have f2_7 := cell_below hb f1_7
  clear hb f1_0 f1_1 f1_2 f1_3 f1_4 f1_5 f1_6 f1_7 hq1
  have z2_1 := block_lt_of_cell f2_0
  have z2_2 := block_lt_of_cell f2_4
  go_wp2_with fail
  refine (lright_good _ _ _ _ _ HA.out).mono ?_
  rintro e w3 ⟨rfl, hb⟩
  have hq3 : Below w.heap.size w w3 := q_step hq2 hb
  have f3_0 := cell_below hb f2_0
  have f3_1 := cell_below hb f2_1
  have f3_2 := cell_below hb f2_2
  have f3_3 := cell_below hb f2_3
  have f3_4 := cell_below hb f2_4
  have f3_5 := cell_below hb f2_5
  have f3_6 := cell_below hb f2_6
  have f3_7 := cell_below hb f2_7
  clear hb f2_0 f2_1 f2_2 f2_3 f2_4 f2_5 f2_6 f2_7 hq2 z2_1 z2_2
  have z3_1 := block_lt_of_cell f3_0
  have z3_2 := block_lt_of_cell f3_4
  go_wp2_with fail
  refine (lright_good _ _ _ _ _ HB.out).mono ?_
  rintro e w4 ⟨rfl, hb⟩
  have hq4 : Below w.heap.size w w4 := q_step hq3 hb
  have f4_0 := cell_below hb f3_0
  have f4_1 := cell_below hb f3_1
  have f4_2 := cell_below hb f3_2
  have f4_3 := cell_below hb f3_3
  have f4_4 := cell_below hb f3_4
  have f4_5 := cell_below hb f3_5
  have f4_6 := cell_below hb f3_6
  have f4_7 := cell_below hb f3_7
  clear hb f3_0 f3_1 f3_2 f3_3 f3_4 f3_5 f3_6 f3_7 hq3 z3_1 z3_2
  have z4_1 := block_lt_of_cell f4_0
  have z4_2 := block_lt_of_cell f4_4
  go_wp2_with fail
  refine (H1.out _ (HS.out.below hq4)).mono ?_
  rintro e w5 ⟨rfl, hb⟩
  have hq5 : Below w.heap.size w w5 := q_step hq4 hb
  have f5_0 := cell_below hb f4_0
  have f5_1 := cell_below hb f4_1
  have f5_2 := cell_below hb f4_2
  have f5_3 := cell_below hb f4_3
  have f5_4 := cell_below hb f4_4
  have f5_5 := cell_below hb f4_5
  have f5_6 := cell_below hb f4_6
  have f5_7 := cell_below hb f4_7
  clear hb f4_0 f4_1 f4_2 f4_3 f4_4 f4_5 f4_6 f4_7 hq4 z4_1 z4_2
  have z5_1 := block_lt_of_cell f5_0
  have z5_2 := block_lt_of_cell f5_4
  go_wp2_with fail
  generalize hW : w5.alloc (Obj.cells #[Value.int IntKind.i64 0, Value.int IntKind.i64 0] 26) = W6
  have f6_0 : W6.cell? ⟨w.heap.size, 0, none⟩ = some (i6 x) := by rw [← hW]; exact (cell_old f5_0)
  have f6_1 : W6.cell? ⟨w.heap.size, 1, none⟩ = some (i6 y) := by rw [← hW]; exact (cell_old f5_1)
  have f6_2 : W6.cell? ⟨w.heap.size, 2, none⟩ = some (i6 r) := by rw [← hW]; exact (cell_old f5_2)
  have f6_3 : W6.cell? ⟨w.heap.size, 3, none⟩ = some (i6 h) := by rw [← hW]; exact (cell_old f5_3)
  have f6_4 : W6.cell? ⟨w.heap.size + 1, 0, none⟩ = some (i6 x') := by rw [← hW]; exact (cell_old f5_4)
  have f6_5 : W6.cell? ⟨w.heap.size + 1, 1, none⟩ = some (i6 y') := by rw [← hW]; exact (cell_old f5_5)
  have f6_6 : W6.cell? ⟨w.heap.size + 1, 2, none⟩ = some (i6 r') := by rw [← hW]; exact (cell_old f5_6)
  have f6_7 : W6.cell? ⟨w.heap.size + 1, 3, none⟩ = some (i6 h') := by rw [← hW]; exact (cell_old f5_7)
  have f6_8 : W6.cell? ⟨w5.heap.size, 0, none⟩ = some (i6 0) := by rw [← hW]; exact cell_new rfl
  have f6_9 : W6.cell? ⟨w5.heap.size, 1, none⟩ = some (i6 0) := by rw [← hW]; exact cell_new rfl
  have hq6 : Below w.heap.size w W6 := by rw [← hW]; (repeat' (first | with_reducible exact Below.refl _ _ | with_reducible assumption | with_reducible refine q_alloc ?_ _ | with_reducible refine q_drew ?_ | with_reducible refine q_drewN _ ?_ | with_reducible refine q_setCell ?_ ?_ _ | (left; simp; done) | (right; simp; done) | (right; dsimp only; omega) | (left; dsimp only; omega)))
  clear hW f5_0 f5_1 f5_2 f5_3 f5_4 f5_5 f5_6 f5_7 hq5 z5_1 z5_2
  refine (H2.out _ (HS.out.below hq6)).mono ?_
  rintro e w7 ⟨rfl, hb⟩
  have hq7 : Below w.heap.size w w7 := q_step hq6 hb
  have f7_0 := cell_below hb f6_0
  have f7_1 := cell_below hb f6_1
  have f7_2 := cell_below hb f6_2
  have f7_3 := cell_below hb f6_3
  have f7_4 := cell_below hb f6_4
  have f7_5 := cell_below hb f6_5
  have f7_6 := cell_below hb f6_6
  have f7_7 := cell_below hb f6_7
  have f7_8 := cell_below hb f6_8
  have f7_9 := cell_below hb f6_9
  clear hb f6_0 f6_1 f6_2 f6_3 f6_4 f6_5 f6_6 f6_7 f6_8 f6_9 hq6
  have z7_1 := block_lt_of_cell f7_0
  have z7_2 := block_lt_of_cell f7_4
  have z7_3 := block_lt_of_cell f7_8
  go_wp2_with fail
  generalize hW : w7.alloc (Obj.cells #[Value.int IntKind.i64 ex, Value.int IntKind.i64 ey] 26) = W8
  have f8_0 : W8.cell? ⟨w.heap.size, 0, none⟩ = some (i6 x) := by rw [← hW]; exact (cell_old f7_0)
  have f8_1 : W8.cell? ⟨w.heap.size, 1, none⟩ = some (i6 y) := by rw [← hW]; exact (cell_old f7_1)
  have f8_2 : W8.cell? ⟨w.heap.size, 2, none⟩ = some (i6 r) := by rw [← hW]; exact (cell_old f7_2)
  have f8_3 : W8.cell? ⟨w.heap.size, 3, none⟩ = some (i6 h) := by rw [← hW]; exact (cell_old f7_3)
  have f8_4 : W8.cell? ⟨w.heap.size + 1, 0, none⟩ = some (i6 x') := by rw [← hW]; exact (cell_old f7_4)
  have f8_5 : W8.cell? ⟨w.heap.size + 1, 1, none⟩ = some (i6 y') := by rw [← hW]; exact (cell_old f7_5)
  have f8_6 : W8.cell? ⟨w.heap.size + 1, 2, none⟩ = some (i6 r') := by rw [← hW]; exact (cell_old f7_6)
  have f8_7 : W8.cell? ⟨w.heap.size + 1, 3, none⟩ = some (i6 h') := by rw [← hW]; exact (cell_old f7_7)
  have f8_8 : W8.cell? ⟨w5.heap.size, 0, none⟩ = some (i6 0) := by rw [← hW]; exact (cell_old f7_8)
  have f8_9 : W8.cell? ⟨w5.heap.size, 1, none⟩ = some (i6 0) := by rw [← hW]; exact (cell_old f7_9)
  have f8_10 : W8.cell? ⟨w7.heap.size, 0, none⟩ = some (i6 ex) := by rw [← hW]; exact cell_new rfl
  have f8_11 : W8.cell? ⟨w7.heap.size, 1, none⟩ = some (i6 ey) := by rw [← hW]; exact cell_new rfl
  have hq8 : Below w.heap.size w W8 := by rw [← hW]; (repeat' (first | with_reducible exact Below.refl _ _ | with_reducible assumption | with_reducible refine q_alloc ?_ _ | with_reducible refine q_drew ?_ | with_reducible refine q_drewN _ ?_ | with_reducible refine q_setCell ?_ ?_ _ | (left; simp; done) | (right; simp; done) | (right; dsimp only; omega) | (left; dsimp only; omega)))
  clear hW f7_0 f7_1 f7_2 f7_3 f7_4 f7_5 f7_6 f7_7 f7_8 f7_9 hq7 z7_1 z7_2 z7_3
  refine (H3.out _ (HS.out.below hq8)).mono ?_
  rintro e w9 ⟨rfl, hb⟩
  have hq9 : Below w.heap.size w w9 := q_step hq8 hb
  have f9_0 := cell_below hb f8_0
  have f9_1 := cell_below hb f8_1
  have f9_2 := cell_below hb f8_2
  have f9_3 := cell_below hb f8_3
  have f9_4 := cell_below hb f8_4
  have f9_5 := cell_below hb f8_5
  have f9_6 := cell_below hb f8_6
  have f9_7 := cell_below hb f8_7
  have f9_8 := cell_below hb f8_8
  have f9_9 := cell_below hb f8_9
  have f9_10 := cell_below hb f8_10
  have f9_11 := cell_below hb f8_11
  clear hb f8_0 f8_1 f8_2 f8_3 f8_4 f8_5 f8_6 f8_7 f8_8 f8_9 f8_10 f8_11 hq8
  have z9_1 := block_lt_of_cell f9_0
  have z9_2 := block_lt_of_cell f9_4
  have z9_3 := block_lt_of_cell f9_8
  have z9_4 := block_lt_of_cell f9_10
  go_upto_region 8 with fail
  generalize hW : w9.alloc (Obj.cells #[Value.int IntKind.i64 cx, Value.int IntKind.i64 cy] 26) = W10
  have f10_0 : W10.cell? ⟨w.heap.size, 0, none⟩ = some (i6 x) := by rw [← hW]; exact (cell_old f9_0)
  have f10_1 : W10.cell? ⟨w.heap.size, 1, none⟩ = some (i6 y) := by rw [← hW]; exact (cell_old f9_1)
  have f10_2 : W10.cell? ⟨w.heap.size, 2, none⟩ = some (i6 r) := by rw [← hW]; exact (cell_old f9_2)
  have f10_3 : W10.cell? ⟨w.heap.size, 3, none⟩ = some (i6 h) := by rw [← hW]; exact (cell_old f9_3)
  have f10_4 : W10.cell? ⟨w.heap.size + 1, 0, none⟩ = some (i6 x') := by rw [← hW]; exact (cell_old f9_4)
  have f10_5 : W10.cell? ⟨w.heap.size + 1, 1, none⟩ = some (i6 y') := by rw [← hW]; exact (cell_old f9_5)
  have f10_6 : W10.cell? ⟨w.heap.size + 1, 2, none⟩ = some (i6 r') := by rw [← hW]; exact (cell_old f9_6)
  have f10_7 : W10.cell? ⟨w.heap.size + 1, 3, none⟩ = some (i6 h') := by rw [← hW]; exact (cell_old f9_7)
  have f10_8 : W10.cell? ⟨w5.heap.size, 0, none⟩ = some (i6 0) := by rw [← hW]; exact (cell_old f9_8)
  have f10_9 : W10.cell? ⟨w5.heap.size, 1, none⟩ = some (i6 0) := by rw [← hW]; exact (cell_old f9_9)
  have f10_10 : W10.cell? ⟨w7.heap.size, 0, none⟩ = some (i6 ex) := by rw [← hW]; exact (cell_old f9_10)
  have f10_11 : W10.cell? ⟨w7.heap.size, 1, none⟩ = some (i6 ey) := by rw [← hW]; exact (cell_old f9_11)
  have f10_12 : W10.cell? ⟨w9.heap.size, 0, none⟩ = some (i6 cx) := by rw [← hW]; exact cell_new rfl
  have f10_13 : W10.cell? ⟨w9.heap.size, 1, none⟩ = some (i6 cy) := by rw [← hW]; exact cell_new rfl
  have hq10 : Below w.heap.size w W10 := by rw [← hW]; (repeat' (first | with_reducible exact Below.refl _ _ | with_reducible assumption | with_reducible refine q_alloc ?_ _ | with_reducible refine q_drew ?_ | with_reducible refine q_drewN _ ?_ | with_reducible refine q_setCell ?_ ?_ _ | (left; simp; done) | (right; simp; done) | (right; dsimp only; omega) | (left; dsimp only; omega)))
  clear hW f9_0 f9_1 f9_2 f9_3 f9_4 f9_5 f9_6 f9_7 f9_8 f9_9 f9_10 f9_11 hq9 z9_1 z9_2 z9_3 z9_4
  have k3 : IntKind.i64.wrap (2 * cx) = 2 * cx := IntWalk.i64_in _ (by omega)
  have k4 : IntKind.i64.wrap (2 * cy) = 2 * cy := IntWalk.i64_in _ (by omega)
  have k5 : IntKind.i64.wrap (ex - 2 * cx) = ex - 2 * cx := IntWalk.i64_in _ (by omega)
  have k6 : IntKind.i64.wrap (ey - 2 * cy) = ey - 2 * cy := IntWalk.i64_in _ (by omega)
  go_wp2
  go_quiet (fail)
  clear k5 k6 k3 k4
  generalize ex - 2 * cx = X at *
  generalize ey - 2 * cy = Y at *
  rcases e1 with rfl | rfl <;> rcases e2 with rfl | rfl
  all_goals go_wp2
  all_goals go_returns
  all_goals exact ⟨rfl, by (repeat' (first | with_reducible exact Below.refl _ _ | with_reducible assumption | with_reducible refine q_alloc ?_ _ | with_reducible refine q_drew ?_ | with_reducible refine q_drewN _ ?_ | with_reducible refine q_setCell ?_ ?_ _ | (left; simp; done) | (right; simp; done) | (right; dsimp only; omega) | (left; dsimp only; omega)))⟩

set_option maxHeartbeats 1000000 in
theorem edges_badA (x y r h x' y' r' h' : Int) (w : World) (hs : RowAt 1 noneCells w) (hn : RowAt 0 gnames w) (ga : ¬ Good x y r h) :
    Calls Tryd.prog 5 #[rectV x y r h, rectV x' y' r' h'] w fun e w' => e = .returned (.bool true) ∧ Below w.heap.size w w' := by
  have HS := Lib.hid hs
  have HN := Lib.hid hn
  clear hs hn
  have HA := Lib.hid ga
  clear ga
  go_enter Tryd.func5, Tryd.ntmps5
  go_wp2_with fail
  generalize hW : (w.alloc (Obj.cells #[Value.int IntKind.i64 x, Value.int IntKind.i64 y, Value.int IntKind.i64 r, Value.int IntKind.i64 h] 23)).alloc (Obj.cells #[Value.int IntKind.i64 x', Value.int IntKind.i64 y', Value.int IntKind.i64 r', Value.int IntKind.i64 h'] 23) = W1
  have f1_0 : W1.cell? ⟨w.heap.size, 0, none⟩ = some (i6 x) := by rw [← hW]; exact cell_old (cell_new rfl)
  have f1_1 : W1.cell? ⟨w.heap.size, 1, none⟩ = some (i6 y) := by rw [← hW]; exact cell_old (cell_new rfl)
  have f1_2 : W1.cell? ⟨w.heap.size, 2, none⟩ = some (i6 r) := by rw [← hW]; exact cell_old (cell_new rfl)
  have f1_3 : W1.cell? ⟨w.heap.size, 3, none⟩ = some (i6 h) := by rw [← hW]; exact cell_old (cell_new rfl)
  have f1_4 : W1.cell? ⟨w.heap.size + 1, 0, none⟩ = some (i6 x') := by rw [← hW]; exact cell_new1 rfl
  have f1_5 : W1.cell? ⟨w.heap.size + 1, 1, none⟩ = some (i6 y') := by rw [← hW]; exact cell_new1 rfl
  have f1_6 : W1.cell? ⟨w.heap.size + 1, 2, none⟩ = some (i6 r') := by rw [← hW]; exact cell_new1 rfl
  have f1_7 : W1.cell? ⟨w.heap.size + 1, 3, none⟩ = some (i6 h') := by rw [← hW]; exact cell_new1 rfl
  have hq1 : Below w.heap.size w W1 := by rw [← hW]; (repeat' (first | with_reducible exact Below.refl _ _ | with_reducible assumption | with_reducible refine q_alloc ?_ _ | with_reducible refine q_drew ?_ | with_reducible refine q_drewN _ ?_ | with_reducible refine q_setCell ?_ ?_ _ | (left; simp; done) | (right; simp; done) | (right; dsimp only; omega) | (left; dsimp only; omega)))
  clear hW
  refine (gawake_any _ (HS.out.below hq1) (HN.out.below hq1)).mono ?_
  rintro e w2 ⟨rfl, hb⟩
  have hq2 : Below w.heap.size w w2 := q_step hq1 hb
  have f2_0 := cell_below hb f1_0
  have f2_1 := cell_below hb f1_1
  have f2_2 := cell_below hb f1_2
  have f2_3 := cell_below hb f1_3
  have f2_4 := cell_below hb f1_4
  have f2_5 := cell_below hb f1_5
  have f2_6 := cell_below hb f1_6
  have f2_7 := cell_below hb f1_7
  clear hb f1_0 f1_1 f1_2 f1_3 f1_4 f1_5 f1_6 f1_7 hq1
  have z2_1 := block_lt_of_cell f2_0
  have z2_2 := block_lt_of_cell f2_4
  go_wp2_with fail
  refine (lright_bad _ _ _ _ _ HA.out).mono ?_
  rintro e w3 ⟨rfl, hb⟩
  have hq3 : Below w.heap.size w w3 := q_step hq2 hb
  have f3_0 := cell_below hb f2_0
  have f3_1 := cell_below hb f2_1
  have f3_2 := cell_below hb f2_2
  have f3_3 := cell_below hb f2_3
  have f3_4 := cell_below hb f2_4
  have f3_5 := cell_below hb f2_5
  have f3_6 := cell_below hb f2_6
  have f3_7 := cell_below hb f2_7
  clear hb f2_0 f2_1 f2_2 f2_3 f2_4 f2_5 f2_6 f2_7 hq2 z2_1 z2_2
  have z3_1 := block_lt_of_cell f3_0
  have z3_2 := block_lt_of_cell f3_4
  go_wp2
  go_returns
  exact ⟨rfl, hq3⟩

set_option maxHeartbeats 1000000 in
theorem edges_badB (x y r h x' y' r' h' : Int) (w : World) (hs : RowAt 1 noneCells w) (hn : RowAt 0 gnames w) (ga : Good x y r h) (gb : ¬ Good x' y' r' h') :
    Calls Tryd.prog 5 #[rectV x y r h, rectV x' y' r' h'] w fun e w' => e = .returned (.bool true) ∧ Below w.heap.size w w' := by
  have HS := Lib.hid hs
  have HN := Lib.hid hn
  clear hs hn
  have HA := Lib.hid ga
  have HB := Lib.hid gb
  clear ga gb
  go_enter Tryd.func5, Tryd.ntmps5
  go_wp2_with fail
  generalize hW : (w.alloc (Obj.cells #[Value.int IntKind.i64 x, Value.int IntKind.i64 y, Value.int IntKind.i64 r, Value.int IntKind.i64 h] 23)).alloc (Obj.cells #[Value.int IntKind.i64 x', Value.int IntKind.i64 y', Value.int IntKind.i64 r', Value.int IntKind.i64 h'] 23) = W1
  have f1_0 : W1.cell? ⟨w.heap.size, 0, none⟩ = some (i6 x) := by rw [← hW]; exact cell_old (cell_new rfl)
  have f1_1 : W1.cell? ⟨w.heap.size, 1, none⟩ = some (i6 y) := by rw [← hW]; exact cell_old (cell_new rfl)
  have f1_2 : W1.cell? ⟨w.heap.size, 2, none⟩ = some (i6 r) := by rw [← hW]; exact cell_old (cell_new rfl)
  have f1_3 : W1.cell? ⟨w.heap.size, 3, none⟩ = some (i6 h) := by rw [← hW]; exact cell_old (cell_new rfl)
  have f1_4 : W1.cell? ⟨w.heap.size + 1, 0, none⟩ = some (i6 x') := by rw [← hW]; exact cell_new1 rfl
  have f1_5 : W1.cell? ⟨w.heap.size + 1, 1, none⟩ = some (i6 y') := by rw [← hW]; exact cell_new1 rfl
  have f1_6 : W1.cell? ⟨w.heap.size + 1, 2, none⟩ = some (i6 r') := by rw [← hW]; exact cell_new1 rfl
  have f1_7 : W1.cell? ⟨w.heap.size + 1, 3, none⟩ = some (i6 h') := by rw [← hW]; exact cell_new1 rfl
  have hq1 : Below w.heap.size w W1 := by rw [← hW]; (repeat' (first | with_reducible exact Below.refl _ _ | with_reducible assumption | with_reducible refine q_alloc ?_ _ | with_reducible refine q_drew ?_ | with_reducible refine q_drewN _ ?_ | with_reducible refine q_setCell ?_ ?_ _ | (left; simp; done) | (right; simp; done) | (right; dsimp only; omega) | (left; dsimp only; omega)))
  clear hW
  refine (gawake_any _ (HS.out.below hq1) (HN.out.below hq1)).mono ?_
  rintro e w2 ⟨rfl, hb⟩
  have hq2 : Below w.heap.size w w2 := q_step hq1 hb
  have f2_0 := cell_below hb f1_0
  have f2_1 := cell_below hb f1_1
  have f2_2 := cell_below hb f1_2
  have f2_3 := cell_below hb f1_3
  have f2_4 := cell_below hb f1_4
  have f2_5 := cell_below hb f1_5
  have f2_6 := cell_below hb f1_6
  have f2_7 := cell_below hb f1_7
  clear hb f1_0 f1_1 f1_2 f1_3 f1_4 f1_5 f1_6 f1_7 hq1
  have z2_1 := block_lt_of_cell f2_0
  have z2_2 := block_lt_of_cell f2_4
  go_wp2_with fail
  refine (lright_good _ _ _ _ _ HA.out).mono ?_
  rintro e w3 ⟨rfl, hb⟩
  have hq3 : Below w.heap.size w w3 := q_step hq2 hb
  have f3_0 := cell_below hb f2_0
  have f3_1 := cell_below hb f2_1
  have f3_2 := cell_below hb f2_2
  have f3_3 := cell_below hb f2_3
  have f3_4 := cell_below hb f2_4
  have f3_5 := cell_below hb f2_5
  have f3_6 := cell_below hb f2_6
  have f3_7 := cell_below hb f2_7
  clear hb f2_0 f2_1 f2_2 f2_3 f2_4 f2_5 f2_6 f2_7 hq2 z2_1 z2_2
  have z3_1 := block_lt_of_cell f3_0
  have z3_2 := block_lt_of_cell f3_4
  go_wp2_with fail
  refine (lright_bad _ _ _ _ _ HB.out).mono ?_
  rintro e w4 ⟨rfl, hb⟩
  have hq4 : Below w.heap.size w w4 := q_step hq3 hb
  have f4_0 := cell_below hb f3_0
  have f4_1 := cell_below hb f3_1
  have f4_2 := cell_below hb f3_2
  have f4_3 := cell_below hb f3_3
  have f4_4 := cell_below hb f3_4
  have f4_5 := cell_below hb f3_5
  have f4_6 := cell_below hb f3_6
  have f4_7 := cell_below hb f3_7
  clear hb f3_0 f3_1 f3_2 f3_3 f3_4 f3_5 f3_6 f3_7 hq3 z3_1 z3_2
  have z4_1 := block_lt_of_cell f4_0
  have z4_2 := block_lt_of_cell f4_4
  go_wp2
  go_returns
  exact ⟨rfl, hq4⟩


theorem edges_none (x y r h x' y' r' h' : Int) (w : World) (hs : RowAt 1 noneCells w) (hn : RowAt 0 gnames w) (hab : ¬ (Good x y r h ∧ Good x' y' r' h')) :
    Calls Tryd.prog 5 #[rectV x y r h, rectV x' y' r' h'] w fun e w' => e = .returned (.bool true) ∧ Below w.heap.size w w' := by
  by_cases ga : Good x y r h
  · exact edges_badB x y r h x' y' r' h' w hs hn ga (fun gb => hab ⟨ga, gb⟩)
  · exact edges_badA x y r h x' y' r' h' w hs hn ga

theorem edges_any (x y r h x' y' r' h' : Int) (w : World) (hs : RowAt 1 noneCells w) (hn : RowAt 0 gnames w) :
    Calls Tryd.prog 5 #[rectV x y r h, rectV x' y' r' h'] w fun e w' => e = .returned (.bool true) ∧ Below w.heap.size w w' := by
  by_cases hab : Good x y r h ∧ Good x' y' r' h'
  · obtain ⟨ga, gb⟩ := hab
    exact edges_ok x y r h x' y' r' h' (r' - r) (h' - h) ((r' - r) / 2) ((h' - h) / 2) w hs hn (shiftIs_mid 1 x y r h x' y' r' h' ga gb (by omega) (by omega)) (shiftIs_mid 9 x y r h x' y' r' h' ga gb (by omega) (by omega)) (shiftIs_mid 5 x y r h x' y' r' h' ga gb (by omega) (by omega)) ga gb rfl rfl rfl rfl
  · exact edges_none x y r h x' y' r' h' w hs hn hab
end Go.Proofs.YtamcgdepipebeaaDoor
