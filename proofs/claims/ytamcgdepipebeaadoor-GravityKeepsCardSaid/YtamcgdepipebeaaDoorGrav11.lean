import Derived.Test.YtamcgdepipebeaaDoorGrav9
namespace Go.Proofs.YtamcgdepipebeaaDoor
open Go Go.RowKit

def inB (X Y W H u v : Int) : Bool := decide (X ≤ u ∧ u < X + W ∧ Y ≤ v ∧ v < Y + H)

theorem within_any (X Y W H u v : Int) (w : World) (bX : -9000000 ≤ X ∧ X ≤ 9000000) (bY : -9000000 ≤ Y ∧ Y ≤ 9000000) (bW : -9000000 ≤ W ∧ W ≤ 9000000) (bH : -9000000 ≤ H ∧ H ≤ 9000000) :
    Calls Tryd.prog 15 #[rectV X Y W H, i6 u, i6 v] w fun e w' => e = .returned (.bool (inB X Y W H u v)) ∧ Below w.heap.size w w' := by
  unfold inB
  by_cases c0 : X ≤ u
  · skip
    by_cases c1 : u < X + W
    · skip
      by_cases c2 : Y ≤ v
      · skip
        by_cases c3 : v < Y + H
        · skip
          rw [decide_eq_true (by omega)]
          go_enter Tryd.func15, Tryd.ntmps15
          go_wp2
          go_returns
          exact ⟨ret_bool (by first | rfl | (simp; done) | (simp; omega)), by (repeat' (first | with_reducible exact Below.refl _ _ | with_reducible assumption | with_reducible refine q_alloc ?_ _ | with_reducible refine q_drew ?_ | with_reducible refine q_drewN _ ?_ | with_reducible refine q_setCell ?_ ?_ _ | (left; simp; done) | (right; simp; done) | (right; dsimp only; omega) | (left; dsimp only; omega)))⟩
        · rw [decide_eq_false (by omega)]
          go_enter Tryd.func15, Tryd.ntmps15
          go_wp2
          go_returns
          exact ⟨ret_bool (by first | rfl | (simp; done) | (simp; omega)), by (repeat' (first | with_reducible exact Below.refl _ _ | with_reducible assumption | with_reducible refine q_alloc ?_ _ | with_reducible refine q_drew ?_ | with_reducible refine q_drewN _ ?_ | with_reducible refine q_setCell ?_ ?_ _ | (left; simp; done) | (right; simp; done) | (right; dsimp only; omega) | (left; dsimp only; omega)))⟩
      · rw [decide_eq_false (by omega)]
        go_enter Tryd.func15, Tryd.ntmps15
        go_wp2
        go_returns
        exact ⟨ret_bool (by first | rfl | (simp; done) | (simp; omega)), by (repeat' (first | with_reducible exact Below.refl _ _ | with_reducible assumption | with_reducible refine q_alloc ?_ _ | with_reducible refine q_drew ?_ | with_reducible refine q_drewN _ ?_ | with_reducible refine q_setCell ?_ ?_ _ | (left; simp; done) | (right; simp; done) | (right; dsimp only; omega) | (left; dsimp only; omega)))⟩
    · rw [decide_eq_false (by omega)]
      go_enter Tryd.func15, Tryd.ntmps15
      go_wp2
      go_returns
      exact ⟨ret_bool (by first | rfl | (simp; done) | (simp; omega)), by (repeat' (first | with_reducible exact Below.refl _ _ | with_reducible assumption | with_reducible refine q_alloc ?_ _ | with_reducible refine q_drew ?_ | with_reducible refine q_drewN _ ?_ | with_reducible refine q_setCell ?_ ?_ _ | (left; simp; done) | (right; simp; done) | (right; dsimp only; omega) | (left; dsimp only; omega)))⟩
  · rw [decide_eq_false (by omega)]
    go_enter Tryd.func15, Tryd.ntmps15
    go_wp2
    go_returns
    exact ⟨ret_bool (by first | rfl | (simp; done) | (simp; omega)), by (repeat' (first | with_reducible exact Below.refl _ _ | with_reducible assumption | with_reducible refine q_alloc ?_ _ | with_reducible refine q_drew ?_ | with_reducible refine q_drewN _ ?_ | with_reducible refine q_setCell ?_ ?_ _ | (left; simp; done) | (right; simp; done) | (right; dsimp only; omega) | (left; dsimp only; omega)))⟩

/-- What is kept, as four numbers. -/
theorem keptV_rect (px py r h r' h' : Int) (br : 1 ≤ r ∧ r ≤ 2100000) (bh : 1 ≤ h ∧ h ≤ 2100000) (br' : 1 ≤ r' ∧ r' ≤ 2100000) (bh' : 1 ≤ h' ∧ h' ≤ 2100000) (bx : -2200000 ≤ px ∧ px ≤ 2200000) (by_ : -2200000 ≤ py ∧ py ≤ 2200000) :
    ∃ a b c d : Int, keptV px py r h r' h' = rectV a b c d ∧ (-9000000 ≤ a ∧ a ≤ 9000000) ∧ (-9000000 ≤ b ∧ b ≤ 9000000) ∧ (-9000000 ≤ c ∧ c ≤ 9000000) ∧ (-9000000 ≤ d ∧ d ≤ 9000000) ∧
      ∀ u v, inB a b c d u v = (inB 0 0 r' h' u v && inB 0 0 r h (u - px) (v - py)) := by
  have hx0 : kx0 px = (if 0 < px then px else 0) := rfl
  have hy0 : kx0 py = (if 0 < py then py else 0) := rfl
  have hx1 : kx1 px r r' = (if px + r < r' then px + r else r') := rfl
  have hy1 : kx1 py h h' = (if py + h < h' then py + h else h') := rfl
  generalize kx0 px = x0 at hx0
  generalize kx0 py = y0 at hy0
  unfold keptV
  by_cases t : kx1 px r r' ≤ kx0 px ∨ kx1 py h h' ≤ kx0 py
  · refine ⟨0, 0, 0, 0, if_pos t, by omega, by omega, by omega, by omega, fun u v => ?_⟩
    unfold inB
    rw [decide_eq_false (by omega)]
    symm
    rw [Bool.and_eq_false_iff]
    by_cases q : 0 ≤ u ∧ u < 0 + r' ∧ 0 ≤ v ∧ v < 0 + h'
    · right
      rw [decide_eq_false]
      unfold kx0 kx1 at t
      intro q2
      rcases t with t | t <;> split at t <;> split at t <;> omega
    · left
      exact decide_eq_false q
  · refine ⟨_, _, _, _, if_neg t, ?_, ?_, ?_, ?_, fun u v => ?_⟩
    · unfold kx0; split <;> omega
    · unfold kx0; split <;> omega
    · unfold kx0 kx1; split <;> split <;> omega
    · unfold kx0 kx1; split <;> split <;> omega
    · unfold inB
      rw [← Bool.decide_and, decide_eq_decide]
      unfold kx0 kx1
      split <;> split <;> split <;> split <;> omega

set_option maxHeartbeats 1000000 in
theorem keeps_ok (g x y r h x' y' r' h' u v px py a b c d : Int) (w : World) (hs : RowAt 1 noneCells w) (hn : RowAt 0 gnames w) (K : ∀ W : World, RowAt 1 noneCells W → Calls Tryd.prog 12 #[i6 g, rectV x y r h, rectV x' y' r' h'] W fun e w' => e = .returned (.tuple #[.agg #[i6 px, i6 py], rectV a b c d, .bool true]) ∧ Below W.heap.size W w') (ga : Good x y r h) (gb : Good x' y' r' h') (b1 b2 : Bool) (bu : -32768 ≤ u ∧ u ≤ 32767) (bv : -32768 ≤ v ∧ v ≤ 32767) (bpx : -3000000 ≤ px ∧ px ≤ 3000000) (bpy : -3000000 ≤ py ∧ py ≤ 3000000) (BA : -9000000 ≤ a ∧ a ≤ 9000000) (BB : -9000000 ≤ b ∧ b ≤ 9000000) (BC : -9000000 ≤ c ∧ c ≤ 9000000) (BD : -9000000 ≤ d ∧ d ≤ 9000000) (e1 : inB 0 0 r' h' u v = b1) (e2 : inB 0 0 r h (u - px) (v - py) = b2) (e3 : inB a b c d u v = (b1 && b2)) :
    Calls Tryd.prog 7 #[i6 g, rectV x y r h, rectV x' y' r' h', .int .i16 u, .int .i16 v] w fun e w' => e = .returned (.bool true) ∧ Below w.heap.size w w' := by
  have HS := Lib.hid hs
  have HN := Lib.hid hn
  clear hs hn
  have HK := Lib.hid K
  have HA := Lib.hid ga
  have HB := Lib.hid gb
  have E1 := Lib.hid e1
  have E2 := Lib.hid e2
  have E3 := Lib.hid e3
  have ba := ga.bounds
  have bb := gb.bounds
  clear K ga gb e1 e2 e3
  go_enter Tryd.func7, Tryd.ntmps7
  go_wp2_with fail
  generalize hW : (w.alloc (Obj.cells #[Value.int IntKind.i64 x, Value.int IntKind.i64 y, Value.int IntKind.i64 r, Value.int IntKind.i64 h] 23)).alloc (Obj.cells #[Value.int IntKind.i64 x', Value.int IntKind.i64 y', Value.int IntKind.i64 r', Value.int IntKind.i64 h'] 23) = W1
  have f1_0 : W1.cell? ⟨w.heap.size, 0, none⟩ = some (i6 x) := by rw [← hW]; exact cell_old (cell_new rfl)
  have f1_1 : W1.cell? ⟨w.heap.size, 1, none⟩ = some (i6 y) := by rw [← hW]; exact cell_old (cell_new rfl)
  have f1_2 : W1.cell? ⟨w.heap.size, 2, none⟩ = some (i6 r) := by rw [← hW]; exact cell_old (cell_new rfl)
  have f1_3 : W1.cell? ⟨w.heap.size, 3, none⟩ = some (i6 h) := by rw [← hW]; exact cell_old (cell_new rfl)
  have f1_4 : W1.cell? ⟨w.heap.size + 1, 0, none⟩ = some (i6 x') := by rw [← hW]; exact cell_new1 rfl
  have f1_5 : W1.cell? ⟨w.heap.size + 1, 1, none⟩ = some (i6 y') := by rw [← hW]; exact cell_new1 rfl
  have f1_6 : W1.cell? ⟨w.heap.size + 1, 2, none⟩ = some (i6 r') := by rw [← hW]; exact cell_new1 rfl
  have f1_7 : W1.cell? ⟨w.heap.size + 1, 3, none⟩ = some (i6 h') := by rw [← hW]; exact cell_new1 rfl
  have hq1 : Below w.heap.size w W1 := by rw [← hW]; (repeat' (first | with_reducible exact Below.refl _ _ | with_reducible assumption | with_reducible refine q_alloc ?_ _ | with_reducible refine q_drew ?_ | with_reducible refine q_drewN _ ?_ | with_reducible refine q_setCell ?_ ?_ _ | (left; simp; done) | (right; simp; done) | (right; dsimp only; omega) | (left; dsimp only; omega)))
  clear hW
  refine (gawake_any _ (HS.out.below hq1) (HN.out.below hq1)).mono ?_
  rintro e w2 ⟨rfl, hb⟩
  have hq2 : Below w.heap.size w w2 := q_step hq1 hb
  have f2_0 := cell_below hb f1_0
  have f2_1 := cell_below hb f1_1
  have f2_2 := cell_below hb f1_2
  have f2_3 := cell_below hb f1_3
  have f2_4 := cell_below hb f1_4
  have f2_5 := cell_below hb f1_5
  have f2_6 := cell_below hb f1_6
  have f2_7 := cell_below hb f1_7
  clear hb f1_0 f1_1 f1_2 f1_3 f1_4 f1_5 f1_6 f1_7 hq1
  have z2_1 := block_lt_of_cell f2_0
  have z2_2 := block_lt_of_cell f2_4
  go_wp2_with fail
  refine (HK.out _ (HS.out.below hq2)).mono ?_
  rintro e w3 ⟨rfl, hb⟩
  have hq3 : Below w.heap.size w w3 := q_step hq2 hb
  have f3_0 := cell_below hb f2_0
  have f3_1 := cell_below hb f2_1
  have f3_2 := cell_below hb f2_2
  have f3_3 := cell_below hb f2_3
  have f3_4 := cell_below hb f2_4
  have f3_5 := cell_below hb f2_5
  have f3_6 := cell_below hb f2_6
  have f3_7 := cell_below hb f2_7
  clear hb f2_0 f2_1 f2_2 f2_3 f2_4 f2_5 f2_6 f2_7 hq2 z2_1 z2_2
  have z3_1 := block_lt_of_cell f3_0
  have z3_2 := block_lt_of_cell f3_4
  go_wp2_with fail
  generalize hW : (w3.alloc (Obj.cells #[Value.int IntKind.i64 px, Value.int IntKind.i64 py] 26)).alloc (Obj.cells #[Value.int IntKind.i64 a, Value.int IntKind.i64 b, Value.int IntKind.i64 c, Value.int IntKind.i64 d] 23) = W4
  have f4_0 : W4.cell? ⟨w.heap.size, 0, none⟩ = some (i6 x) := by rw [← hW]; exact (cell_old (cell_old f3_0))
  have f4_1 : W4.cell? ⟨w.heap.size, 1, none⟩ = some (i6 y) := by rw [← hW]; exact (cell_old (cell_old f3_1))
  have f4_2 : W4.cell? ⟨w.heap.size, 2, none⟩ = some (i6 r) := by rw [← hW]; exact (cell_old (cell_old f3_2))
  have f4_3 : W4.cell? ⟨w.heap.size, 3, none⟩ = some (i6 h) := by rw [← hW]; exact (cell_old (cell_old f3_3))
  have f4_4 : W4.cell? ⟨w.heap.size + 1, 0, none⟩ = some (i6 x') := by rw [← hW]; exact (cell_old (cell_old f3_4))
  have f4_5 : W4.cell? ⟨w.heap.size + 1, 1, none⟩ = some (i6 y') := by rw [← hW]; exact (cell_old (cell_old f3_5))
  have f4_6 : W4.cell? ⟨w.heap.size + 1, 2, none⟩ = some (i6 r') := by rw [← hW]; exact (cell_old (cell_old f3_6))
  have f4_7 : W4.cell? ⟨w.heap.size + 1, 3, none⟩ = some (i6 h') := by rw [← hW]; exact (cell_old (cell_old f3_7))
  have f4_8 : W4.cell? ⟨w3.heap.size, 0, none⟩ = some (i6 px) := by rw [← hW]; exact cell_old (cell_new rfl)
  have f4_9 : W4.cell? ⟨w3.heap.size, 1, none⟩ = some (i6 py) := by rw [← hW]; exact cell_old (cell_new rfl)
  have f4_10 : W4.cell? ⟨w3.heap.size + 1, 0, none⟩ = some (i6 a) := by rw [← hW]; exact cell_new1 rfl
  have f4_11 : W4.cell? ⟨w3.heap.size + 1, 1, none⟩ = some (i6 b) := by rw [← hW]; exact cell_new1 rfl
  have f4_12 : W4.cell? ⟨w3.heap.size + 1, 2, none⟩ = some (i6 c) := by rw [← hW]; exact cell_new1 rfl
  have f4_13 : W4.cell? ⟨w3.heap.size + 1, 3, none⟩ = some (i6 d) := by rw [← hW]; exact cell_new1 rfl
  have hq4 : Below w.heap.size w W4 := by rw [← hW]; (repeat' (first | with_reducible exact Below.refl _ _ | with_reducible assumption | with_reducible refine q_alloc ?_ _ | with_reducible refine q_drew ?_ | with_reducible refine q_drewN _ ?_ | with_reducible refine q_setCell ?_ ?_ _ | (left; simp; done) | (right; simp; done) | (right; dsimp only; omega) | (left; dsimp only; omega)))
  clear hW f3_0 f3_1 f3_2 f3_3 f3_4 f3_5 f3_6 f3_7 hq3 z3_1 z3_2
  refine (lright_good _ _ _ _ _ HA.out).mono ?_
  rintro e w5 ⟨rfl, hb⟩
  have hq5 : Below w.heap.size w w5 := q_step hq4 hb
  have f5_0 := cell_below hb f4_0
  have f5_1 := cell_below hb f4_1
  have f5_2 := cell_below hb f4_2
  have f5_3 := cell_below hb f4_3
  have f5_4 := cell_below hb f4_4
  have f5_5 := cell_below hb f4_5
  have f5_6 := cell_below hb f4_6
  have f5_7 := cell_below hb f4_7
  have f5_8 := cell_below hb f4_8
  have f5_9 := cell_below hb f4_9
  have f5_10 := cell_below hb f4_10
  have f5_11 := cell_below hb f4_11
  have f5_12 := cell_below hb f4_12
  have f5_13 := cell_below hb f4_13
  clear hb f4_0 f4_1 f4_2 f4_3 f4_4 f4_5 f4_6 f4_7 f4_8 f4_9 f4_10 f4_11 f4_12 f4_13 hq4
  have z5_1 := block_lt_of_cell f5_0
  have z5_2 := block_lt_of_cell f5_4
  have z5_3 := block_lt_of_cell f5_8
  have z5_4 := block_lt_of_cell f5_10
  go_wp2_with fail
  refine (lright_good _ _ _ _ _ HB.out).mono ?_
  rintro e w6 ⟨rfl, hb⟩
  have hq6 : Below w.heap.size w w6 := q_step hq5 hb
  have f6_0 := cell_below hb f5_0
  have f6_1 := cell_below hb f5_1
  have f6_2 := cell_below hb f5_2
  have f6_3 := cell_below hb f5_3
  have f6_4 := cell_below hb f5_4
  have f6_5 := cell_below hb f5_5
  have f6_6 := cell_below hb f5_6
  have f6_7 := cell_below hb f5_7
  have f6_8 := cell_below hb f5_8
  have f6_9 := cell_below hb f5_9
  have f6_10 := cell_below hb f5_10
  have f6_11 := cell_below hb f5_11
  have f6_12 := cell_below hb f5_12
  have f6_13 := cell_below hb f5_13
  clear hb f5_0 f5_1 f5_2 f5_3 f5_4 f5_5 f5_6 f5_7 f5_8 f5_9 f5_10 f5_11 f5_12 f5_13 hq5 z5_1 z5_2 z5_3 z5_4
  have z6_1 := block_lt_of_cell f6_0
  have z6_2 := block_lt_of_cell f6_4
  have z6_3 := block_lt_of_cell f6_8
  have z6_4 := block_lt_of_cell f6_10
  go_wp2_with fail
  refine (within_any 0 0 r' h' u v _ (by omega) (by omega) (by omega) (by omega)).mono ?_
  rintro e w7 ⟨rfl, hb⟩
  rw [E1.out]
  have hq7 : Below w.heap.size w w7 := q_step hq6 hb
  have f7_0 := cell_below hb f6_0
  have f7_1 := cell_below hb f6_1
  have f7_2 := cell_below hb f6_2
  have f7_3 := cell_below hb f6_3
  have f7_4 := cell_below hb f6_4
  have f7_5 := cell_below hb f6_5
  have f7_6 := cell_below hb f6_6
  have f7_7 := cell_below hb f6_7
  have f7_8 := cell_below hb f6_8
  have f7_9 := cell_below hb f6_9
  have f7_10 := cell_below hb f6_10
  have f7_11 := cell_below hb f6_11
  have f7_12 := cell_below hb f6_12
  have f7_13 := cell_below hb f6_13
  clear hb f6_0 f6_1 f6_2 f6_3 f6_4 f6_5 f6_6 f6_7 f6_8 f6_9 f6_10 f6_11 f6_12 f6_13 hq6 z6_1 z6_2 z6_3 z6_4
  have z7_1 := block_lt_of_cell f7_0
  have z7_2 := block_lt_of_cell f7_4
  have z7_3 := block_lt_of_cell f7_8
  have z7_4 := block_lt_of_cell f7_10
  go_wp2_with fail
  refine (within_any 0 0 r h (u - px) (v - py) _ (by omega) (by omega) (by omega) (by omega)).mono ?_
  rintro e w8 ⟨rfl, hb⟩
  rw [E2.out]
  have hq8 : Below w.heap.size w w8 := q_step hq7 hb
  have f8_0 := cell_below hb f7_0
  have f8_1 := cell_below hb f7_1
  have f8_2 := cell_below hb f7_2
  have f8_3 := cell_below hb f7_3
  have f8_4 := cell_below hb f7_4
  have f8_5 := cell_below hb f7_5
  have f8_6 := cell_below hb f7_6
  have f8_7 := cell_below hb f7_7
  have f8_8 := cell_below hb f7_8
  have f8_9 := cell_below hb f7_9
  have f8_10 := cell_below hb f7_10
  have f8_11 := cell_below hb f7_11
  have f8_12 := cell_below hb f7_12
  have f8_13 := cell_below hb f7_13
  clear hb f7_0 f7_1 f7_2 f7_3 f7_4 f7_5 f7_6 f7_7 f7_8 f7_9 f7_10 f7_11 f7_12 f7_13 hq7 z7_1 z7_2 z7_3 z7_4
  have z8_1 := block_lt_of_cell f8_0
  have z8_2 := block_lt_of_cell f8_4
  have z8_3 := block_lt_of_cell f8_8
  have z8_4 := block_lt_of_cell f8_10
  go_wp2_with fail
  refine (within_any a b c d u v _ BA BB BC BD).mono ?_
  rintro e w9 ⟨rfl, hb⟩
  rw [E3.out]
  have hq9 : Below w.heap.size w w9 := q_step hq8 hb
  have f9_0 := cell_below hb f8_0
  have f9_1 := cell_below hb f8_1
  have f9_2 := cell_below hb f8_2
  have f9_3 := cell_below hb f8_3
  have f9_4 := cell_below hb f8_4
  have f9_5 := cell_below hb f8_5
  have f9_6 := cell_below hb f8_6
  have f9_7 := cell_below hb f8_7
  have f9_8 := cell_below hb f8_8
  have f9_9 := cell_below hb f8_9
  have f9_10 := cell_below hb f8_10
  have f9_11 := cell_below hb f8_11
  have f9_12 := cell_below hb f8_12
  have f9_13 := cell_below hb f8_13
  clear hb f8_0 f8_1 f8_2 f8_3 f8_4 f8_5 f8_6 f8_7 f8_8 f8_9 f8_10 f8_11 f8_12 f8_13 hq8 z8_1 z8_2 z8_3 z8_4
  have z9_1 := block_lt_of_cell f9_0
  have z9_2 := block_lt_of_cell f9_4
  have z9_3 := block_lt_of_cell f9_8
  have z9_4 := block_lt_of_cell f9_10
  cases b1 <;> cases b2
  all_goals go_wp2
  all_goals go_returns
  all_goals exact ⟨rfl, hq9⟩

set_option maxHeartbeats 1000000 in
theorem keeps_no (g x y r h x' y' r' h' u v : Int) (w : World) (hs : RowAt 1 noneCells w) (hn : RowAt 0 gnames w) (K : ∀ W : World, RowAt 1 noneCells W → Calls Tryd.prog 12 #[i6 g, rectV x y r h, rectV x' y' r' h'] W fun e w' => e = .returned (.tuple #[.agg #[i6 0, i6 0], rectV 0 0 0 0, .bool false]) ∧ Below W.heap.size W w') :
    Calls Tryd.prog 7 #[i6 g, rectV x y r h, rectV x' y' r' h', .int .i16 u, .int .i16 v] w fun e w' => e = .returned (.bool true) ∧ Below w.heap.size w w' := by
  have HS := Lib.hid hs
  have HN := Lib.hid hn
  clear hs hn
  have HK := Lib.hid K
  clear K
  go_enter Tryd.func7, Tryd.ntmps7
  go_wp2_with fail
  generalize hW : (w.alloc (Obj.cells #[Value.int IntKind.i64 x, Value.int IntKind.i64 y, Value.int IntKind.i64 r, Value.int IntKind.i64 h] 23)).alloc (Obj.cells #[Value.int IntKind.i64 x', Value.int IntKind.i64 y', Value.int IntKind.i64 r', Value.int IntKind.i64 h'] 23) = W1
  have f1_0 : W1.cell? ⟨w.heap.size, 0, none⟩ = some (i6 x) := by rw [← hW]; exact cell_old (cell_new rfl)
  have f1_1 : W1.cell? ⟨w.heap.size, 1, none⟩ = some (i6 y) := by rw [← hW]; exact cell_old (cell_new rfl)
  have f1_2 : W1.cell? ⟨w.heap.size, 2, none⟩ = some (i6 r) := by rw [← hW]; exact cell_old (cell_new rfl)
  have f1_3 : W1.cell? ⟨w.heap.size, 3, none⟩ = some (i6 h) := by rw [← hW]; exact cell_old (cell_new rfl)
  have f1_4 : W1.cell? ⟨w.heap.size + 1, 0, none⟩ = some (i6 x') := by rw [← hW]; exact cell_new1 rfl
  have f1_5 : W1.cell? ⟨w.heap.size + 1, 1, none⟩ = some (i6 y') := by rw [← hW]; exact cell_new1 rfl
  have f1_6 : W1.cell? ⟨w.heap.size + 1, 2, none⟩ = some (i6 r') := by rw [← hW]; exact cell_new1 rfl
  have f1_7 : W1.cell? ⟨w.heap.size + 1, 3, none⟩ = some (i6 h') := by rw [← hW]; exact cell_new1 rfl
  have hq1 : Below w.heap.size w W1 := by rw [← hW]; (repeat' (first | with_reducible exact Below.refl _ _ | with_reducible assumption | with_reducible refine q_alloc ?_ _ | with_reducible refine q_drew ?_ | with_reducible refine q_drewN _ ?_ | with_reducible refine q_setCell ?_ ?_ _ | (left; simp; done) | (right; simp; done) | (right; dsimp only; omega) | (left; dsimp only; omega)))
  clear hW
  refine (gawake_any _ (HS.out.below hq1) (HN.out.below hq1)).mono ?_
  rintro e w2 ⟨rfl, hb⟩
  have hq2 : Below w.heap.size w w2 := q_step hq1 hb
  have f2_0 := cell_below hb f1_0
  have f2_1 := cell_below hb f1_1
  have f2_2 := cell_below hb f1_2
  have f2_3 := cell_below hb f1_3
  have f2_4 := cell_below hb f1_4
  have f2_5 := cell_below hb f1_5
  have f2_6 := cell_below hb f1_6
  have f2_7 := cell_below hb f1_7
  clear hb f1_0 f1_1 f1_2 f1_3 f1_4 f1_5 f1_6 f1_7 hq1
  have z2_1 := block_lt_of_cell f2_0
  have z2_2 := block_lt_of_cell f2_4
  go_wp2_with fail
  refine (HK.out _ (HS.out.below hq2)).mono ?_
  rintro e w3 ⟨rfl, hb⟩
  have hq3 : Below w.heap.size w w3 := q_step hq2 hb
  have f3_0 := cell_below hb f2_0
  have f3_1 := cell_below hb f2_1
  have f3_2 := cell_below hb f2_2
  have f3_3 := cell_below hb f2_3
  have f3_4 := cell_below hb f2_4
  have f3_5 := cell_below hb f2_5
  have f3_6 := cell_below hb f2_6
  have f3_7 := cell_below hb f2_7
  clear hb f2_0 f2_1 f2_2 f2_3 f2_4 f2_5 f2_6 f2_7 hq2 z2_1 z2_2
  have z3_1 := block_lt_of_cell f3_0
  have z3_2 := block_lt_of_cell f3_4
  go_upto_region 5 with fail
  generalize hW : (w3.alloc (Obj.cells #[Value.int IntKind.i64 0, Value.int IntKind.i64 0] 26)).alloc (Obj.cells #[Value.int IntKind.i64 0, Value.int IntKind.i64 0, Value.int IntKind.i64 0, Value.int IntKind.i64 0] 23) = W4
  have f4_0 : W4.cell? ⟨w.heap.size, 0, none⟩ = some (i6 x) := by rw [← hW]; exact (cell_old (cell_old f3_0))
  have f4_1 : W4.cell? ⟨w.heap.size, 1, none⟩ = some (i6 y) := by rw [← hW]; exact (cell_old (cell_old f3_1))
  have f4_2 : W4.cell? ⟨w.heap.size, 2, none⟩ = some (i6 r) := by rw [← hW]; exact (cell_old (cell_old f3_2))
  have f4_3 : W4.cell? ⟨w.heap.size, 3, none⟩ = some (i6 h) := by rw [← hW]; exact (cell_old (cell_old f3_3))
  have f4_4 : W4.cell? ⟨w.heap.size + 1, 0, none⟩ = some (i6 x') := by rw [← hW]; exact (cell_old (cell_old f3_4))
  have f4_5 : W4.cell? ⟨w.heap.size + 1, 1, none⟩ = some (i6 y') := by rw [← hW]; exact (cell_old (cell_old f3_5))
  have f4_6 : W4.cell? ⟨w.heap.size + 1, 2, none⟩ = some (i6 r') := by rw [← hW]; exact (cell_old (cell_old f3_6))
  have f4_7 : W4.cell? ⟨w.heap.size + 1, 3, none⟩ = some (i6 h') := by rw [← hW]; exact (cell_old (cell_old f3_7))
  have f4_8 : W4.cell? ⟨w3.heap.size, 0, none⟩ = some (i6 0) := by rw [← hW]; exact cell_old (cell_new rfl)
  have f4_9 : W4.cell? ⟨w3.heap.size, 1, none⟩ = some (i6 0) := by rw [← hW]; exact cell_old (cell_new rfl)
  have f4_10 : W4.cell? ⟨w3.heap.size + 1, 0, none⟩ = some (i6 0) := by rw [← hW]; exact cell_new1 rfl
  have f4_11 : W4.cell? ⟨w3.heap.size + 1, 1, none⟩ = some (i6 0) := by rw [← hW]; exact cell_new1 rfl
  have f4_12 : W4.cell? ⟨w3.heap.size + 1, 2, none⟩ = some (i6 0) := by rw [← hW]; exact cell_new1 rfl
  have f4_13 : W4.cell? ⟨w3.heap.size + 1, 3, none⟩ = some (i6 0) := by rw [← hW]; exact cell_new1 rfl
  have hq4 : Below w.heap.size w W4 := by rw [← hW]; (repeat' (first | with_reducible exact Below.refl _ _ | with_reducible assumption | with_reducible refine q_alloc ?_ _ | with_reducible refine q_drew ?_ | with_reducible refine q_drewN _ ?_ | with_reducible refine q_setCell ?_ ?_ _ | (left; simp; done) | (right; simp; done) | (right; dsimp only; omega) | (left; dsimp only; omega)))
  clear hW f3_0 f3_1 f3_2 f3_3 f3_4 f3_5 f3_6 f3_7 hq3 z3_1 z3_2
  go_wp2
  go_returns
  exact ⟨rfl, hq4⟩

theorem keeps_any (g x y r h x' y' r' h' u v : Int) (w : World) (hs : RowAt 1 noneCells w) (hn : RowAt 0 gnames w) (bu : -32768 ≤ u ∧ u ≤ 32767) (bv : -32768 ≤ v ∧ v ≤ 32767) :
    Calls Tryd.prog 7 #[i6 g, rectV x y r h, rectV x' y' r' h', .int .i16 u, .int .i16 v] w fun e w' => e = .returned (.bool true) ∧ Below w.heap.size w w' := by
  have no : ShiftIs g x y r h x' y' r' h' 0 0 false → Calls Tryd.prog 7 #[i6 g, rectV x y r h, rectV x' y' r' h', .int .i16 u, .int .i16 v] w fun e w' => e = .returned (.bool true) ∧ Below w.heap.size w w' :=
    fun H => keeps_no g x y r h x' y' r' h' u v w hs hn (fun W hW => kept_no g x y r h x' y' r' h' W hW H)
  by_cases hg : g ≤ 0 ∨ 11 ≤ g
  · exact no (shiftIs_none g x y r h x' y' r' h' hg)
  · by_cases hab : Good x y r h ∧ Good x' y' r' h'
    · obtain ⟨ga, gb⟩ := hab
      have ba := ga.bounds
      have bb := gb.bounds
      have go : ∀ px py : Int, ShiftIs g x y r h x' y' r' h' px py true → (-2200000 ≤ px ∧ px ≤ 2200000) → (-2200000 ≤ py ∧ py ≤ 2200000) → Calls Tryd.prog 7 #[i6 g, rectV x y r h, rectV x' y' r' h', .int .i16 u, .int .i16 v] w fun e w' => e = .returned (.bool true) ∧ Below w.heap.size w w' := by
        intro px py H b1 b2
        obtain ⟨a, b, c, d, hk, k1, k2, k3, k4, k5⟩ := keptV_rect px py r h r' h' (by omega) (by omega) (by omega) (by omega) b1 b2
        refine keeps_ok g x y r h x' y' r' h' u v px py a b c d w hs hn (fun W hW => ?_) ga gb _ _ bu bv (by omega) (by omega) k1 k2 k3 k4 rfl rfl (k5 u v)
        rw [← hk]
        exact kept_ok g x y r h x' y' r' h' px py W hW H (by omega) (by omega) (by omega) (by omega) (by omega) (by omega)
      by_cases h10 : g = 10
      · subst h10
        exact go _ _ (shiftIs_static x y r h x' y' r' h' ga gb) (by omega) (by omega)
      · have e1 := half_bounds (r' - r) ((g - 1) % 3) (by omega)
        have e2 := half_bounds (h' - h) ((g - 1) / 3) (by omega)
        exact go _ _ (shiftIs_mid g x y r h x' y' r' h' ga gb (by omega) (by omega)) (by omega) (by omega)
    · exact no (shiftIs_bad g x y r h x' y' r' h' hab)
end Go.Proofs.YtamcgdepipebeaaDoor
