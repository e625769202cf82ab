import Derived.Test.YtlofhbeifgaoeaaDoorRect12
import Derived.Test.YtlofhbeifgaoeaaDoorLib3
namespace Go.Proofs.YtlofhbeifgaoeaaDoor
open Go Go.RowKit
set_option linter.unusedSimpArgs false

set_option maxHeartbeats 4000000 in
theorem minus_nil (x y r h a b c d x' y' r' h' a' b' c' d' p q s t : Int) (w : World) (hs : RowAt 0 noneCells w) (n : Norm x y r h a b c d) (n' : Norm x' y' r' h' a' b' c' d')
    (nb : Betw (max a a') (max b b') (min (a + c) (a' + c')) (min (b + d) (b' + d')) p q s t) (hz : zeroB a b c d = true) :
    Calls Tryd.prog 23 #[rectV x y r h, rectV x' y' r' h'] w fun e w' => ∃ v, e = .returned v ∧ OwnR w' w.heap.size v [] ∧ Below w.heap.size w w' := by
  have HS := Lib.hid hs
  have HN := Lib.hid n
  have HN2 := Lib.hid n'
  have HB := Lib.hid nb
  have HZ := Lib.hid hz
  clear hs n n' nb hz
  go_enter Tryd.func23, Tryd.ntmps23
  go_wp2_with fail
  generalize hW : (w.alloc (Obj.cells #[Value.int IntKind.i64 x, Value.int IntKind.i64 y, Value.int IntKind.i64 r, Value.int IntKind.i64 h] 23)).alloc (Obj.cells #[Value.int IntKind.i64 x', Value.int IntKind.i64 y', Value.int IntKind.i64 r', Value.int IntKind.i64 h'] 23) = W1
  have f1_0 : W1.cell? ⟨w.heap.size, 0, none⟩ = some (i6 x) := by rw [← hW]; exact cell_old (cell_new rfl)
  have g1_0 : W1.frozen? ⟨w.heap.size, 0, none⟩ = false := by rw [← hW]; exact (frozen_old (cell_new rfl) frozen_new)
  have f1_1 : W1.cell? ⟨w.heap.size, 1, none⟩ = some (i6 y) := by rw [← hW]; exact cell_old (cell_new rfl)
  have g1_1 : W1.frozen? ⟨w.heap.size, 1, none⟩ = false := by rw [← hW]; exact (frozen_old (cell_new rfl) frozen_new)
  have f1_2 : W1.cell? ⟨w.heap.size, 2, none⟩ = some (i6 r) := by rw [← hW]; exact cell_old (cell_new rfl)
  have g1_2 : W1.frozen? ⟨w.heap.size, 2, none⟩ = false := by rw [← hW]; exact (frozen_old (cell_new rfl) frozen_new)
  have f1_3 : W1.cell? ⟨w.heap.size, 3, none⟩ = some (i6 h) := by rw [← hW]; exact cell_old (cell_new rfl)
  have g1_3 : W1.frozen? ⟨w.heap.size, 3, none⟩ = false := by rw [← hW]; exact (frozen_old (cell_new rfl) frozen_new)
  have f1_4 : W1.cell? ⟨w.heap.size + 1, 0, none⟩ = some (i6 x') := by rw [← hW]; exact cell_new1 rfl
  have g1_4 : W1.frozen? ⟨w.heap.size + 1, 0, none⟩ = false := by rw [← hW]; exact frozen_new1
  have f1_5 : W1.cell? ⟨w.heap.size + 1, 1, none⟩ = some (i6 y') := by rw [← hW]; exact cell_new1 rfl
  have g1_5 : W1.frozen? ⟨w.heap.size + 1, 1, none⟩ = false := by rw [← hW]; exact frozen_new1
  have f1_6 : W1.cell? ⟨w.heap.size + 1, 2, none⟩ = some (i6 r') := by rw [← hW]; exact cell_new1 rfl
  have g1_6 : W1.frozen? ⟨w.heap.size + 1, 2, none⟩ = false := by rw [← hW]; exact frozen_new1
  have f1_7 : W1.cell? ⟨w.heap.size + 1, 3, none⟩ = some (i6 h') := by rw [← hW]; exact cell_new1 rfl
  have g1_7 : W1.frozen? ⟨w.heap.size + 1, 3, none⟩ = false := by rw [← hW]; exact frozen_new1
  have hq1 : Below w.heap.size w W1 := by rw [← hW]; (repeat' (first | with_reducible exact Below.refl _ _ | with_reducible assumption | with_reducible refine q_alloc ?_ _ | with_reducible refine q_drew ?_ | with_reducible refine q_drewN _ ?_ | with_reducible refine q_setCell ?_ ?_ _ | (left; simp; done) | (right; simp; done) | (right; dsimp only; omega) | (left; dsimp only; omega)))
  clear hW
  refine (right_norm x y r h a b c d _ (HS.out.below hq1) HN.out).mono ?_
  rintro e w2 ⟨rfl, hb⟩
  have hq2 : Below w.heap.size w w2 := q_step hq1 hb
  have f2_0 := cell_below hb f1_0
  have f2_1 := cell_below hb f1_1
  have f2_2 := cell_below hb f1_2
  have f2_3 := cell_below hb f1_3
  have f2_4 := cell_below hb f1_4
  have f2_5 := cell_below hb f1_5
  have f2_6 := cell_below hb f1_6
  have f2_7 := cell_below hb f1_7
  have g2_0 := frozen_below hb f1_0 g1_0
  have g2_1 := frozen_below hb f1_1 g1_1
  have g2_2 := frozen_below hb f1_2 g1_2
  have g2_3 := frozen_below hb f1_3 g1_3
  have g2_4 := frozen_below hb f1_4 g1_4
  have g2_5 := frozen_below hb f1_5 g1_5
  have g2_6 := frozen_below hb f1_6 g1_6
  have g2_7 := frozen_below hb f1_7 g1_7
  clear hb f1_0 f1_1 f1_2 f1_3 f1_4 f1_5 f1_6 f1_7 g1_0 g1_1 g1_2 g1_3 g1_4 g1_5 g1_6 g1_7 hq1
  have z2_1 := block_lt_of_cell f2_0
  have z2_2 := block_lt_of_cell f2_4
  go_upto_region 2 with fail
  generalize hW : ((((w2).setCell ⟨w.heap.size, 0, none⟩ (Value.int IntKind.i64 a)).setCell ⟨w.heap.size, 1, none⟩ (Value.int IntKind.i64 b)).setCell ⟨w.heap.size, 2, none⟩ (Value.int IntKind.i64 c)).setCell ⟨w.heap.size, 3, none⟩ (Value.int IntKind.i64 d) = W3
  have hS : set4 w2 (w.heap.size) (Value.int IntKind.i64 a) (Value.int IntKind.i64 b) (Value.int IntKind.i64 c) (Value.int IntKind.i64 d) = W3 := hW
  clear hW
  have f3_0 : W3.cell? ⟨w.heap.size, 0, none⟩ = some (i6 a) := by rw [← hS]; exact set4_0 f2_0
  have f3_1 : W3.cell? ⟨w.heap.size, 1, none⟩ = some (i6 b) := by rw [← hS]; exact set4_1 f2_1
  have f3_2 : W3.cell? ⟨w.heap.size, 2, none⟩ = some (i6 c) := by rw [← hS]; exact set4_2 f2_2
  have f3_3 : W3.cell? ⟨w.heap.size, 3, none⟩ = some (i6 d) := by rw [← hS]; exact set4_3 f2_3
  have f3_4 : W3.cell? ⟨w.heap.size + 1, 0, none⟩ = some (i6 x') := by rw [← hS]; exact set4_o f2_4 (by omega)
  have f3_5 : W3.cell? ⟨w.heap.size + 1, 1, none⟩ = some (i6 y') := by rw [← hS]; exact set4_o f2_5 (by omega)
  have f3_6 : W3.cell? ⟨w.heap.size + 1, 2, none⟩ = some (i6 r') := by rw [← hS]; exact set4_o f2_6 (by omega)
  have f3_7 : W3.cell? ⟨w.heap.size + 1, 3, none⟩ = some (i6 h') := by rw [← hS]; exact set4_o f2_7 (by omega)
  have g3_0 : W3.frozen? ⟨w.heap.size, 0, none⟩ = false := by rw [← hS]; exact set4_f g2_0
  have g3_1 : W3.frozen? ⟨w.heap.size, 1, none⟩ = false := by rw [← hS]; exact set4_f g2_1
  have g3_2 : W3.frozen? ⟨w.heap.size, 2, none⟩ = false := by rw [← hS]; exact set4_f g2_2
  have g3_3 : W3.frozen? ⟨w.heap.size, 3, none⟩ = false := by rw [← hS]; exact set4_f g2_3
  have g3_4 : W3.frozen? ⟨w.heap.size + 1, 0, none⟩ = false := by rw [← hS]; exact set4_f g2_4
  have g3_5 : W3.frozen? ⟨w.heap.size + 1, 1, none⟩ = false := by rw [← hS]; exact set4_f g2_5
  have g3_6 : W3.frozen? ⟨w.heap.size + 1, 2, none⟩ = false := by rw [← hS]; exact set4_f g2_6
  have g3_7 : W3.frozen? ⟨w.heap.size + 1, 3, none⟩ = false := by rw [← hS]; exact set4_f g2_7
  have hq3 : Below w.heap.size w W3 := by rw [← hS]; exact set4_q hq2 (Nat.le_refl _)
  clear hS f2_0 f2_1 f2_2 f2_3 f2_4 f2_5 f2_6 f2_7 g2_0 g2_1 g2_2 g2_3 g2_4 g2_5 g2_6 g2_7 hq2 z2_1 z2_2
  have z3_1 := block_lt_of_cell f3_0
  have z3_2 := block_lt_of_cell f3_4
  go_wp2_with fail
  refine (cross_any a b c d a b c d x' y' r' h' a' b' c' d' p q s t _ (HS.out.below hq3) (norm_idem HN.out) HN2.out HB.out).mono ?_
  rintro e w4 ⟨rfl, hb⟩
  have hq4 : Below w.heap.size w w4 := q_step hq3 hb
  have f4_0 := cell_below hb f3_0
  have f4_1 := cell_below hb f3_1
  have f4_2 := cell_below hb f3_2
  have f4_3 := cell_below hb f3_3
  have f4_4 := cell_below hb f3_4
  have f4_5 := cell_below hb f3_5
  have f4_6 := cell_below hb f3_6
  have f4_7 := cell_below hb f3_7
  have g4_0 := frozen_below hb f3_0 g3_0
  have g4_1 := frozen_below hb f3_1 g3_1
  have g4_2 := frozen_below hb f3_2 g3_2
  have g4_3 := frozen_below hb f3_3 g3_3
  have g4_4 := frozen_below hb f3_4 g3_4
  have g4_5 := frozen_below hb f3_5 g3_5
  have g4_6 := frozen_below hb f3_6 g3_6
  have g4_7 := frozen_below hb f3_7 g3_7
  clear hb f3_0 f3_1 f3_2 f3_3 f3_4 f3_5 f3_6 f3_7 g3_0 g3_1 g3_2 g3_3 g3_4 g3_5 g3_6 g3_7 hq3 z3_1 z3_2
  have z4_1 := block_lt_of_cell f4_0
  have z4_2 := block_lt_of_cell f4_4
  go_wp2_with (first | (with_reducible refine at_load 23 (.global 0) ?_; refine wpList_load_cells rfl 23 _ rfl 0 rfl noneCells _ (by first | exact (HS.out.below hq4) | exact RowAt.alloc (HS.out.below hq4) _) Tryd.underlying23 rfl sizeRect ?_) | (with_reducible refine at_bin .eql 23 ?_; first | refine wpList_eqAgg rfl .eql 23 _ _ _ rfl _ _ rfl rfl eqgRect (rect_eqlz HZ.out _) ?_ | refine wpList_eqAgg rfl .eql 23 _ _ _ rfl _ _ rfl rfl eqgRect (rect_eqlz HZ2.out _) ?_))
  go_returns
  exact ⟨_, rfl, World.ownsRow_nil _ _ _ _, by (repeat' (first | with_reducible exact Below.refl _ _ | with_reducible assumption | with_reducible refine q_alloc ?_ _ | with_reducible refine q_drew ?_ | with_reducible refine q_drewN _ ?_ | with_reducible refine q_setCell ?_ ?_ _ | (left; simp; done) | (right; simp; done) | (right; dsimp only; omega) | (left; dsimp only; omega)))⟩
theorem own_lit1 (w : World) (B n : Nat) (a b c d : Int) (hb : B ≤ w.heap.size) (hn : w.heap.size = n) : OwnR (w.alloc (.cells #[i6 a, i6 b, i6 c, i6 d] 23)) B (.slice (some ⟨n, 0, none⟩) 1 1) [(a, b, c, d)] := by
  subst hn
  exact World.ownsRow_lit w #[i6 a, i6 b, i6 c, i6 d] 1 hb (by decide) rfl

set_option maxHeartbeats 4000000 in
theorem minus_none (x y r h a b c d x' y' r' h' a' b' c' d' p q s t : Int) (w : World) (hs : RowAt 0 noneCells w) (n : Norm x y r h a b c d) (n' : Norm x' y' r' h' a' b' c' d')
    (nb : Betw (max a a') (max b b') (min (a + c) (a' + c')) (min (b + d) (b' + d')) p q s t) (hz : zeroB a b c d = false) (hz2 : zeroB p q s t = true) :
    Calls Tryd.prog 23 #[rectV x y r h, rectV x' y' r' h'] w fun e w' => ∃ v, e = .returned v ∧ OwnR w' w.heap.size v [(a, b, c, d)] ∧ Below w.heap.size w w' := by
  have HS := Lib.hid hs
  have HN := Lib.hid n
  have HN2 := Lib.hid n'
  have HB := Lib.hid nb
  have HZ := Lib.hid hz
  have HZ2 := Lib.hid hz2
  clear hs n n' nb hz hz2
  go_enter Tryd.func23, Tryd.ntmps23
  go_wp2_with fail
  generalize hW : (w.alloc (Obj.cells #[Value.int IntKind.i64 x, Value.int IntKind.i64 y, Value.int IntKind.i64 r, Value.int IntKind.i64 h] 23)).alloc (Obj.cells #[Value.int IntKind.i64 x', Value.int IntKind.i64 y', Value.int IntKind.i64 r', Value.int IntKind.i64 h'] 23) = W1
  have f1_0 : W1.cell? ⟨w.heap.size, 0, none⟩ = some (i6 x) := by rw [← hW]; exact cell_old (cell_new rfl)
  have g1_0 : W1.frozen? ⟨w.heap.size, 0, none⟩ = false := by rw [← hW]; exact (frozen_old (cell_new rfl) frozen_new)
  have f1_1 : W1.cell? ⟨w.heap.size, 1, none⟩ = some (i6 y) := by rw [← hW]; exact cell_old (cell_new rfl)
  have g1_1 : W1.frozen? ⟨w.heap.size, 1, none⟩ = false := by rw [← hW]; exact (frozen_old (cell_new rfl) frozen_new)
  have f1_2 : W1.cell? ⟨w.heap.size, 2, none⟩ = some (i6 r) := by rw [← hW]; exact cell_old (cell_new rfl)
  have g1_2 : W1.frozen? ⟨w.heap.size, 2, none⟩ = false := by rw [← hW]; exact (frozen_old (cell_new rfl) frozen_new)
  have f1_3 : W1.cell? ⟨w.heap.size, 3, none⟩ = some (i6 h) := by rw [← hW]; exact cell_old (cell_new rfl)
  have g1_3 : W1.frozen? ⟨w.heap.size, 3, none⟩ = false := by rw [← hW]; exact (frozen_old (cell_new rfl) frozen_new)
  have f1_4 : W1.cell? ⟨w.heap.size + 1, 0, none⟩ = some (i6 x') := by rw [← hW]; exact cell_new1 rfl
  have g1_4 : W1.frozen? ⟨w.heap.size + 1, 0, none⟩ = false := by rw [← hW]; exact frozen_new1
  have f1_5 : W1.cell? ⟨w.heap.size + 1, 1, none⟩ = some (i6 y') := by rw [← hW]; exact cell_new1 rfl
  have g1_5 : W1.frozen? ⟨w.heap.size + 1, 1, none⟩ = false := by rw [← hW]; exact frozen_new1
  have f1_6 : W1.cell? ⟨w.heap.size + 1, 2, none⟩ = some (i6 r') := by rw [← hW]; exact cell_new1 rfl
  have g1_6 : W1.frozen? ⟨w.heap.size + 1, 2, none⟩ = false := by rw [← hW]; exact frozen_new1
  have f1_7 : W1.cell? ⟨w.heap.size + 1, 3, none⟩ = some (i6 h') := by rw [← hW]; exact cell_new1 rfl
  have g1_7 : W1.frozen? ⟨w.heap.size + 1, 3, none⟩ = false := by rw [← hW]; exact frozen_new1
  have hq1 : Below w.heap.size w W1 := by rw [← hW]; (repeat' (first | with_reducible exact Below.refl _ _ | with_reducible assumption | with_reducible refine q_alloc ?_ _ | with_reducible refine q_drew ?_ | with_reducible refine q_drewN _ ?_ | with_reducible refine q_setCell ?_ ?_ _ | (left; simp; done) | (right; simp; done) | (right; dsimp only; omega) | (left; dsimp only; omega)))
  clear hW
  refine (right_norm x y r h a b c d _ (HS.out.below hq1) HN.out).mono ?_
  rintro e w2 ⟨rfl, hb⟩
  have hq2 : Below w.heap.size w w2 := q_step hq1 hb
  have f2_0 := cell_below hb f1_0
  have f2_1 := cell_below hb f1_1
  have f2_2 := cell_below hb f1_2
  have f2_3 := cell_below hb f1_3
  have f2_4 := cell_below hb f1_4
  have f2_5 := cell_below hb f1_5
  have f2_6 := cell_below hb f1_6
  have f2_7 := cell_below hb f1_7
  have g2_0 := frozen_below hb f1_0 g1_0
  have g2_1 := frozen_below hb f1_1 g1_1
  have g2_2 := frozen_below hb f1_2 g1_2
  have g2_3 := frozen_below hb f1_3 g1_3
  have g2_4 := frozen_below hb f1_4 g1_4
  have g2_5 := frozen_below hb f1_5 g1_5
  have g2_6 := frozen_below hb f1_6 g1_6
  have g2_7 := frozen_below hb f1_7 g1_7
  clear hb f1_0 f1_1 f1_2 f1_3 f1_4 f1_5 f1_6 f1_7 g1_0 g1_1 g1_2 g1_3 g1_4 g1_5 g1_6 g1_7 hq1
  have z2_1 := block_lt_of_cell f2_0
  have z2_2 := block_lt_of_cell f2_4
  go_upto_region 2 with fail
  generalize hW : ((((w2).setCell ⟨w.heap.size, 0, none⟩ (Value.int IntKind.i64 a)).setCell ⟨w.heap.size, 1, none⟩ (Value.int IntKind.i64 b)).setCell ⟨w.heap.size, 2, none⟩ (Value.int IntKind.i64 c)).setCell ⟨w.heap.size, 3, none⟩ (Value.int IntKind.i64 d) = W3
  have hS : set4 w2 (w.heap.size) (Value.int IntKind.i64 a) (Value.int IntKind.i64 b) (Value.int IntKind.i64 c) (Value.int IntKind.i64 d) = W3 := hW
  clear hW
  have f3_0 : W3.cell? ⟨w.heap.size, 0, none⟩ = some (i6 a) := by rw [← hS]; exact set4_0 f2_0
  have f3_1 : W3.cell? ⟨w.heap.size, 1, none⟩ = some (i6 b) := by rw [← hS]; exact set4_1 f2_1
  have f3_2 : W3.cell? ⟨w.heap.size, 2, none⟩ = some (i6 c) := by rw [← hS]; exact set4_2 f2_2
  have f3_3 : W3.cell? ⟨w.heap.size, 3, none⟩ = some (i6 d) := by rw [← hS]; exact set4_3 f2_3
  have f3_4 : W3.cell? ⟨w.heap.size + 1, 0, none⟩ = some (i6 x') := by rw [← hS]; exact set4_o f2_4 (by omega)
  have f3_5 : W3.cell? ⟨w.heap.size + 1, 1, none⟩ = some (i6 y') := by rw [← hS]; exact set4_o f2_5 (by omega)
  have f3_6 : W3.cell? ⟨w.heap.size + 1, 2, none⟩ = some (i6 r') := by rw [← hS]; exact set4_o f2_6 (by omega)
  have f3_7 : W3.cell? ⟨w.heap.size + 1, 3, none⟩ = some (i6 h') := by rw [← hS]; exact set4_o f2_7 (by omega)
  have g3_0 : W3.frozen? ⟨w.heap.size, 0, none⟩ = false := by rw [← hS]; exact set4_f g2_0
  have g3_1 : W3.frozen? ⟨w.heap.size, 1, none⟩ = false := by rw [← hS]; exact set4_f g2_1
  have g3_2 : W3.frozen? ⟨w.heap.size, 2, none⟩ = false := by rw [← hS]; exact set4_f g2_2
  have g3_3 : W3.frozen? ⟨w.heap.size, 3, none⟩ = false := by rw [← hS]; exact set4_f g2_3
  have g3_4 : W3.frozen? ⟨w.heap.size + 1, 0, none⟩ = false := by rw [← hS]; exact set4_f g2_4
  have g3_5 : W3.frozen? ⟨w.heap.size + 1, 1, none⟩ = false := by rw [← hS]; exact set4_f g2_5
  have g3_6 : W3.frozen? ⟨w.heap.size + 1, 2, none⟩ = false := by rw [← hS]; exact set4_f g2_6
  have g3_7 : W3.frozen? ⟨w.heap.size + 1, 3, none⟩ = false := by rw [← hS]; exact set4_f g2_7
  have hq3 : Below w.heap.size w W3 := by rw [← hS]; exact set4_q hq2 (Nat.le_refl _)
  clear hS f2_0 f2_1 f2_2 f2_3 f2_4 f2_5 f2_6 f2_7 g2_0 g2_1 g2_2 g2_3 g2_4 g2_5 g2_6 g2_7 hq2 z2_1 z2_2
  have z3_1 := block_lt_of_cell f3_0
  have z3_2 := block_lt_of_cell f3_4
  go_wp2_with fail
  refine (cross_any a b c d a b c d x' y' r' h' a' b' c' d' p q s t _ (HS.out.below hq3) (norm_idem HN.out) HN2.out HB.out).mono ?_
  rintro e w4 ⟨rfl, hb⟩
  have hq4 : Below w.heap.size w w4 := q_step hq3 hb
  have f4_0 := cell_below hb f3_0
  have f4_1 := cell_below hb f3_1
  have f4_2 := cell_below hb f3_2
  have f4_3 := cell_below hb f3_3
  have f4_4 := cell_below hb f3_4
  have f4_5 := cell_below hb f3_5
  have f4_6 := cell_below hb f3_6
  have f4_7 := cell_below hb f3_7
  have g4_0 := frozen_below hb f3_0 g3_0
  have g4_1 := frozen_below hb f3_1 g3_1
  have g4_2 := frozen_below hb f3_2 g3_2
  have g4_3 := frozen_below hb f3_3 g3_3
  have g4_4 := frozen_below hb f3_4 g3_4
  have g4_5 := frozen_below hb f3_5 g3_5
  have g4_6 := frozen_below hb f3_6 g3_6
  have g4_7 := frozen_below hb f3_7 g3_7
  clear hb f3_0 f3_1 f3_2 f3_3 f3_4 f3_5 f3_6 f3_7 g3_0 g3_1 g3_2 g3_3 g3_4 g3_5 g3_6 g3_7 hq3 z3_1 z3_2
  have z4_1 := block_lt_of_cell f4_0
  have z4_2 := block_lt_of_cell f4_4
  go_wp2_with (first | (with_reducible refine at_load 23 (.global 0) ?_; refine wpList_load_cells rfl 23 _ rfl 0 rfl noneCells _ (by first | exact (HS.out.below hq4) | exact RowAt.alloc (HS.out.below hq4) _) Tryd.underlying23 rfl sizeRect ?_) | (with_reducible refine at_bin .eql 23 ?_; first | refine wpList_eqAgg rfl .eql 23 _ _ _ rfl _ _ rfl rfl eqgRect (rect_eqlz HZ.out _) ?_ | refine wpList_eqAgg rfl .eql 23 _ _ _ rfl _ _ rfl rfl eqgRect (rect_eqlz HZ2.out _) ?_))
  go_returns
  refine ⟨_, rfl, ?_, by (repeat' (first | with_reducible exact Below.refl _ _ | with_reducible assumption | with_reducible refine q_alloc ?_ _ | with_reducible refine q_drew ?_ | with_reducible refine q_drewN _ ?_ | with_reducible refine q_setCell ?_ ?_ _ | (left; simp; done) | (right; simp; done) | (right; dsimp only; omega) | (left; dsimp only; omega)))⟩
  exact own_lit1 _ _ (w4.heap.size + 1) _ _ _ _ (by have := hq4.size; simp; omega) (by simp)
end Go.Proofs.YtlofhbeifgaoeaaDoor
