import Derived.Test.YtamcgdepipebeaaDoorGrav4
import Derived.Deep.Cut
import Derived.Deep.DeepCutAuto
namespace Go.Proofs.YtamcgdepipebeaaDoor
open Go Go.RowKit

set_option maxHeartbeats 2000000 in
theorem kept_no (g x y r h x' y' r' h' : Int) (w : World) (hs : RowAt 1 noneCells w) (H : ShiftIs g x y r h x' y' r' h' 0 0 false) :
    Calls Tryd.prog 12 #[i6 g, rectV x y r h, rectV x' y' r' h'] w fun e w' => e = .returned (.tuple #[.agg #[i6 0, i6 0], rectV 0 0 0 0, .bool false]) ∧ Below w.heap.size w w' := by
  have HS := Lib.hid hs
  have HH := Lib.hid H
  clear hs H
  go_enter Tryd.func12, Tryd.ntmps12
  go_wp2_with fail
  refine (HH.out _ ((((HS.out.alloc _).alloc _).alloc _).alloc _)).mono ?_
  rintro e w1 ⟨rfl, hb1⟩
  have hq := q_step (a := w) (by (repeat' (first | with_reducible exact Below.refl _ _ | with_reducible assumption | with_reducible refine q_alloc ?_ _ | with_reducible refine q_drew ?_ | with_reducible refine q_drewN _ ?_ | with_reducible refine q_setCell ?_ ?_ _ | (left; simp; done) | (right; simp; done) | (right; dsimp only; omega) | (left; dsimp only; omega)))) hb1
  have c0 : w1.cell? ⟨w.heap.size, 0, none⟩ = some (i6 x) := (hb1.cell (by simp; try omega)).trans (by go_cell)
  have c1 : w1.cell? ⟨w.heap.size, 1, none⟩ = some (i6 y) := (hb1.cell (by simp; try omega)).trans (by go_cell)
  have c2 : w1.cell? ⟨w.heap.size, 2, none⟩ = some (i6 r) := (hb1.cell (by simp; try omega)).trans (by go_cell)
  have c3 : w1.cell? ⟨w.heap.size, 3, none⟩ = some (i6 h) := (hb1.cell (by simp; try omega)).trans (by go_cell)
  have c4 : w1.cell? ⟨w.heap.size + 1, 0, none⟩ = some (i6 x') := (hb1.cell (by simp; try omega)).trans (by go_cell)
  have c5 : w1.cell? ⟨w.heap.size + 1, 1, none⟩ = some (i6 y') := (hb1.cell (by simp; try omega)).trans (by go_cell)
  have c6 : w1.cell? ⟨w.heap.size + 1, 2, none⟩ = some (i6 r') := (hb1.cell (by simp; try omega)).trans (by go_cell)
  have c7 : w1.cell? ⟨w.heap.size + 1, 3, none⟩ = some (i6 h') := (hb1.cell (by simp; try omega)).trans (by go_cell)
  have c8 : w1.cell? ⟨w.heap.size + 1 + 1, 0, none⟩ = some (i6 0) := (hb1.cell (by simp; try omega)).trans (by go_cell)
  have c9 : w1.cell? ⟨w.heap.size + 1 + 1, 1, none⟩ = some (i6 0) := (hb1.cell (by simp; try omega)).trans (by go_cell)
  have c10 : w1.cell? ⟨w.heap.size + 1 + 1 + 1, 0, none⟩ = some (i6 0) := (hb1.cell (by simp; try omega)).trans (by go_cell)
  have c11 : w1.cell? ⟨w.heap.size + 1 + 1 + 1, 1, none⟩ = some (i6 0) := (hb1.cell (by simp; try omega)).trans (by go_cell)
  have c12 : w1.cell? ⟨w.heap.size + 1 + 1 + 1, 2, none⟩ = some (i6 0) := (hb1.cell (by simp; try omega)).trans (by go_cell)
  have c13 : w1.cell? ⟨w.heap.size + 1 + 1 + 1, 3, none⟩ = some (i6 0) := (hb1.cell (by simp; try omega)).trans (by go_cell)
  have cf0 : w1.frozen? ⟨w.heap.size + 1 + 1, 0, none⟩ = false := (hb1.frozen (by simp; try omega)).trans (by go_cell)
  have cf1 : w1.frozen? ⟨w.heap.size + 1 + 1, 1, none⟩ = false := (hb1.frozen (by simp; try omega)).trans (by go_cell)
  have cf2 : w1.frozen? ⟨w.heap.size + 1 + 1 + 1, 0, none⟩ = false := (hb1.frozen (by simp; try omega)).trans (by go_cell)
  have cf3 : w1.frozen? ⟨w.heap.size + 1 + 1 + 1, 1, none⟩ = false := (hb1.frozen (by simp; try omega)).trans (by go_cell)
  have cf4 : w1.frozen? ⟨w.heap.size + 1 + 1 + 1, 2, none⟩ = false := (hb1.frozen (by simp; try omega)).trans (by go_cell)
  have cf5 : w1.frozen? ⟨w.heap.size + 1 + 1 + 1, 3, none⟩ = false := (hb1.frozen (by simp; try omega)).trans (by go_cell)
  have hz : w.heap.size + 3 < w1.heap.size := block_lt_of_cell c10
  clear hb1
  have z1 : w.heap.size < w1.heap.size := by omega
  have z2 : w.heap.size + 1 < w1.heap.size := by omega
  have z3 : w.heap.size + 1 + 1 < w1.heap.size := by omega
  have z4 : w.heap.size + 1 + 1 + 1 < w1.heap.size := by omega
  have z5 : ¬ w.heap.size = w1.heap.size := by omega
  have z6 : ¬ w.heap.size + 1 = w1.heap.size := by omega
  have z7 : ¬ w.heap.size + 1 + 1 = w1.heap.size := by omega
  have z8 : ¬ w.heap.size + 1 + 1 + 1 = w1.heap.size := by omega
  go_upto_region 3 with fail
  generalize hW : w1.alloc (Obj.cells #[Value.int IntKind.i64 0, Value.int IntKind.i64 0] 26) = W5
  have e0 : W5.cell? ⟨w.heap.size + 1 + 1, 0, none⟩ = some (i6 0) := by rw [← hW]; exact cell_old c8
  have e1 : W5.cell? ⟨w.heap.size + 1 + 1, 1, none⟩ = some (i6 0) := by rw [← hW]; exact cell_old c9
  have e2 : W5.cell? ⟨w.heap.size + 1 + 1 + 1, 0, none⟩ = some (i6 0) := by rw [← hW]; exact cell_old c10
  have e3 : W5.cell? ⟨w.heap.size + 1 + 1 + 1, 1, none⟩ = some (i6 0) := by rw [← hW]; exact cell_old c11
  have e4 : W5.cell? ⟨w.heap.size + 1 + 1 + 1, 2, none⟩ = some (i6 0) := by rw [← hW]; exact cell_old c12
  have e5 : W5.cell? ⟨w.heap.size + 1 + 1 + 1, 3, none⟩ = some (i6 0) := by rw [← hW]; exact cell_old c13
  have e6 : W5.cell? ⟨w1.heap.size, 0, none⟩ = some (i6 0) := by rw [← hW]; simp [World.cell?_alloc_new]
  have e7 : W5.cell? ⟨w1.heap.size, 1, none⟩ = some (i6 0) := by rw [← hW]; simp [World.cell?_alloc_new]
  have ef0 : W5.frozen? ⟨w.heap.size + 1 + 1, 0, none⟩ = false := by rw [← hW]; exact frozen_old c8 cf0
  have ef1 : W5.frozen? ⟨w.heap.size + 1 + 1, 1, none⟩ = false := by rw [← hW]; exact frozen_old c9 cf1
  have ef2 : W5.frozen? ⟨w.heap.size + 1 + 1 + 1, 0, none⟩ = false := by rw [← hW]; exact frozen_old c10 cf2
  have ef3 : W5.frozen? ⟨w.heap.size + 1 + 1 + 1, 1, none⟩ = false := by rw [← hW]; exact frozen_old c11 cf3
  have ef4 : W5.frozen? ⟨w.heap.size + 1 + 1 + 1, 2, none⟩ = false := by rw [← hW]; exact frozen_old c12 cf4
  have ef5 : W5.frozen? ⟨w.heap.size + 1 + 1 + 1, 3, none⟩ = false := by rw [← hW]; exact frozen_old c13 cf5
  have hq5 : Below w.heap.size w W5 := by rw [← hW]; (repeat' (first | with_reducible exact Below.refl _ _ | with_reducible assumption | with_reducible refine q_alloc ?_ _ | with_reducible refine q_drew ?_ | with_reducible refine q_drewN _ ?_ | with_reducible refine q_setCell ?_ ?_ _ | (left; simp; done) | (right; simp; done) | (right; dsimp only; omega) | (left; dsimp only; omega)))
  have hz5 : w.heap.size + 1 + 1 + 1 < W5.heap.size := block_lt_of_cell e2
  clear hW hq hz z1 z2 z3 z4 z5 z6 z7 z8
  clear c0 c1 c2 c3 c4 c5 c6 c7 c8 c9 c10 c11 c12 c13 cf0 cf1 cf2 cf3 cf4 cf5
  go_wp2
  refine bodyPost_ret (v := .tuple #[.agg #[i6 0, i6 0], rectV 0 0 0 0, .bool false]) (by simp [results, Tryd.results12, go_sem, e0, e1, e2, e3, e4, e5]) rfl ⟨rfl, ?_⟩
  (repeat' (first | with_reducible exact Below.refl _ _ | with_reducible assumption | with_reducible refine q_alloc ?_ _ | with_reducible refine q_drew ?_ | with_reducible refine q_drewN _ ?_ | with_reducible refine q_setCell ?_ ?_ _ | (left; simp; done) | (right; simp; done) | (right; dsimp only; omega) | (left; dsimp only; omega)))
end Go.Proofs.YtamcgdepipebeaaDoor
