import Derived.Test.YtamcgdepipebeaaDoorGrav3
namespace Go.Proofs.YtamcgdepipebeaaDoor
open Go Go.RowKit

/-- What the program's Shift tells of these, whatever the world. -/
def ShiftIs (g x y r h x' y' r' h' px py : Int) (ok : Bool) : Prop :=
  ∀ W : World, RowAt 1 noneCells W → Calls Tryd.prog 10 #[i6 g, rectV x y r h, rectV x' y' r' h'] W fun e w' => e = .returned (.tuple #[.agg #[i6 px, i6 py], .bool ok]) ∧ Below W.heap.size W w'

def kx0 (p : Int) : Int := if 0 < p then p else 0
def kx1 (p n m : Int) : Int := if p + n < m then p + n else m
/-- What of a window is kept, as Kept tells it. -/
def keptV (px py r h r' h' : Int) : Value :=
  if kx1 px r r' ≤ kx0 px ∨ kx1 py h h' ≤ kx0 py then rectV 0 0 0 0 else rectV (kx0 px) (kx0 py) (kx1 px r r' - kx0 px) (kx1 py h h' - kx0 py)

theorem keptV_none {px py r h r' h' x0 x1 y0 y1 : Int} (a : kx0 px = x0) (b : kx1 px r r' = x1) (c : kx0 py = y0) (d : kx1 py h h' = y1) (t : x1 ≤ x0 ∨ y1 ≤ y0) : keptV px py r h r' h' = rectV 0 0 0 0 := by
  subst a b c d; exact if_pos t
theorem keptV_some {px py r h r' h' x0 x1 y0 y1 : Int} (a : kx0 px = x0) (b : kx1 px r r' = x1) (c : kx0 py = y0) (d : kx1 py h h' = y1) (t : ¬ (x1 ≤ x0 ∨ y1 ≤ y0)) : keptV px py r h r' h' = rectV x0 y0 (x1 - x0) (y1 - y0) := by
  subst a b c d; exact if_neg t
theorem ret_kept {p q : Value} {b : Bool} {a : Value} (h : q = p) : Ending.returned (.tuple #[a, p, .bool b]) = .returned (.tuple #[a, q, .bool b]) := by rw [h]

set_option maxHeartbeats 2000000 in
theorem kept_ok (g x y r h x' y' r' h' px py : Int) (w : World) (hs : RowAt 1 noneCells w) (H : ShiftIs g x y r h x' y' r' h' px py true)
    (br : 0 ≤ r ∧ r ≤ 4000000) (bh : 0 ≤ h ∧ h ≤ 4000000) (br' : 0 ≤ r' ∧ r' ≤ 4000000) (bh' : 0 ≤ h' ∧ h' ≤ 4000000) (bx : -8000000 ≤ px ∧ px ≤ 8000000) (by_ : -8000000 ≤ py ∧ py ≤ 8000000) :
    Calls Tryd.prog 12 #[i6 g, rectV x y r h, rectV x' y' r' h'] w fun e w' => e = .returned (.tuple #[.agg #[i6 px, i6 py], keptV px py r h r' h', .bool true]) ∧ Below w.heap.size w w' := by
  have HS := Lib.hid hs
  have HH := Lib.hid H
  clear hs H
  go_enter Tryd.func12, Tryd.ntmps12
  go_wp2_with fail
  refine (HH.out _ ((((HS.out.alloc _).alloc _).alloc _).alloc _)).mono ?_
  rintro e w1 ⟨rfl, hb1⟩
  have hq := q_step (a := w) (by (repeat' (first | with_reducible exact Below.refl _ _ | with_reducible assumption | with_reducible refine q_alloc ?_ _ | with_reducible refine q_drew ?_ | with_reducible refine q_drewN _ ?_ | with_reducible refine q_setCell ?_ ?_ _ | (left; simp; done) | (right; simp; done) | (right; dsimp only; omega) | (left; dsimp only; omega)))) hb1
  have c0 : w1.cell? ⟨w.heap.size, 0, none⟩ = some (i6 x) := (hb1.cell (by simp; try omega)).trans (by go_cell)
  have c1 : w1.cell? ⟨w.heap.size, 1, none⟩ = some (i6 y) := (hb1.cell (by simp; try omega)).trans (by go_cell)
  have c2 : w1.cell? ⟨w.heap.size, 2, none⟩ = some (i6 r) := (hb1.cell (by simp; try omega)).trans (by go_cell)
  have c3 : w1.cell? ⟨w.heap.size, 3, none⟩ = some (i6 h) := (hb1.cell (by simp; try omega)).trans (by go_cell)
  have c4 : w1.cell? ⟨w.heap.size + 1, 0, none⟩ = some (i6 x') := (hb1.cell (by simp; try omega)).trans (by go_cell)
  have c5 : w1.cell? ⟨w.heap.size + 1, 1, none⟩ = some (i6 y') := (hb1.cell (by simp; try omega)).trans (by go_cell)
  have c6 : w1.cell? ⟨w.heap.size + 1, 2, none⟩ = some (i6 r') := (hb1.cell (by simp; try omega)).trans (by go_cell)
  have c7 : w1.cell? ⟨w.heap.size + 1, 3, none⟩ = some (i6 h') := (hb1.cell (by simp; try omega)).trans (by go_cell)
  have c8 : w1.cell? ⟨w.heap.size + 1 + 1, 0, none⟩ = some (i6 0) := (hb1.cell (by simp; try omega)).trans (by go_cell)
  have c9 : w1.cell? ⟨w.heap.size + 1 + 1, 1, none⟩ = some (i6 0) := (hb1.cell (by simp; try omega)).trans (by go_cell)
  have c10 : w1.cell? ⟨w.heap.size + 1 + 1 + 1, 0, none⟩ = some (i6 0) := (hb1.cell (by simp; try omega)).trans (by go_cell)
  have c11 : w1.cell? ⟨w.heap.size + 1 + 1 + 1, 1, none⟩ = some (i6 0) := (hb1.cell (by simp; try omega)).trans (by go_cell)
  have c12 : w1.cell? ⟨w.heap.size + 1 + 1 + 1, 2, none⟩ = some (i6 0) := (hb1.cell (by simp; try omega)).trans (by go_cell)
  have c13 : w1.cell? ⟨w.heap.size + 1 + 1 + 1, 3, none⟩ = some (i6 0) := (hb1.cell (by simp; try omega)).trans (by go_cell)
  have cf0 : w1.frozen? ⟨w.heap.size + 1 + 1, 0, none⟩ = false := (hb1.frozen (by simp; try omega)).trans (by go_cell)
  have cf1 : w1.frozen? ⟨w.heap.size + 1 + 1, 1, none⟩ = false := (hb1.frozen (by simp; try omega)).trans (by go_cell)
  have cf2 : w1.frozen? ⟨w.heap.size + 1 + 1 + 1, 0, none⟩ = false := (hb1.frozen (by simp; try omega)).trans (by go_cell)
  have cf3 : w1.frozen? ⟨w.heap.size + 1 + 1 + 1, 1, none⟩ = false := (hb1.frozen (by simp; try omega)).trans (by go_cell)
  have cf4 : w1.frozen? ⟨w.heap.size + 1 + 1 + 1, 2, none⟩ = false := (hb1.frozen (by simp; try omega)).trans (by go_cell)
  have cf5 : w1.frozen? ⟨w.heap.size + 1 + 1 + 1, 3, none⟩ = false := (hb1.frozen (by simp; try omega)).trans (by go_cell)
  have hz : w.heap.size + 3 < w1.heap.size := block_lt_of_cell c10
  clear hb1
  have z1 : w.heap.size < w1.heap.size := by omega
  have z2 : w.heap.size + 1 < w1.heap.size := by omega
  have z3 : w.heap.size + 1 + 1 < w1.heap.size := by omega
  have z4 : w.heap.size + 1 + 1 + 1 < w1.heap.size := by omega
  have z5 : ¬ w.heap.size = w1.heap.size := by omega
  have z6 : ¬ w.heap.size + 1 = w1.heap.size := by omega
  have wr1 : IntKind.i64.wrap (px + r) = px + r := IntWalk.i64_in _ (by omega)
  have wr2 : IntKind.i64.wrap (py + h) = py + h := IntWalk.i64_in _ (by omega)
  have z7 : ¬ w.heap.size + 1 + 1 = w1.heap.size := by omega
  have z8 : ¬ w.heap.size + 1 + 1 + 1 = w1.heap.size := by omega
  go_wp2
  go_quiet (fail)
  generalize hx0 : (if 0 < px then px else 0) = x0
  generalize hx1 : (if px + r < r' then px + r else r') = x1
  have HX0 := Lib.hid (show kx0 px = x0 from hx0)
  have HX1 := Lib.hid (show kx1 px r r' = x1 from hx1)
  have bx0 : -100 ≤ x0 ∧ x0 ≤ 8000000 := by rw [← hx0]; split <;> omega
  have bx1 : -9000000 ≤ x1 ∧ x1 ≤ 16000000 := by rw [← hx1]; split <;> omega
  clear hx0 hx1
  go_wp2
  go_quiet (fail)
  generalize hx0 : (if 0 < py then py else 0) = y0
  generalize hx1 : (if py + h < h' then py + h else h') = y1
  have HY0 := Lib.hid (show kx0 py = y0 from hx0)
  have HY1 := Lib.hid (show kx1 py h h' = y1 from hx1)
  have by0 : -100 ≤ y0 ∧ y0 ≤ 8000000 := by rw [← hx0]; split <;> omega
  have by1 : -9000000 ≤ y1 ∧ y1 ≤ 16000000 := by rw [← hx1]; split <;> omega
  clear hx0 hx1
  by_cases t1 : x1 ≤ x0
  · go_wp2
    refine bodyPost_ret (v := .tuple #[.agg #[i6 px, i6 py], rectV 0 0 0 0, .bool true]) (by simp [results, Tryd.results12, go_sem, c8, c9, c10, c11, c12, c13, z3, z4]) rfl ⟨?_, ?_⟩
    · exact ret_kept (keptV_none HX0.out HX1.out HY0.out HY1.out (Or.inl t1))
    · (repeat' (first | with_reducible exact Below.refl _ _ | with_reducible assumption | with_reducible refine q_alloc ?_ _ | with_reducible refine q_drew ?_ | with_reducible refine q_drewN _ ?_ | with_reducible refine q_setCell ?_ ?_ _ | (left; simp; done) | (right; simp; done) | (right; dsimp only; omega) | (left; dsimp only; omega)))
  · by_cases t2 : y1 ≤ y0
    · go_wp2
      refine bodyPost_ret (v := .tuple #[.agg #[i6 px, i6 py], rectV 0 0 0 0, .bool true]) (by simp [results, Tryd.results12, go_sem, c8, c9, c10, c11, c12, c13, z3, z4]) rfl ⟨?_, ?_⟩
      · exact ret_kept (keptV_none HX0.out HX1.out HY0.out HY1.out (Or.inr t2))
      · (repeat' (first | with_reducible exact Below.refl _ _ | with_reducible assumption | with_reducible refine q_alloc ?_ _ | with_reducible refine q_drew ?_ | with_reducible refine q_drewN _ ?_ | with_reducible refine q_setCell ?_ ?_ _ | (left; simp; done) | (right; simp; done) | (right; dsimp only; omega) | (left; dsimp only; omega)))
    · go_wp2
      refine bodyPost_ret (v := .tuple #[.agg #[i6 px, i6 py], rectV x0 y0 (x1 - x0) (y1 - y0), .bool true]) (by simp [results, Tryd.results12, go_sem, c8, c9, c10, c11, c12, c13, z3, z4]) rfl ⟨?_, ?_⟩
      · exact ret_kept (keptV_some HX0.out HX1.out HY0.out HY1.out (by omega))
      · (repeat' (first | with_reducible exact Below.refl _ _ | with_reducible assumption | with_reducible refine q_alloc ?_ _ | with_reducible refine q_drew ?_ | with_reducible refine q_drewN _ ?_ | with_reducible refine q_setCell ?_ ?_ _ | (left; simp; done) | (right; simp; done) | (right; dsimp only; omega) | (left; dsimp only; omega)))
end Go.Proofs.YtamcgdepipebeaaDoor
