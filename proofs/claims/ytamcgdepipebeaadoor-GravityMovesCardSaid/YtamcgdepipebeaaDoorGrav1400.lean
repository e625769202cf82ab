import Derived.Test.YtamcgdepipebeaaDoorGrav13
namespace Go.Proofs.YtamcgdepipebeaaDoor
open Go Go.RowKit
set_option maxHeartbeats 12000000 in
theorem rkept_00 (g x y r h x' y' r' h' px py : Int) (w : World) (qx : ¬ px < 0) (qy : ¬ py < 0) (H : RShiftIs g x y r h x' y' r' h' px py true)
    (br : 0 ≤ r ∧ r ≤ 4000000) (bh : 0 ≤ h ∧ h ≤ 4000000) (br' : 0 ≤ r' ∧ r' ≤ 4000000) (bh' : 0 ≤ h' ∧ h' ≤ 4000000) (bx : -8000000 ≤ px ∧ px ≤ 8000000) (by_ : -8000000 ≤ py ∧ py ≤ 8000000) :
    Calls Tryd.prog 13 #[i6 g, rectV x y r h, rectV x' y' r' h'] w fun e w' => e = .returned (.tuple #[.agg #[i6 px, i6 py], keptV px py r h r' h', .bool true]) ∧ Below w.heap.size w w' := by
  have HH := Lib.hid H
  clear H
  go_enter Tryd.func13, Tryd.ntmps13
  go_wp2_with fail
  refine (HH.out _).mono ?_
  rintro e w1 ⟨rfl, hb1⟩
  have hq := q_step (a := w) (by (repeat' (first | with_reducible exact Below.refl _ _ | with_reducible assumption | with_reducible refine q_alloc ?_ _ | with_reducible refine q_drew ?_ | with_reducible refine q_drewN _ ?_ | with_reducible refine q_setCell ?_ ?_ _ | (left; simp; done) | (right; simp; done) | (right; dsimp only; omega) | (left; dsimp only; omega)))) hb1
  have c0 : w1.cell? ⟨w.heap.size, 0, none⟩ = some (i6 x) := (hb1.cell (by simp; try omega)).trans (by go_cell)
  have c1 : w1.cell? ⟨w.heap.size, 1, none⟩ = some (i6 y) := (hb1.cell (by simp; try omega)).trans (by go_cell)
  have c2 : w1.cell? ⟨w.heap.size, 2, none⟩ = some (i6 r) := (hb1.cell (by simp; try omega)).trans (by go_cell)
  have c3 : w1.cell? ⟨w.heap.size, 3, none⟩ = some (i6 h) := (hb1.cell (by simp; try omega)).trans (by go_cell)
  have c4 : w1.cell? ⟨w.heap.size + 1, 0, none⟩ = some (i6 x') := (hb1.cell (by simp; try omega)).trans (by go_cell)
  have c5 : w1.cell? ⟨w.heap.size + 1, 1, none⟩ = some (i6 y') := (hb1.cell (by simp; try omega)).trans (by go_cell)
  have c6 : w1.cell? ⟨w.heap.size + 1, 2, none⟩ = some (i6 r') := (hb1.cell (by simp; try omega)).trans (by go_cell)
  have c7 : w1.cell? ⟨w.heap.size + 1, 3, none⟩ = some (i6 h') := (hb1.cell (by simp; try omega)).trans (by go_cell)
  have c8 : w1.cell? ⟨w.heap.size + 1 + 1, 0, none⟩ = some (i6 0) := (hb1.cell (by simp; try omega)).trans (by go_cell)
  have c9 : w1.cell? ⟨w.heap.size + 1 + 1, 1, none⟩ = some (i6 0) := (hb1.cell (by simp; try omega)).trans (by go_cell)
  have c10 : w1.cell? ⟨w.heap.size + 1 + 1 + 1, 0, none⟩ = some (i6 0) := (hb1.cell (by simp; try omega)).trans (by go_cell)
  have c11 : w1.cell? ⟨w.heap.size + 1 + 1 + 1, 1, none⟩ = some (i6 0) := (hb1.cell (by simp; try omega)).trans (by go_cell)
  have c12 : w1.cell? ⟨w.heap.size + 1 + 1 + 1, 2, none⟩ = some (i6 0) := (hb1.cell (by simp; try omega)).trans (by go_cell)
  have c13 : w1.cell? ⟨w.heap.size + 1 + 1 + 1, 3, none⟩ = some (i6 0) := (hb1.cell (by simp; try omega)).trans (by go_cell)
  have cf0 : w1.frozen? ⟨w.heap.size + 1 + 1, 0, none⟩ = false := (hb1.frozen (by simp; try omega)).trans (by go_cell)
  have cf1 : w1.frozen? ⟨w.heap.size + 1 + 1, 1, none⟩ = false := (hb1.frozen (by simp; try omega)).trans (by go_cell)
  have cf2 : w1.frozen? ⟨w.heap.size + 1 + 1 + 1, 0, none⟩ = false := (hb1.frozen (by simp; try omega)).trans (by go_cell)
  have cf3 : w1.frozen? ⟨w.heap.size + 1 + 1 + 1, 1, none⟩ = false := (hb1.frozen (by simp; try omega)).trans (by go_cell)
  have cf4 : w1.frozen? ⟨w.heap.size + 1 + 1 + 1, 2, none⟩ = false := (hb1.frozen (by simp; try omega)).trans (by go_cell)
  have cf5 : w1.frozen? ⟨w.heap.size + 1 + 1 + 1, 3, none⟩ = false := (hb1.frozen (by simp; try omega)).trans (by go_cell)
  have hz : w.heap.size + 3 < w1.heap.size := block_lt_of_cell c10
  clear hb1
  have z1 : w.heap.size < w1.heap.size := by omega
  have z2 : w.heap.size + 1 < w1.heap.size := by omega
  have z3 : w.heap.size + 1 + 1 < w1.heap.size := by omega
  have z4 : w.heap.size + 1 + 1 + 1 < w1.heap.size := by omega
  have z5 : ¬ w.heap.size = w1.heap.size := by omega
  have z6 : ¬ w.heap.size + 1 = w1.heap.size := by omega
  have z7 : ¬ w.heap.size + 1 + 1 = w1.heap.size := by omega
  have z8 : ¬ w.heap.size + 1 + 1 + 1 = w1.heap.size := by omega
  have wr1 : IntKind.i64.wrap (px + r) = px + r := IntWalk.i64_in _ (by omega)
  have wr2 : IntKind.i64.wrap (py + h) = py + h := IntWalk.i64_in _ (by omega)
  have z7 : ¬ w.heap.size + 1 + 1 = w1.heap.size := by omega
  have z8 : ¬ w.heap.size + 1 + 1 + 1 = w1.heap.size := by omega
  go_wp2
  go_quiet (fail)
  generalize hW : (w1.alloc (Obj.cells #[Value.int IntKind.i64 px, Value.int IntKind.i64 py] 26)).drewN nq = W5
  have e0 : W5.cell? ⟨w.heap.size + 1 + 1, 0, none⟩ = some (i6 0) := by rw [← hW]; exact cell_old c8
  have e1 : W5.cell? ⟨w.heap.size + 1 + 1, 1, none⟩ = some (i6 0) := by rw [← hW]; exact cell_old c9
  have e2 : W5.cell? ⟨w.heap.size + 1 + 1 + 1, 0, none⟩ = some (i6 0) := by rw [← hW]; exact cell_old c10
  have e3 : W5.cell? ⟨w.heap.size + 1 + 1 + 1, 1, none⟩ = some (i6 0) := by rw [← hW]; exact cell_old c11
  have e4 : W5.cell? ⟨w.heap.size + 1 + 1 + 1, 2, none⟩ = some (i6 0) := by rw [← hW]; exact cell_old c12
  have e5 : W5.cell? ⟨w.heap.size + 1 + 1 + 1, 3, none⟩ = some (i6 0) := by rw [← hW]; exact cell_old c13
  have e6 : W5.cell? ⟨w.heap.size, 0, none⟩ = some (i6 x) := by rw [← hW]; exact cell_old c0
  have e7 : W5.cell? ⟨w.heap.size, 1, none⟩ = some (i6 y) := by rw [← hW]; exact cell_old c1
  have e8 : W5.cell? ⟨w.heap.size, 2, none⟩ = some (i6 r) := by rw [← hW]; exact cell_old c2
  have e9 : W5.cell? ⟨w.heap.size, 3, none⟩ = some (i6 h) := by rw [← hW]; exact cell_old c3
  have e10 : W5.cell? ⟨w.heap.size + 1, 0, none⟩ = some (i6 x') := by rw [← hW]; exact cell_old c4
  have e11 : W5.cell? ⟨w.heap.size + 1, 1, none⟩ = some (i6 y') := by rw [← hW]; exact cell_old c5
  have e12 : W5.cell? ⟨w.heap.size + 1, 2, none⟩ = some (i6 r') := by rw [← hW]; exact cell_old c6
  have e13 : W5.cell? ⟨w.heap.size + 1, 3, none⟩ = some (i6 h') := by rw [← hW]; exact cell_old c7
  have ef0 : W5.frozen? ⟨w.heap.size + 1 + 1, 0, none⟩ = false := by rw [← hW]; exact frozen_old c8 cf0
  have ef1 : W5.frozen? ⟨w.heap.size + 1 + 1, 1, none⟩ = false := by rw [← hW]; exact frozen_old c9 cf1
  have ef2 : W5.frozen? ⟨w.heap.size + 1 + 1 + 1, 0, none⟩ = false := by rw [← hW]; exact frozen_old c10 cf2
  have ef3 : W5.frozen? ⟨w.heap.size + 1 + 1 + 1, 1, none⟩ = false := by rw [← hW]; exact frozen_old c11 cf3
  have ef4 : W5.frozen? ⟨w.heap.size + 1 + 1 + 1, 2, none⟩ = false := by rw [← hW]; exact frozen_old c12 cf4
  have ef5 : W5.frozen? ⟨w.heap.size + 1 + 1 + 1, 3, none⟩ = false := by rw [← hW]; exact frozen_old c13 cf5
  have e20 : W5.cell? ⟨w1.heap.size, 0, none⟩ = some (i6 px) := by rw [← hW]; show (w1.alloc (Obj.cells #[Value.int IntKind.i64 px, Value.int IntKind.i64 py] 26)).cell? _ = _; simp [World.cell?_alloc_new]
  have e21 : W5.cell? ⟨w1.heap.size, 1, none⟩ = some (i6 py) := by rw [← hW]; show (w1.alloc (Obj.cells #[Value.int IntKind.i64 px, Value.int IntKind.i64 py] 26)).cell? _ = _; simp [World.cell?_alloc_new]
  have hq5 : Below w.heap.size w W5 := by rw [← hW]; (repeat' (first | with_reducible exact Below.refl _ _ | with_reducible assumption | with_reducible refine q_alloc ?_ _ | with_reducible refine q_drew ?_ | with_reducible refine q_drewN _ ?_ | with_reducible refine q_setCell ?_ ?_ _ | (left; simp; done) | (right; simp; done) | (right; dsimp only; omega) | (left; dsimp only; omega)))
  have hz5 : w.heap.size + 1 + 1 + 1 < W5.heap.size := block_lt_of_cell e2
  clear hW hq hz z1 z2 z3 z4 z5 z6 z7 z8
  clear c0 c1 c2 c3 c4 c5 c6 c7 c8 c9 c10 c11 c12 c13 cf0 cf1 cf2 cf3 cf4 cf5
  have hkx : kx0 px = px := by unfold kx0; split <;> omega
  have hky : kx0 py = py := by unfold kx0; split <;> omega
  have Hx0 := Lib.hid hkx
  have Hy0 := Lib.hid hky
  clear hkx hky
  clear wr1 wr2
  go_upto_if 41 with fail
  have hk1 : kx1 px r r' = if px + r < r' then px + r else r' := rfl
  have hk2 : kx1 py h h' = if py + h < h' then py + h else h' := rfl
  have bs1 : -9000000 ≤ px + r ∧ px + r ≤ 16000000 := by omega
  have bs2 : -9000000 ≤ py + h ∧ py + h ≤ 16000000 := by omega
  generalize px + r = sx at hk1 bs1 ⊢
  generalize py + h = sy at hk2 bs2 ⊢
  have HK1 := Lib.hid hk1
  have HK2 := Lib.hid hk2
  clear hk1 hk2
  by_cases v1 : r' < sx
  · skip
    have hx1 : kx1 px r r' = r' := by rw [HK1.out]; split <;> omega
    have Hx1 := Lib.hid hx1
    clear hx1 HK1
    by_cases v2 : h' < sy
    · skip
      have hy1 : kx1 py h h' = h' := by rw [HK2.out]; split <;> omega
      have Hy1 := Lib.hid hy1
      clear hy1 HK2
      by_cases u1 : r' ≤ px
      · skip
        have w1' : IntKind.i64.wrap (r' - px) = r' - px := by first | exact IntWalk.i64_in _ (by omega) | (rw [Int.sub_zero]; exact IntWalk.i64_in _ (by omega))
        have w2' : IntKind.i64.wrap (h' - py) = h' - py := by first | exact IntWalk.i64_in _ (by omega) | (rw [Int.sub_zero]; exact IntWalk.i64_in _ (by omega))
        go_wp2
        refine bodyPost_ret (v := .tuple #[.agg #[i6 px, i6 py], rectV 0 0 0 0, .bool true]) (by simp [results, Tryd.results13, go_sem, e0, e1, e2, e3, e4, e5]) rfl ⟨?_, ?_⟩
        · exact ret_kept (keptV_none Hx0.out Hx1.out Hy0.out Hy1.out (Or.inl u1))
        · (repeat' (first | with_reducible exact Below.refl _ _ | with_reducible assumption | with_reducible refine q_alloc ?_ _ | with_reducible refine q_drew ?_ | with_reducible refine q_drewN _ ?_ | with_reducible refine q_setCell ?_ ?_ _ | (left; simp; done) | (right; simp; done) | (right; dsimp only; omega) | (left; dsimp only; omega)))
      · by_cases u2 : h' ≤ py
        · skip
          have w1' : IntKind.i64.wrap (r' - px) = r' - px := by first | exact IntWalk.i64_in _ (by omega) | (rw [Int.sub_zero]; exact IntWalk.i64_in _ (by omega))
          have w2' : IntKind.i64.wrap (h' - py) = h' - py := by first | exact IntWalk.i64_in _ (by omega) | (rw [Int.sub_zero]; exact IntWalk.i64_in _ (by omega))
          go_wp2
          refine bodyPost_ret (v := .tuple #[.agg #[i6 px, i6 py], rectV 0 0 0 0, .bool true]) (by simp [results, Tryd.results13, go_sem, e0, e1, e2, e3, e4, e5]) rfl ⟨?_, ?_⟩
          · exact ret_kept (keptV_none Hx0.out Hx1.out Hy0.out Hy1.out (Or.inr u2))
          · (repeat' (first | with_reducible exact Below.refl _ _ | with_reducible assumption | with_reducible refine q_alloc ?_ _ | with_reducible refine q_drew ?_ | with_reducible refine q_drewN _ ?_ | with_reducible refine q_setCell ?_ ?_ _ | (left; simp; done) | (right; simp; done) | (right; dsimp only; omega) | (left; dsimp only; omega)))
        · skip
          have w1' : IntKind.i64.wrap (r' - px) = r' - px := by first | exact IntWalk.i64_in _ (by omega) | (rw [Int.sub_zero]; exact IntWalk.i64_in _ (by omega))
          have w2' : IntKind.i64.wrap (h' - py) = h' - py := by first | exact IntWalk.i64_in _ (by omega) | (rw [Int.sub_zero]; exact IntWalk.i64_in _ (by omega))
          go_wp2
          refine bodyPost_ret (v := .tuple #[.agg #[i6 px, i6 py], rectV px py (r' - px) (h' - py), .bool true]) (by simp [results, Tryd.results13, go_sem, e0, e1, e2, e3, e4, e5]) rfl ⟨?_, ?_⟩
          · exact ret_kept ((keptV_some Hx0.out Hx1.out Hy0.out Hy1.out (by omega)).trans (by simp))
          · (repeat' (first | with_reducible exact Below.refl _ _ | with_reducible assumption | with_reducible refine q_alloc ?_ _ | with_reducible refine q_drew ?_ | with_reducible refine q_drewN _ ?_ | with_reducible refine q_setCell ?_ ?_ _ | (left; simp; done) | (right; simp; done) | (right; dsimp only; omega) | (left; dsimp only; omega)))
    · skip
      have hy1 : kx1 py h h' = sy := by rw [HK2.out]; split <;> omega
      have Hy1 := Lib.hid hy1
      clear hy1 HK2
      by_cases u1 : r' ≤ px
      · skip
        have w1' : IntKind.i64.wrap (r' - px) = r' - px := by first | exact IntWalk.i64_in _ (by omega) | (rw [Int.sub_zero]; exact IntWalk.i64_in _ (by omega))
        have w2' : IntKind.i64.wrap (sy - py) = sy - py := by first | exact IntWalk.i64_in _ (by omega) | (rw [Int.sub_zero]; exact IntWalk.i64_in _ (by omega))
        go_wp2
        refine bodyPost_ret (v := .tuple #[.agg #[i6 px, i6 py], rectV 0 0 0 0, .bool true]) (by simp [results, Tryd.results13, go_sem, e0, e1, e2, e3, e4, e5]) rfl ⟨?_, ?_⟩
        · exact ret_kept (keptV_none Hx0.out Hx1.out Hy0.out Hy1.out (Or.inl u1))
        · (repeat' (first | with_reducible exact Below.refl _ _ | with_reducible assumption | with_reducible refine q_alloc ?_ _ | with_reducible refine q_drew ?_ | with_reducible refine q_drewN _ ?_ | with_reducible refine q_setCell ?_ ?_ _ | (left; simp; done) | (right; simp; done) | (right; dsimp only; omega) | (left; dsimp only; omega)))
      · by_cases u2 : sy ≤ py
        · skip
          have w1' : IntKind.i64.wrap (r' - px) = r' - px := by first | exact IntWalk.i64_in _ (by omega) | (rw [Int.sub_zero]; exact IntWalk.i64_in _ (by omega))
          have w2' : IntKind.i64.wrap (sy - py) = sy - py := by first | exact IntWalk.i64_in _ (by omega) | (rw [Int.sub_zero]; exact IntWalk.i64_in _ (by omega))
          go_wp2
          refine bodyPost_ret (v := .tuple #[.agg #[i6 px, i6 py], rectV 0 0 0 0, .bool true]) (by simp [results, Tryd.results13, go_sem, e0, e1, e2, e3, e4, e5]) rfl ⟨?_, ?_⟩
          · exact ret_kept (keptV_none Hx0.out Hx1.out Hy0.out Hy1.out (Or.inr u2))
          · (repeat' (first | with_reducible exact Below.refl _ _ | with_reducible assumption | with_reducible refine q_alloc ?_ _ | with_reducible refine q_drew ?_ | with_reducible refine q_drewN _ ?_ | with_reducible refine q_setCell ?_ ?_ _ | (left; simp; done) | (right; simp; done) | (right; dsimp only; omega) | (left; dsimp only; omega)))
        · skip
          have w1' : IntKind.i64.wrap (r' - px) = r' - px := by first | exact IntWalk.i64_in _ (by omega) | (rw [Int.sub_zero]; exact IntWalk.i64_in _ (by omega))
          have w2' : IntKind.i64.wrap (sy - py) = sy - py := by first | exact IntWalk.i64_in _ (by omega) | (rw [Int.sub_zero]; exact IntWalk.i64_in _ (by omega))
          go_wp2
          refine bodyPost_ret (v := .tuple #[.agg #[i6 px, i6 py], rectV px py (r' - px) (sy - py), .bool true]) (by simp [results, Tryd.results13, go_sem, e0, e1, e2, e3, e4, e5]) rfl ⟨?_, ?_⟩
          · exact ret_kept ((keptV_some Hx0.out Hx1.out Hy0.out Hy1.out (by omega)).trans (by simp))
          · (repeat' (first | with_reducible exact Below.refl _ _ | with_reducible assumption | with_reducible refine q_alloc ?_ _ | with_reducible refine q_drew ?_ | with_reducible refine q_drewN _ ?_ | with_reducible refine q_setCell ?_ ?_ _ | (left; simp; done) | (right; simp; done) | (right; dsimp only; omega) | (left; dsimp only; omega)))
  · skip
    have hx1 : kx1 px r r' = sx := by rw [HK1.out]; split <;> omega
    have Hx1 := Lib.hid hx1
    clear hx1 HK1
    by_cases v2 : h' < sy
    · skip
      have hy1 : kx1 py h h' = h' := by rw [HK2.out]; split <;> omega
      have Hy1 := Lib.hid hy1
      clear hy1 HK2
      by_cases u1 : sx ≤ px
      · skip
        have w1' : IntKind.i64.wrap (sx - px) = sx - px := by first | exact IntWalk.i64_in _ (by omega) | (rw [Int.sub_zero]; exact IntWalk.i64_in _ (by omega))
        have w2' : IntKind.i64.wrap (h' - py) = h' - py := by first | exact IntWalk.i64_in _ (by omega) | (rw [Int.sub_zero]; exact IntWalk.i64_in _ (by omega))
        go_wp2
        refine bodyPost_ret (v := .tuple #[.agg #[i6 px, i6 py], rectV 0 0 0 0, .bool true]) (by simp [results, Tryd.results13, go_sem, e0, e1, e2, e3, e4, e5]) rfl ⟨?_, ?_⟩
        · exact ret_kept (keptV_none Hx0.out Hx1.out Hy0.out Hy1.out (Or.inl u1))
        · (repeat' (first | with_reducible exact Below.refl _ _ | with_reducible assumption | with_reducible refine q_alloc ?_ _ | with_reducible refine q_drew ?_ | with_reducible refine q_drewN _ ?_ | with_reducible refine q_setCell ?_ ?_ _ | (left; simp; done) | (right; simp; done) | (right; dsimp only; omega) | (left; dsimp only; omega)))
      · by_cases u2 : h' ≤ py
        · skip
          have w1' : IntKind.i64.wrap (sx - px) = sx - px := by first | exact IntWalk.i64_in _ (by omega) | (rw [Int.sub_zero]; exact IntWalk.i64_in _ (by omega))
          have w2' : IntKind.i64.wrap (h' - py) = h' - py := by first | exact IntWalk.i64_in _ (by omega) | (rw [Int.sub_zero]; exact IntWalk.i64_in _ (by omega))
          go_wp2
          refine bodyPost_ret (v := .tuple #[.agg #[i6 px, i6 py], rectV 0 0 0 0, .bool true]) (by simp [results, Tryd.results13, go_sem, e0, e1, e2, e3, e4, e5]) rfl ⟨?_, ?_⟩
          · exact ret_kept (keptV_none Hx0.out Hx1.out Hy0.out Hy1.out (Or.inr u2))
          · (repeat' (first | with_reducible exact Below.refl _ _ | with_reducible assumption | with_reducible refine q_alloc ?_ _ | with_reducible refine q_drew ?_ | with_reducible refine q_drewN _ ?_ | with_reducible refine q_setCell ?_ ?_ _ | (left; simp; done) | (right; simp; done) | (right; dsimp only; omega) | (left; dsimp only; omega)))
        · skip
          have w1' : IntKind.i64.wrap (sx - px) = sx - px := by first | exact IntWalk.i64_in _ (by omega) | (rw [Int.sub_zero]; exact IntWalk.i64_in _ (by omega))
          have w2' : IntKind.i64.wrap (h' - py) = h' - py := by first | exact IntWalk.i64_in _ (by omega) | (rw [Int.sub_zero]; exact IntWalk.i64_in _ (by omega))
          go_wp2
          refine bodyPost_ret (v := .tuple #[.agg #[i6 px, i6 py], rectV px py (sx - px) (h' - py), .bool true]) (by simp [results, Tryd.results13, go_sem, e0, e1, e2, e3, e4, e5]) rfl ⟨?_, ?_⟩
          · exact ret_kept ((keptV_some Hx0.out Hx1.out Hy0.out Hy1.out (by omega)).trans (by simp))
          · (repeat' (first | with_reducible exact Below.refl _ _ | with_reducible assumption | with_reducible refine q_alloc ?_ _ | with_reducible refine q_drew ?_ | with_reducible refine q_drewN _ ?_ | with_reducible refine q_setCell ?_ ?_ _ | (left; simp; done) | (right; simp; done) | (right; dsimp only; omega) | (left; dsimp only; omega)))
    · skip
      have hy1 : kx1 py h h' = sy := by rw [HK2.out]; split <;> omega
      have Hy1 := Lib.hid hy1
      clear hy1 HK2
      by_cases u1 : sx ≤ px
      · skip
        have w1' : IntKind.i64.wrap (sx - px) = sx - px := by first | exact IntWalk.i64_in _ (by omega) | (rw [Int.sub_zero]; exact IntWalk.i64_in _ (by omega))
        have w2' : IntKind.i64.wrap (sy - py) = sy - py := by first | exact IntWalk.i64_in _ (by omega) | (rw [Int.sub_zero]; exact IntWalk.i64_in _ (by omega))
        go_wp2
        refine bodyPost_ret (v := .tuple #[.agg #[i6 px, i6 py], rectV 0 0 0 0, .bool true]) (by simp [results, Tryd.results13, go_sem, e0, e1, e2, e3, e4, e5]) rfl ⟨?_, ?_⟩
        · exact ret_kept (keptV_none Hx0.out Hx1.out Hy0.out Hy1.out (Or.inl u1))
        · (repeat' (first | with_reducible exact Below.refl _ _ | with_reducible assumption | with_reducible refine q_alloc ?_ _ | with_reducible refine q_drew ?_ | with_reducible refine q_drewN _ ?_ | with_reducible refine q_setCell ?_ ?_ _ | (left; simp; done) | (right; simp; done) | (right; dsimp only; omega) | (left; dsimp only; omega)))
      · by_cases u2 : sy ≤ py
        · skip
          have w1' : IntKind.i64.wrap (sx - px) = sx - px := by first | exact IntWalk.i64_in _ (by omega) | (rw [Int.sub_zero]; exact IntWalk.i64_in _ (by omega))
          have w2' : IntKind.i64.wrap (sy - py) = sy - py := by first | exact IntWalk.i64_in _ (by omega) | (rw [Int.sub_zero]; exact IntWalk.i64_in _ (by omega))
          go_wp2
          refine bodyPost_ret (v := .tuple #[.agg #[i6 px, i6 py], rectV 0 0 0 0, .bool true]) (by simp [results, Tryd.results13, go_sem, e0, e1, e2, e3, e4, e5]) rfl ⟨?_, ?_⟩
          · exact ret_kept (keptV_none Hx0.out Hx1.out Hy0.out Hy1.out (Or.inr u2))
          · (repeat' (first | with_reducible exact Below.refl _ _ | with_reducible assumption | with_reducible refine q_alloc ?_ _ | with_reducible refine q_drew ?_ | with_reducible refine q_drewN _ ?_ | with_reducible refine q_setCell ?_ ?_ _ | (left; simp; done) | (right; simp; done) | (right; dsimp only; omega) | (left; dsimp only; omega)))
        · skip
          have w1' : IntKind.i64.wrap (sx - px) = sx - px := by first | exact IntWalk.i64_in _ (by omega) | (rw [Int.sub_zero]; exact IntWalk.i64_in _ (by omega))
          have w2' : IntKind.i64.wrap (sy - py) = sy - py := by first | exact IntWalk.i64_in _ (by omega) | (rw [Int.sub_zero]; exact IntWalk.i64_in _ (by omega))
          go_wp2
          refine bodyPost_ret (v := .tuple #[.agg #[i6 px, i6 py], rectV px py (sx - px) (sy - py), .bool true]) (by simp [results, Tryd.results13, go_sem, e0, e1, e2, e3, e4, e5]) rfl ⟨?_, ?_⟩
          · exact ret_kept ((keptV_some Hx0.out Hx1.out Hy0.out Hy1.out (by omega)).trans (by simp))
          · (repeat' (first | with_reducible exact Below.refl _ _ | with_reducible assumption | with_reducible refine q_alloc ?_ _ | with_reducible refine q_drew ?_ | with_reducible refine q_drewN _ ?_ | with_reducible refine q_setCell ?_ ?_ _ | (left; simp; done) | (right; simp; done) | (right; dsimp only; omega) | (left; dsimp only; omega)))
end Go.Proofs.YtamcgdepipebeaaDoor
