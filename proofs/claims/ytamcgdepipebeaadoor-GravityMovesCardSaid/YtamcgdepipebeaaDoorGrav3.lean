import Derived.Test.YtamcgdepipebeaaDoorGrav2
namespace Go.Proofs.YtamcgdepipebeaaDoor
open Go Go.RowKit

theorem rshift_mid (g x y r h x' y' r' h' : Int) (w : World) (ga : Good x y r h) (gb : Good x' y' r' h') (h1 : 1 ≤ g) (h2 : g ≤ 9) :
    Calls Tryd.prog 11 #[i6 g, rectV x y r h, rectV x' y' r' h'] w fun e w' => e = .returned (.tuple #[.agg #[i6 (half (r' - r) ((g - 1) % 3)), i6 (half (h' - h) ((g - 1) / 3))], .bool true]) ∧ Below w.heap.size w w' := by
  have ba := ga.bounds
  have bb := gb.bounds
  have HA := Lib.hid ga
  have HB := Lib.hid gb
  clear ga gb
  go_enter Tryd.func11, Tryd.ntmps11
  go_wp2_with fail
  refine (rright16_good x y r h _ HA.out).mono ?_
  rintro e w1 ⟨rfl, hb1⟩
  have hq := q_step (a := w) (by (repeat' (first | with_reducible exact Below.refl _ _ | with_reducible assumption | with_reducible refine q_alloc ?_ _ | with_reducible refine q_drew ?_ | with_reducible refine q_drewN _ ?_ | with_reducible refine q_setCell ?_ ?_ _ | (left; simp; done) | (right; simp; done) | (right; dsimp only; omega) | (left; dsimp only; omega)))) hb1
  have c0 : w1.cell? ⟨w.heap.size, 0, none⟩ = some (i6 x) := (hb1.cell (by simp; try omega)).trans (by go_cell)
  have c1 : w1.cell? ⟨w.heap.size, 1, none⟩ = some (i6 y) := (hb1.cell (by simp; try omega)).trans (by go_cell)
  have c2 : w1.cell? ⟨w.heap.size, 2, none⟩ = some (i6 r) := (hb1.cell (by simp; try omega)).trans (by go_cell)
  have c3 : w1.cell? ⟨w.heap.size, 3, none⟩ = some (i6 h) := (hb1.cell (by simp; try omega)).trans (by go_cell)
  have c4 : w1.cell? ⟨w.heap.size + 1, 0, none⟩ = some (i6 x') := (hb1.cell (by simp; try omega)).trans (by go_cell)
  have c5 : w1.cell? ⟨w.heap.size + 1, 1, none⟩ = some (i6 y') := (hb1.cell (by simp; try omega)).trans (by go_cell)
  have c6 : w1.cell? ⟨w.heap.size + 1, 2, none⟩ = some (i6 r') := (hb1.cell (by simp; try omega)).trans (by go_cell)
  have c7 : w1.cell? ⟨w.heap.size + 1, 3, none⟩ = some (i6 h') := (hb1.cell (by simp; try omega)).trans (by go_cell)
  have c8 : w1.cell? ⟨w.heap.size + 1 + 1, 0, none⟩ = some (i6 0) := (hb1.cell (by simp; try omega)).trans (by go_cell)
  have c9 : w1.cell? ⟨w.heap.size + 1 + 1, 1, none⟩ = some (i6 0) := (hb1.cell (by simp; try omega)).trans (by go_cell)
  have cf0 : w1.frozen? ⟨w.heap.size + 1 + 1, 0, none⟩ = false := (hb1.frozen (by simp; try omega)).trans (by go_cell)
  have cf1 : w1.frozen? ⟨w.heap.size + 1 + 1, 1, none⟩ = false := (hb1.frozen (by simp; try omega)).trans (by go_cell)
  clear hb1
  go_wp2_with fail
  refine (rright16_good x' y' r' h' _ HB.out).mono ?_
  rintro e w2 ⟨rfl, hb2⟩
  have d0 := (hb2.cell (p := ⟨w.heap.size, 0, none⟩) (block_lt_of_cell c0)).trans c0
  have d1 := (hb2.cell (p := ⟨w.heap.size, 1, none⟩) (block_lt_of_cell c1)).trans c1
  have d2 := (hb2.cell (p := ⟨w.heap.size, 2, none⟩) (block_lt_of_cell c2)).trans c2
  have d3 := (hb2.cell (p := ⟨w.heap.size, 3, none⟩) (block_lt_of_cell c3)).trans c3
  have d4 := (hb2.cell (p := ⟨w.heap.size + 1, 0, none⟩) (block_lt_of_cell c4)).trans c4
  have d5 := (hb2.cell (p := ⟨w.heap.size + 1, 1, none⟩) (block_lt_of_cell c5)).trans c5
  have d6 := (hb2.cell (p := ⟨w.heap.size + 1, 2, none⟩) (block_lt_of_cell c6)).trans c6
  have d7 := (hb2.cell (p := ⟨w.heap.size + 1, 3, none⟩) (block_lt_of_cell c7)).trans c7
  have d8 := (hb2.cell (p := ⟨w.heap.size + 1 + 1, 0, none⟩) (block_lt_of_cell c8)).trans c8
  have d9 := (hb2.cell (p := ⟨w.heap.size + 1 + 1, 1, none⟩) (block_lt_of_cell c9)).trans c9
  have df0 := (hb2.frozen (p := ⟨w.heap.size + 1 + 1, 0, none⟩) (block_lt_of_cell c8)).trans cf0
  have df1 := (hb2.frozen (p := ⟨w.heap.size + 1 + 1, 1, none⟩) (block_lt_of_cell c9)).trans cf1
  have hq2 := q_step hq hb2
  have hz : w.heap.size + 2 < w2.heap.size := block_lt_of_cell d8
  clear c0 c1 c2 c3 c4 c5 c6 c7 c8 c9 cf0 cf1 hq hb2
  go_wp2_with fail
  have hw0 : 0 ≤ g - 1 := by omega
  have hw1 : IntKind.i64.wrap (g - 1) = g - 1 := IntWalk.i64_in _ (by omega)
  have hw2 : (g - 1).tmod 3 = (g - 1) % 3 := Int.tmod_eq_emod_of_nonneg hw0
  have hw3 : (g - 1).tdiv 3 = (g - 1) / 3 := Int.tdiv_eq_ediv_of_nonneg hw0
  have hw8 : IntKind.i64.wrap ((g - 1) / 3) = (g - 1) / 3 := IntWalk.i64_in _ (by omega)
  have hw4 : IntKind.i64.wrap (r' - r) = r' - r := IntWalk.i64_in _ (by omega)
  have hw5 : IntKind.i64.wrap (h' - h) = h' - h := IntWalk.i64_in _ (by omega)
  go_still_tail 19, (by kernel_rfl)
  still_call ((rpart_any _ _ _ (by omega) (by omega) (by omega) (by omega)).mono fun _ _ h => ⟨h.1, h.2.symm⟩)
  repeat still_step
  still_call ((rpart_any _ _ _ (by omega) (by omega) (by omega) (by omega)).mono fun _ _ h => ⟨h.1, h.2.symm⟩)
  repeat still_step
  refine wpStill_nil ?_
  change wpList _ _ _ _ _ w2.drew
  go_wp2
  refine bodyPost_ret (v := .tuple #[.agg #[i6 (half (r' - r) ((g - 1) % 3)), i6 (half (h' - h) ((g - 1) / 3))], .bool true]) (by simp [results, Tryd.results11, go_sem, d8, d9]) rfl ⟨rfl, ?_⟩
  (repeat' (first | with_reducible exact Below.refl _ _ | with_reducible assumption | with_reducible refine q_alloc ?_ _ | with_reducible refine q_drew ?_ | with_reducible refine q_drewN _ ?_ | with_reducible refine q_setCell ?_ ?_ _ | (left; simp; done) | (right; simp; done) | (right; dsimp only; omega) | (left; dsimp only; omega)))

theorem rshift_static (x y r h x' y' r' h' : Int) (w : World) (ga : Good x y r h) (gb : Good x' y' r' h') :
    Calls Tryd.prog 11 #[i6 10, rectV x y r h, rectV x' y' r' h'] w fun e w' => e = .returned (.tuple #[.agg #[i6 (x - x'), i6 (y - y')], .bool true]) ∧ Below w.heap.size w w' := by
  have ba := ga.bounds
  have bb := gb.bounds
  have HA := Lib.hid ga
  have HB := Lib.hid gb
  clear ga gb
  go_enter Tryd.func11, Tryd.ntmps11
  go_wp2_with fail
  refine (rright16_good x y r h _ HA.out).mono ?_
  rintro e w1 ⟨rfl, hb1⟩
  have hq := q_step (a := w) (by (repeat' (first | with_reducible exact Below.refl _ _ | with_reducible assumption | with_reducible refine q_alloc ?_ _ | with_reducible refine q_drew ?_ | with_reducible refine q_drewN _ ?_ | with_reducible refine q_setCell ?_ ?_ _ | (left; simp; done) | (right; simp; done) | (right; dsimp only; omega) | (left; dsimp only; omega)))) hb1
  have c0 : w1.cell? ⟨w.heap.size, 0, none⟩ = some (i6 x) := (hb1.cell (by simp; try omega)).trans (by go_cell)
  have c1 : w1.cell? ⟨w.heap.size, 1, none⟩ = some (i6 y) := (hb1.cell (by simp; try omega)).trans (by go_cell)
  have c2 : w1.cell? ⟨w.heap.size, 2, none⟩ = some (i6 r) := (hb1.cell (by simp; try omega)).trans (by go_cell)
  have c3 : w1.cell? ⟨w.heap.size, 3, none⟩ = some (i6 h) := (hb1.cell (by simp; try omega)).trans (by go_cell)
  have c4 : w1.cell? ⟨w.heap.size + 1, 0, none⟩ = some (i6 x') := (hb1.cell (by simp; try omega)).trans (by go_cell)
  have c5 : w1.cell? ⟨w.heap.size + 1, 1, none⟩ = some (i6 y') := (hb1.cell (by simp; try omega)).trans (by go_cell)
  have c6 : w1.cell? ⟨w.heap.size + 1, 2, none⟩ = some (i6 r') := (hb1.cell (by simp; try omega)).trans (by go_cell)
  have c7 : w1.cell? ⟨w.heap.size + 1, 3, none⟩ = some (i6 h') := (hb1.cell (by simp; try omega)).trans (by go_cell)
  have c8 : w1.cell? ⟨w.heap.size + 1 + 1, 0, none⟩ = some (i6 0) := (hb1.cell (by simp; try omega)).trans (by go_cell)
  have c9 : w1.cell? ⟨w.heap.size + 1 + 1, 1, none⟩ = some (i6 0) := (hb1.cell (by simp; try omega)).trans (by go_cell)
  have cf0 : w1.frozen? ⟨w.heap.size + 1 + 1, 0, none⟩ = false := (hb1.frozen (by simp; try omega)).trans (by go_cell)
  have cf1 : w1.frozen? ⟨w.heap.size + 1 + 1, 1, none⟩ = false := (hb1.frozen (by simp; try omega)).trans (by go_cell)
  clear hb1
  go_wp2_with fail
  refine (rright16_good x' y' r' h' _ HB.out).mono ?_
  rintro e w2 ⟨rfl, hb2⟩
  have d0 := (hb2.cell (p := ⟨w.heap.size, 0, none⟩) (block_lt_of_cell c0)).trans c0
  have d1 := (hb2.cell (p := ⟨w.heap.size, 1, none⟩) (block_lt_of_cell c1)).trans c1
  have d2 := (hb2.cell (p := ⟨w.heap.size, 2, none⟩) (block_lt_of_cell c2)).trans c2
  have d3 := (hb2.cell (p := ⟨w.heap.size, 3, none⟩) (block_lt_of_cell c3)).trans c3
  have d4 := (hb2.cell (p := ⟨w.heap.size + 1, 0, none⟩) (block_lt_of_cell c4)).trans c4
  have d5 := (hb2.cell (p := ⟨w.heap.size + 1, 1, none⟩) (block_lt_of_cell c5)).trans c5
  have d6 := (hb2.cell (p := ⟨w.heap.size + 1, 2, none⟩) (block_lt_of_cell c6)).trans c6
  have d7 := (hb2.cell (p := ⟨w.heap.size + 1, 3, none⟩) (block_lt_of_cell c7)).trans c7
  have d8 := (hb2.cell (p := ⟨w.heap.size + 1 + 1, 0, none⟩) (block_lt_of_cell c8)).trans c8
  have d9 := (hb2.cell (p := ⟨w.heap.size + 1 + 1, 1, none⟩) (block_lt_of_cell c9)).trans c9
  have df0 := (hb2.frozen (p := ⟨w.heap.size + 1 + 1, 0, none⟩) (block_lt_of_cell c8)).trans cf0
  have df1 := (hb2.frozen (p := ⟨w.heap.size + 1 + 1, 1, none⟩) (block_lt_of_cell c9)).trans cf1
  have hq2 := q_step hq hb2
  have hz : w.heap.size + 2 < w2.heap.size := block_lt_of_cell d8
  clear c0 c1 c2 c3 c4 c5 c6 c7 c8 c9 cf0 cf1 hq hb2
  go_wp2
  refine bodyPost_ret (v := .tuple #[.agg #[i6 (x - x'), i6 (y - y')], .bool true]) (by simp [results, Tryd.results11, go_sem, d8, d9]) rfl ⟨rfl, ?_⟩
  (repeat' (first | with_reducible exact Below.refl _ _ | with_reducible assumption | with_reducible refine q_alloc ?_ _ | with_reducible refine q_drew ?_ | with_reducible refine q_drewN _ ?_ | with_reducible refine q_setCell ?_ ?_ _ | (left; simp; done) | (right; simp; done) | (right; dsimp only; omega) | (left; dsimp only; omega)))

theorem rshift_none (g x y r h x' y' r' h' : Int) (w : World) (hg : g ≤ 0 ∨ 11 ≤ g) :
    Calls Tryd.prog 11 #[i6 g, rectV x y r h, rectV x' y' r' h'] w fun e w' => e = .returned (.tuple #[.agg #[i6 0, i6 0], .bool false]) ∧ Below w.heap.size w w' := by
  have hg3 : g = 0 ∨ g < 0 ∨ 10 < g := by omega
  clear hg
  rcases hg3 with rfl | hg | hg
  all_goals
    go_enter Tryd.func11, Tryd.ntmps11
    go_wp2
    refine bodyPost_ret (v := .tuple #[.agg #[i6 0, i6 0], .bool false]) (by simp [results, Tryd.results11, go_sem]) rfl ⟨rfl, ?_⟩
    (repeat' (first | with_reducible exact Below.refl _ _ | with_reducible assumption | with_reducible refine q_alloc ?_ _ | with_reducible refine q_drew ?_ | with_reducible refine q_drewN _ ?_ | with_reducible refine q_setCell ?_ ?_ _ | (left; simp; done) | (right; simp; done) | (right; dsimp only; omega) | (left; dsimp only; omega)))

theorem rshift_badA (g x y r h x' y' r' h' : Int) (w : World) (ga : ¬ Good x y r h) (h1 : 1 ≤ g) (h2 : g ≤ 10) :
    Calls Tryd.prog 11 #[i6 g, rectV x y r h, rectV x' y' r' h'] w fun e w' => e = .returned (.tuple #[.agg #[i6 0, i6 0], .bool false]) ∧ Below w.heap.size w w' := by
  have HA := Lib.hid ga
  clear ga
  go_enter Tryd.func11, Tryd.ntmps11
  go_wp2_with fail
  refine (rright16_bad x y r h _ HA.out).mono ?_
  rintro e w1 ⟨rfl, hb1⟩
  have hq := q_step (a := w) (by (repeat' (first | with_reducible exact Below.refl _ _ | with_reducible assumption | with_reducible refine q_alloc ?_ _ | with_reducible refine q_drew ?_ | with_reducible refine q_drewN _ ?_ | with_reducible refine q_setCell ?_ ?_ _ | (left; simp; done) | (right; simp; done) | (right; dsimp only; omega) | (left; dsimp only; omega)))) hb1
  have c8 : w1.cell? ⟨w.heap.size + 1 + 1, 0, none⟩ = some (i6 0) := (hb1.cell (by simp; try omega)).trans (by go_cell)
  have c9 : w1.cell? ⟨w.heap.size + 1 + 1, 1, none⟩ = some (i6 0) := (hb1.cell (by simp; try omega)).trans (by go_cell)
  have cf0 : w1.frozen? ⟨w.heap.size + 1 + 1, 0, none⟩ = false := (hb1.frozen (by simp; try omega)).trans (by go_cell)
  have cf1 : w1.frozen? ⟨w.heap.size + 1 + 1, 1, none⟩ = false := (hb1.frozen (by simp; try omega)).trans (by go_cell)
  clear hb1
  go_wp2
  refine bodyPost_ret (v := .tuple #[.agg #[i6 0, i6 0], .bool false]) (by simp [results, Tryd.results11, go_sem, c8, c9]) rfl ⟨rfl, ?_⟩
  (repeat' (first | with_reducible exact Below.refl _ _ | with_reducible assumption | with_reducible refine q_alloc ?_ _ | with_reducible refine q_drew ?_ | with_reducible refine q_drewN _ ?_ | with_reducible refine q_setCell ?_ ?_ _ | (left; simp; done) | (right; simp; done) | (right; dsimp only; omega) | (left; dsimp only; omega)))

theorem rshift_badB (g x y r h x' y' r' h' : Int) (w : World) (ga : Good x y r h) (gb : ¬ Good x' y' r' h') (h1 : 1 ≤ g) (h2 : g ≤ 10) :
    Calls Tryd.prog 11 #[i6 g, rectV x y r h, rectV x' y' r' h'] w fun e w' => e = .returned (.tuple #[.agg #[i6 0, i6 0], .bool false]) ∧ Below w.heap.size w w' := by
  have ba := ga.bounds
  have HA := Lib.hid ga
  have HB := Lib.hid gb
  clear ga gb
  go_enter Tryd.func11, Tryd.ntmps11
  go_wp2_with fail
  refine (rright16_good x y r h _ HA.out).mono ?_
  rintro e w1 ⟨rfl, hb1⟩
  have hq := q_step (a := w) (by (repeat' (first | with_reducible exact Below.refl _ _ | with_reducible assumption | with_reducible refine q_alloc ?_ _ | with_reducible refine q_drew ?_ | with_reducible refine q_drewN _ ?_ | with_reducible refine q_setCell ?_ ?_ _ | (left; simp; done) | (right; simp; done) | (right; dsimp only; omega) | (left; dsimp only; omega)))) hb1
  have c0 : w1.cell? ⟨w.heap.size, 0, none⟩ = some (i6 x) := (hb1.cell (by simp; try omega)).trans (by go_cell)
  have c1 : w1.cell? ⟨w.heap.size, 1, none⟩ = some (i6 y) := (hb1.cell (by simp; try omega)).trans (by go_cell)
  have c2 : w1.cell? ⟨w.heap.size, 2, none⟩ = some (i6 r) := (hb1.cell (by simp; try omega)).trans (by go_cell)
  have c3 : w1.cell? ⟨w.heap.size, 3, none⟩ = some (i6 h) := (hb1.cell (by simp; try omega)).trans (by go_cell)
  have c4 : w1.cell? ⟨w.heap.size + 1, 0, none⟩ = some (i6 x') := (hb1.cell (by simp; try omega)).trans (by go_cell)
  have c5 : w1.cell? ⟨w.heap.size + 1, 1, none⟩ = some (i6 y') := (hb1.cell (by simp; try omega)).trans (by go_cell)
  have c6 : w1.cell? ⟨w.heap.size + 1, 2, none⟩ = some (i6 r') := (hb1.cell (by simp; try omega)).trans (by go_cell)
  have c7 : w1.cell? ⟨w.heap.size + 1, 3, none⟩ = some (i6 h') := (hb1.cell (by simp; try omega)).trans (by go_cell)
  have c8 : w1.cell? ⟨w.heap.size + 1 + 1, 0, none⟩ = some (i6 0) := (hb1.cell (by simp; try omega)).trans (by go_cell)
  have c9 : w1.cell? ⟨w.heap.size + 1 + 1, 1, none⟩ = some (i6 0) := (hb1.cell (by simp; try omega)).trans (by go_cell)
  have cf0 : w1.frozen? ⟨w.heap.size + 1 + 1, 0, none⟩ = false := (hb1.frozen (by simp; try omega)).trans (by go_cell)
  have cf1 : w1.frozen? ⟨w.heap.size + 1 + 1, 1, none⟩ = false := (hb1.frozen (by simp; try omega)).trans (by go_cell)
  clear hb1
  go_wp2_with fail
  refine (rright16_bad x' y' r' h' _ HB.out).mono ?_
  rintro e w2 ⟨rfl, hb2⟩
  have d0 := (hb2.cell (p := ⟨w.heap.size, 0, none⟩) (block_lt_of_cell c0)).trans c0
  have d1 := (hb2.cell (p := ⟨w.heap.size, 1, none⟩) (block_lt_of_cell c1)).trans c1
  have d2 := (hb2.cell (p := ⟨w.heap.size, 2, none⟩) (block_lt_of_cell c2)).trans c2
  have d3 := (hb2.cell (p := ⟨w.heap.size, 3, none⟩) (block_lt_of_cell c3)).trans c3
  have d4 := (hb2.cell (p := ⟨w.heap.size + 1, 0, none⟩) (block_lt_of_cell c4)).trans c4
  have d5 := (hb2.cell (p := ⟨w.heap.size + 1, 1, none⟩) (block_lt_of_cell c5)).trans c5
  have d6 := (hb2.cell (p := ⟨w.heap.size + 1, 2, none⟩) (block_lt_of_cell c6)).trans c6
  have d7 := (hb2.cell (p := ⟨w.heap.size + 1, 3, none⟩) (block_lt_of_cell c7)).trans c7
  have d8 := (hb2.cell (p := ⟨w.heap.size + 1 + 1, 0, none⟩) (block_lt_of_cell c8)).trans c8
  have d9 := (hb2.cell (p := ⟨w.heap.size + 1 + 1, 1, none⟩) (block_lt_of_cell c9)).trans c9
  have df0 := (hb2.frozen (p := ⟨w.heap.size + 1 + 1, 0, none⟩) (block_lt_of_cell c8)).trans cf0
  have df1 := (hb2.frozen (p := ⟨w.heap.size + 1 + 1, 1, none⟩) (block_lt_of_cell c9)).trans cf1
  have hq2 := q_step hq hb2
  have hz : w.heap.size + 2 < w2.heap.size := block_lt_of_cell d8
  clear c0 c1 c2 c3 c4 c5 c6 c7 c8 c9 cf0 cf1 hq hb2
  go_wp2
  refine bodyPost_ret (v := .tuple #[.agg #[i6 0, i6 0], .bool false]) (by simp [results, Tryd.results11, go_sem, d8, d9]) rfl ⟨rfl, ?_⟩
  (repeat' (first | with_reducible exact Below.refl _ _ | with_reducible assumption | with_reducible refine q_alloc ?_ _ | with_reducible refine q_drew ?_ | with_reducible refine q_drewN _ ?_ | with_reducible refine q_setCell ?_ ?_ _ | (left; simp; done) | (right; simp; done) | (right; dsimp only; omega) | (left; dsimp only; omega)))

end Go.Proofs.YtamcgdepipebeaaDoor
