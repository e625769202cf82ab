import Derived.Test.YtamcgdepipebeaaDoorRect2
import Derived.StillTailTactics
import Derived.Deep.RegionHeld3
namespace Go.Proofs.YtamcgdepipebeaaDoor
open Go Go.RowKit

/-- What of a difference a column, or a row, has: nothing, the half, all. -/
def half (d k : Int) : Int := if k = 0 then 0 else if k = 1 then d / 2 else d

theorem part_any (d k : Int) (w : World) :
    Calls Tryd.prog 22 #[i6 d, i6 k] w fun e w' => e = .returned (i6 (half d k)) ∧ w = w' := by
  unfold half
  by_cases h0 : k = 0
  · rw [if_pos h0]; subst h0
    go_enter Tryd.func22, Tryd.ntmps22
    go_wp2
    go_returns
    exact ⟨rfl, rfl⟩
  · by_cases h1 : k = 1
    · rw [if_neg h0, if_pos h1]; subst h1; clear h0
      go_enter Tryd.func22, Tryd.ntmps22
      go_wp2
      go_returns
      exact ⟨ret_int (by simp), rfl⟩
    · rw [if_neg h0, if_neg h1]
      go_enter Tryd.func22, Tryd.ntmps22
      go_wp2
      go_returns
      exact ⟨rfl, rfl⟩

theorem quiet_add_eq {P : Program} {f : FuncId} {args : Array Value} {w : World} {a n : Nat} {v : Value}
    (h : Calls P f args (w.drewN (a + n)) fun e w' => e = .returned v ∧ w.drewN (a + n) = w') :
    Calls P f args (w.drewN (a + n)) fun e w'' => e = .returned v ∧ ∃ m, w'' = w.drewN (a + m) :=
  h.mono fun _ _ ⟨he, hm⟩ => ⟨he, n, hm.symm⟩

theorem shift_mid (g x y r h x' y' r' h' : Int) (w : World) (hs : RowAt 1 noneCells w) (ga : Good x y r h) (gb : Good x' y' r' h') (h1 : 1 ≤ g) (h2 : g ≤ 9) :
    Calls Tryd.prog 10 #[i6 g, rectV x y r h, rectV x' y' r' h'] w fun e w' => e = .returned (.tuple #[.agg #[i6 (half (r' - r) ((g - 1) % 3)), i6 (half (h' - h) ((g - 1) / 3))], .bool true]) ∧ Below w.heap.size w w' := by
  have ba := ga.bounds
  have bb := gb.bounds
  have HS := Lib.hid hs
  have HA := Lib.hid ga
  have HB := Lib.hid gb
  have hl := hs.lt
  clear hs ga gb
  go_enter Tryd.func10, Tryd.ntmps10
  go_wp2_with (go_at_call 17; go_in)
  refine (empty_good x y r h _ ?_ HA.out).mono ?_
  · exact ((HS.out.alloc _).alloc _).alloc _
  rintro e w1 ⟨rfl, hb1⟩
  have hq := q_step (a := w) (by (repeat' (first | with_reducible exact Below.refl _ _ | with_reducible assumption | with_reducible refine q_alloc ?_ _ | with_reducible refine q_drew ?_ | with_reducible refine q_drewN _ ?_ | with_reducible refine q_setCell ?_ ?_ _ | (left; simp; done) | (right; simp; done) | (right; dsimp only; omega) | (left; dsimp only; omega)))) hb1
  have hs1 := Lib.hid ((((HS.out.alloc _).alloc _).alloc _).below hb1)
  have c0 : w1.cell? ⟨w.heap.size, 0, none⟩ = some (i6 x) := (hb1.cell (by simp; try omega)).trans (by go_cell)
  have c1 : w1.cell? ⟨w.heap.size, 1, none⟩ = some (i6 y) := (hb1.cell (by simp; try omega)).trans (by go_cell)
  have c2 : w1.cell? ⟨w.heap.size, 2, none⟩ = some (i6 r) := (hb1.cell (by simp; try omega)).trans (by go_cell)
  have c3 : w1.cell? ⟨w.heap.size, 3, none⟩ = some (i6 h) := (hb1.cell (by simp; try omega)).trans (by go_cell)
  have c4 : w1.cell? ⟨w.heap.size + 1, 0, none⟩ = some (i6 x') := (hb1.cell (by simp; try omega)).trans (by go_cell)
  have c5 : w1.cell? ⟨w.heap.size + 1, 1, none⟩ = some (i6 y') := (hb1.cell (by simp; try omega)).trans (by go_cell)
  have c6 : w1.cell? ⟨w.heap.size + 1, 2, none⟩ = some (i6 r') := (hb1.cell (by simp; try omega)).trans (by go_cell)
  have c7 : w1.cell? ⟨w.heap.size + 1, 3, none⟩ = some (i6 h') := (hb1.cell (by simp; try omega)).trans (by go_cell)
  have c8 : w1.cell? ⟨w.heap.size + 1 + 1, 0, none⟩ = some (i6 0) := (hb1.cell (by simp; try omega)).trans (by go_cell)
  have c9 : w1.cell? ⟨w.heap.size + 1 + 1, 1, none⟩ = some (i6 0) := (hb1.cell (by simp; try omega)).trans (by go_cell)
  have cf0 : w1.frozen? ⟨w.heap.size + 1 + 1, 0, none⟩ = false := (hb1.frozen (by simp; try omega)).trans (by go_cell)
  have cf1 : w1.frozen? ⟨w.heap.size + 1 + 1, 1, none⟩ = false := (hb1.frozen (by simp; try omega)).trans (by go_cell)
  clear hb1
  go_wp2_with fail
  refine (empty_good x' y' r' h' _ hs1.out HB.out).mono ?_
  rintro e w2 ⟨rfl, hb2⟩
  have d0 := (hb2.cell (p := ⟨w.heap.size, 0, none⟩) (block_lt_of_cell c0)).trans c0
  have d1 := (hb2.cell (p := ⟨w.heap.size, 1, none⟩) (block_lt_of_cell c1)).trans c1
  have d2 := (hb2.cell (p := ⟨w.heap.size, 2, none⟩) (block_lt_of_cell c2)).trans c2
  have d3 := (hb2.cell (p := ⟨w.heap.size, 3, none⟩) (block_lt_of_cell c3)).trans c3
  have d4 := (hb2.cell (p := ⟨w.heap.size + 1, 0, none⟩) (block_lt_of_cell c4)).trans c4
  have d5 := (hb2.cell (p := ⟨w.heap.size + 1, 1, none⟩) (block_lt_of_cell c5)).trans c5
  have d6 := (hb2.cell (p := ⟨w.heap.size + 1, 2, none⟩) (block_lt_of_cell c6)).trans c6
  have d7 := (hb2.cell (p := ⟨w.heap.size + 1, 3, none⟩) (block_lt_of_cell c7)).trans c7
  have d8 := (hb2.cell (p := ⟨w.heap.size + 1 + 1, 0, none⟩) (block_lt_of_cell c8)).trans c8
  have d9 := (hb2.cell (p := ⟨w.heap.size + 1 + 1, 1, none⟩) (block_lt_of_cell c9)).trans c9
  have df0 := (hb2.frozen (p := ⟨w.heap.size + 1 + 1, 0, none⟩) (block_lt_of_cell c8)).trans cf0
  have df1 := (hb2.frozen (p := ⟨w.heap.size + 1 + 1, 1, none⟩) (block_lt_of_cell c9)).trans cf1
  have hq2 := q_step hq hb2
  have hz : w.heap.size + 2 < w2.heap.size := block_lt_of_cell d8
  clear c0 c1 c2 c3 c4 c5 c6 c7 c8 c9 cf0 cf1 hq hb2 hs1 HS
  go_wp2_with fail
  go_still_tail 15, (by kernel_rfl)
  still_call ((part_any _ _ _).mono fun _ _ h => ⟨h.1, h.2.symm⟩)
  repeat still_step
  still_call ((part_any _ _ _).mono fun _ _ h => ⟨h.1, h.2.symm⟩)
  repeat still_step
  refine wpStill_nil ?_
  change wpList _ _ _ _ _ w2.drew
  go_wp2
  refine bodyPost_ret (v := .tuple #[.agg #[i6 (half (r' - r) ((g - 1) % 3)), i6 (half (h' - h) ((g - 1) / 3))], .bool true]) (by simp [results, Tryd.results10, go_sem, d8, d9]) rfl ⟨rfl, ?_⟩
  (repeat' (first | with_reducible exact Below.refl _ _ | with_reducible assumption | with_reducible refine q_alloc ?_ _ | with_reducible refine q_drew ?_ | with_reducible refine q_drewN _ ?_ | with_reducible refine q_setCell ?_ ?_ _ | (left; simp; done) | (right; simp; done) | (right; dsimp only; omega) | (left; dsimp only; omega)))

theorem shift_static (x y r h x' y' r' h' : Int) (w : World) (hs : RowAt 1 noneCells w) (ga : Good x y r h) (gb : Good x' y' r' h') :
    Calls Tryd.prog 10 #[i6 10, rectV x y r h, rectV x' y' r' h'] w fun e w' => e = .returned (.tuple #[.agg #[i6 (x - x'), i6 (y - y')], .bool true]) ∧ Below w.heap.size w w' := by
  have ba := ga.bounds
  have bb := gb.bounds
  have HS := Lib.hid hs
  have HA := Lib.hid ga
  have HB := Lib.hid gb
  have hl := hs.lt
  clear hs ga gb
  go_enter Tryd.func10, Tryd.ntmps10
  go_wp2_with (go_at_call 17; go_in)
  refine (empty_good x y r h _ ?_ HA.out).mono ?_
  · exact ((HS.out.alloc _).alloc _).alloc _
  rintro e w1 ⟨rfl, hb1⟩
  have hq := q_step (a := w) (by (repeat' (first | with_reducible exact Below.refl _ _ | with_reducible assumption | with_reducible refine q_alloc ?_ _ | with_reducible refine q_drew ?_ | with_reducible refine q_drewN _ ?_ | with_reducible refine q_setCell ?_ ?_ _ | (left; simp; done) | (right; simp; done) | (right; dsimp only; omega) | (left; dsimp only; omega)))) hb1
  have hs1 := Lib.hid ((((HS.out.alloc _).alloc _).alloc _).below hb1)
  have c0 : w1.cell? ⟨w.heap.size, 0, none⟩ = some (i6 x) := (hb1.cell (by simp; try omega)).trans (by go_cell)
  have c1 : w1.cell? ⟨w.heap.size, 1, none⟩ = some (i6 y) := (hb1.cell (by simp; try omega)).trans (by go_cell)
  have c2 : w1.cell? ⟨w.heap.size, 2, none⟩ = some (i6 r) := (hb1.cell (by simp; try omega)).trans (by go_cell)
  have c3 : w1.cell? ⟨w.heap.size, 3, none⟩ = some (i6 h) := (hb1.cell (by simp; try omega)).trans (by go_cell)
  have c4 : w1.cell? ⟨w.heap.size + 1, 0, none⟩ = some (i6 x') := (hb1.cell (by simp; try omega)).trans (by go_cell)
  have c5 : w1.cell? ⟨w.heap.size + 1, 1, none⟩ = some (i6 y') := (hb1.cell (by simp; try omega)).trans (by go_cell)
  have c6 : w1.cell? ⟨w.heap.size + 1, 2, none⟩ = some (i6 r') := (hb1.cell (by simp; try omega)).trans (by go_cell)
  have c7 : w1.cell? ⟨w.heap.size + 1, 3, none⟩ = some (i6 h') := (hb1.cell (by simp; try omega)).trans (by go_cell)
  have c8 : w1.cell? ⟨w.heap.size + 1 + 1, 0, none⟩ = some (i6 0) := (hb1.cell (by simp; try omega)).trans (by go_cell)
  have c9 : w1.cell? ⟨w.heap.size + 1 + 1, 1, none⟩ = some (i6 0) := (hb1.cell (by simp; try omega)).trans (by go_cell)
  have cf0 : w1.frozen? ⟨w.heap.size + 1 + 1, 0, none⟩ = false := (hb1.frozen (by simp; try omega)).trans (by go_cell)
  have cf1 : w1.frozen? ⟨w.heap.size + 1 + 1, 1, none⟩ = false := (hb1.frozen (by simp; try omega)).trans (by go_cell)
  clear hb1
  go_wp2_with fail
  refine (empty_good x' y' r' h' _ hs1.out HB.out).mono ?_
  rintro e w2 ⟨rfl, hb2⟩
  have d0 := (hb2.cell (p := ⟨w.heap.size, 0, none⟩) (block_lt_of_cell c0)).trans c0
  have d1 := (hb2.cell (p := ⟨w.heap.size, 1, none⟩) (block_lt_of_cell c1)).trans c1
  have d2 := (hb2.cell (p := ⟨w.heap.size, 2, none⟩) (block_lt_of_cell c2)).trans c2
  have d3 := (hb2.cell (p := ⟨w.heap.size, 3, none⟩) (block_lt_of_cell c3)).trans c3
  have d4 := (hb2.cell (p := ⟨w.heap.size + 1, 0, none⟩) (block_lt_of_cell c4)).trans c4
  have d5 := (hb2.cell (p := ⟨w.heap.size + 1, 1, none⟩) (block_lt_of_cell c5)).trans c5
  have d6 := (hb2.cell (p := ⟨w.heap.size + 1, 2, none⟩) (block_lt_of_cell c6)).trans c6
  have d7 := (hb2.cell (p := ⟨w.heap.size + 1, 3, none⟩) (block_lt_of_cell c7)).trans c7
  have d8 := (hb2.cell (p := ⟨w.heap.size + 1 + 1, 0, none⟩) (block_lt_of_cell c8)).trans c8
  have d9 := (hb2.cell (p := ⟨w.heap.size + 1 + 1, 1, none⟩) (block_lt_of_cell c9)).trans c9
  have df0 := (hb2.frozen (p := ⟨w.heap.size + 1 + 1, 0, none⟩) (block_lt_of_cell c8)).trans cf0
  have df1 := (hb2.frozen (p := ⟨w.heap.size + 1 + 1, 1, none⟩) (block_lt_of_cell c9)).trans cf1
  have hq2 := q_step hq hb2
  have hz : w.heap.size + 2 < w2.heap.size := block_lt_of_cell d8
  clear c0 c1 c2 c3 c4 c5 c6 c7 c8 c9 cf0 cf1 hq hb2 hs1 HS
  go_wp2
  refine bodyPost_ret (v := .tuple #[.agg #[i6 (x - x'), i6 (y - y')], .bool true]) (by simp [results, Tryd.results10, go_sem, d8, d9]) rfl ⟨rfl, ?_⟩
  (repeat' (first | with_reducible exact Below.refl _ _ | with_reducible assumption | with_reducible refine q_alloc ?_ _ | with_reducible refine q_drew ?_ | with_reducible refine q_drewN _ ?_ | with_reducible refine q_setCell ?_ ?_ _ | (left; simp; done) | (right; simp; done) | (right; dsimp only; omega) | (left; dsimp only; omega)))

theorem shift_none (g x y r h x' y' r' h' : Int) (w : World) (hg : g ≤ 0 ∨ 11 ≤ g) :
    Calls Tryd.prog 10 #[i6 g, rectV x y r h, rectV x' y' r' h'] w fun e w' => e = .returned (.tuple #[.agg #[i6 0, i6 0], .bool false]) ∧ Below w.heap.size w w' := by
  have hg3 : g = 0 ∨ g < 0 ∨ 10 < g := by omega
  clear hg
  rcases hg3 with rfl | hg | hg
  all_goals
    go_enter Tryd.func10, Tryd.ntmps10
    go_wp2
    refine bodyPost_ret (v := .tuple #[.agg #[i6 0, i6 0], .bool false]) (by simp [results, Tryd.results10, go_sem]) rfl ⟨rfl, ?_⟩
    (repeat' (first | with_reducible exact Below.refl _ _ | with_reducible assumption | with_reducible refine q_alloc ?_ _ | with_reducible refine q_drew ?_ | with_reducible refine q_drewN _ ?_ | with_reducible refine q_setCell ?_ ?_ _ | (left; simp; done) | (right; simp; done) | (right; dsimp only; omega) | (left; dsimp only; omega)))

theorem shift_badA (g x y r h x' y' r' h' : Int) (w : World) (hs : RowAt 1 noneCells w) (ga : ¬ Good x y r h) (h1 : 1 ≤ g) (h2 : g ≤ 10) :
    Calls Tryd.prog 10 #[i6 g, rectV x y r h, rectV x' y' r' h'] w fun e w' => e = .returned (.tuple #[.agg #[i6 0, i6 0], .bool false]) ∧ Below w.heap.size w w' := by
  have HS := Lib.hid hs
  have HA := Lib.hid ga
  have hl := hs.lt
  clear hs ga
  go_enter Tryd.func10, Tryd.ntmps10
  go_wp2_with (go_at_call 17; go_in)
  refine (empty_bad x y r h _ ?_ HA.out).mono ?_
  · exact ((HS.out.alloc _).alloc _).alloc _
  rintro e w1 ⟨rfl, hb1⟩
  have hq := q_step (a := w) (by (repeat' (first | with_reducible exact Below.refl _ _ | with_reducible assumption | with_reducible refine q_alloc ?_ _ | with_reducible refine q_drew ?_ | with_reducible refine q_drewN _ ?_ | with_reducible refine q_setCell ?_ ?_ _ | (left; simp; done) | (right; simp; done) | (right; dsimp only; omega) | (left; dsimp only; omega)))) hb1
  have c8 : w1.cell? ⟨w.heap.size + 1 + 1, 0, none⟩ = some (i6 0) := (hb1.cell (by simp; try omega)).trans (by go_cell)
  have c9 : w1.cell? ⟨w.heap.size + 1 + 1, 1, none⟩ = some (i6 0) := (hb1.cell (by simp; try omega)).trans (by go_cell)
  have cf0 : w1.frozen? ⟨w.heap.size + 1 + 1, 0, none⟩ = false := (hb1.frozen (by simp; try omega)).trans (by go_cell)
  have cf1 : w1.frozen? ⟨w.heap.size + 1 + 1, 1, none⟩ = false := (hb1.frozen (by simp; try omega)).trans (by go_cell)
  clear hb1
  go_wp2
  refine bodyPost_ret (v := .tuple #[.agg #[i6 0, i6 0], .bool false]) (by simp [results, Tryd.results10, go_sem, c8, c9]) rfl ⟨rfl, ?_⟩
  (repeat' (first | with_reducible exact Below.refl _ _ | with_reducible assumption | with_reducible refine q_alloc ?_ _ | with_reducible refine q_drew ?_ | with_reducible refine q_drewN _ ?_ | with_reducible refine q_setCell ?_ ?_ _ | (left; simp; done) | (right; simp; done) | (right; dsimp only; omega) | (left; dsimp only; omega)))

theorem shift_badB (g x y r h x' y' r' h' : Int) (w : World) (hs : RowAt 1 noneCells w) (ga : Good x y r h) (gb : ¬ Good x' y' r' h') (h1 : 1 ≤ g) (h2 : g ≤ 10) :
    Calls Tryd.prog 10 #[i6 g, rectV x y r h, rectV x' y' r' h'] w fun e w' => e = .returned (.tuple #[.agg #[i6 0, i6 0], .bool false]) ∧ Below w.heap.size w w' := by
  have ba := ga.bounds
  have HS := Lib.hid hs
  have HA := Lib.hid ga
  have HB := Lib.hid gb
  have hl := hs.lt
  clear hs ga gb
  go_enter Tryd.func10, Tryd.ntmps10
  go_wp2_with (go_at_call 17; go_in)
  refine (empty_good x y r h _ ?_ HA.out).mono ?_
  · exact ((HS.out.alloc _).alloc _).alloc _
  rintro e w1 ⟨rfl, hb1⟩
  have hq := q_step (a := w) (by (repeat' (first | with_reducible exact Below.refl _ _ | with_reducible assumption | with_reducible refine q_alloc ?_ _ | with_reducible refine q_drew ?_ | with_reducible refine q_drewN _ ?_ | with_reducible refine q_setCell ?_ ?_ _ | (left; simp; done) | (right; simp; done) | (right; dsimp only; omega) | (left; dsimp only; omega)))) hb1
  have hs1 := Lib.hid ((((HS.out.alloc _).alloc _).alloc _).below hb1)
  have c0 : w1.cell? ⟨w.heap.size, 0, none⟩ = some (i6 x) := (hb1.cell (by simp; try omega)).trans (by go_cell)
  have c1 : w1.cell? ⟨w.heap.size, 1, none⟩ = some (i6 y) := (hb1.cell (by simp; try omega)).trans (by go_cell)
  have c2 : w1.cell? ⟨w.heap.size, 2, none⟩ = some (i6 r) := (hb1.cell (by simp; try omega)).trans (by go_cell)
  have c3 : w1.cell? ⟨w.heap.size, 3, none⟩ = some (i6 h) := (hb1.cell (by simp; try omega)).trans (by go_cell)
  have c4 : w1.cell? ⟨w.heap.size + 1, 0, none⟩ = some (i6 x') := (hb1.cell (by simp; try omega)).trans (by go_cell)
  have c5 : w1.cell? ⟨w.heap.size + 1, 1, none⟩ = some (i6 y') := (hb1.cell (by simp; try omega)).trans (by go_cell)
  have c6 : w1.cell? ⟨w.heap.size + 1, 2, none⟩ = some (i6 r') := (hb1.cell (by simp; try omega)).trans (by go_cell)
  have c7 : w1.cell? ⟨w.heap.size + 1, 3, none⟩ = some (i6 h') := (hb1.cell (by simp; try omega)).trans (by go_cell)
  have c8 : w1.cell? ⟨w.heap.size + 1 + 1, 0, none⟩ = some (i6 0) := (hb1.cell (by simp; try omega)).trans (by go_cell)
  have c9 : w1.cell? ⟨w.heap.size + 1 + 1, 1, none⟩ = some (i6 0) := (hb1.cell (by simp; try omega)).trans (by go_cell)
  have cf0 : w1.frozen? ⟨w.heap.size + 1 + 1, 0, none⟩ = false := (hb1.frozen (by simp; try omega)).trans (by go_cell)
  have cf1 : w1.frozen? ⟨w.heap.size + 1 + 1, 1, none⟩ = false := (hb1.frozen (by simp; try omega)).trans (by go_cell)
  clear hb1
  go_wp2_with fail
  refine (empty_bad x' y' r' h' _ hs1.out HB.out).mono ?_
  rintro e w2 ⟨rfl, hb2⟩
  have d0 := (hb2.cell (p := ⟨w.heap.size, 0, none⟩) (block_lt_of_cell c0)).trans c0
  have d1 := (hb2.cell (p := ⟨w.heap.size, 1, none⟩) (block_lt_of_cell c1)).trans c1
  have d2 := (hb2.cell (p := ⟨w.heap.size, 2, none⟩) (block_lt_of_cell c2)).trans c2
  have d3 := (hb2.cell (p := ⟨w.heap.size, 3, none⟩) (block_lt_of_cell c3)).trans c3
  have d4 := (hb2.cell (p := ⟨w.heap.size + 1, 0, none⟩) (block_lt_of_cell c4)).trans c4
  have d5 := (hb2.cell (p := ⟨w.heap.size + 1, 1, none⟩) (block_lt_of_cell c5)).trans c5
  have d6 := (hb2.cell (p := ⟨w.heap.size + 1, 2, none⟩) (block_lt_of_cell c6)).trans c6
  have d7 := (hb2.cell (p := ⟨w.heap.size + 1, 3, none⟩) (block_lt_of_cell c7)).trans c7
  have d8 := (hb2.cell (p := ⟨w.heap.size + 1 + 1, 0, none⟩) (block_lt_of_cell c8)).trans c8
  have d9 := (hb2.cell (p := ⟨w.heap.size + 1 + 1, 1, none⟩) (block_lt_of_cell c9)).trans c9
  have df0 := (hb2.frozen (p := ⟨w.heap.size + 1 + 1, 0, none⟩) (block_lt_of_cell c8)).trans cf0
  have df1 := (hb2.frozen (p := ⟨w.heap.size + 1 + 1, 1, none⟩) (block_lt_of_cell c9)).trans cf1
  have hq2 := q_step hq hb2
  have hz : w.heap.size + 2 < w2.heap.size := block_lt_of_cell d8
  clear c0 c1 c2 c3 c4 c5 c6 c7 c8 c9 cf0 cf1 hq hb2 hs1 HS
  go_wp2
  refine bodyPost_ret (v := .tuple #[.agg #[i6 0, i6 0], .bool false]) (by simp [results, Tryd.results10, go_sem, d8, d9]) rfl ⟨rfl, ?_⟩
  (repeat' (first | with_reducible exact Below.refl _ _ | with_reducible assumption | with_reducible refine q_alloc ?_ _ | with_reducible refine q_drew ?_ | with_reducible refine q_drewN _ ?_ | with_reducible refine q_setCell ?_ ?_ _ | (left; simp; done) | (right; simp; done) | (right; dsimp only; omega) | (left; dsimp only; omega)))

end Go.Proofs.YtamcgdepipebeaaDoor
