import Derived.Test.YtamcgdepipebeaaDoorGrav
import Derived.Test.YtamcgdepipebeaaDoorRectR
namespace Go.Proofs.YtamcgdepipebeaaDoor
open Go Go.RowKit

theorem rright16_good (x y r h : Int) (w : World) (g : Good x y r h) :
    Calls Tryd.prog 23 #[rectV x y r h] w fun e w' => e = .returned (.bool true) ∧ Below w.heap.size w w' := by
  have hb := g.bounds
  have HR := Lib.hid (rightC_good g)
  clear g
  go_enter Tryd.func23, Tryd.ntmps23
  go_wp2_with fail
  refine (rright_any x y r h _).mono ?_
  rintro e w1 ⟨rfl, hb1⟩
  rw [HR.out]
  have hq := q_step (a := w) (by (repeat' (first | with_reducible exact Below.refl _ _ | with_reducible assumption | with_reducible refine q_alloc ?_ _ | with_reducible refine q_drew ?_ | with_reducible refine q_drewN _ ?_ | with_reducible refine q_setCell ?_ ?_ _ | (left; simp; done) | (right; simp; done) | (right; dsimp only; omega) | (left; dsimp only; omega)))) hb1
  have c0 : w1.cell? ⟨w.heap.size, 2, none⟩ = some (i6 r) := (hb1.cell (by simp; try omega)).trans (by go_cell)
  clear hb1
  go_wp2
  go_returns
  exact ⟨ret_bool (by first | rfl | (simp; done) | (simp; omega)), by (repeat' (first | with_reducible exact Below.refl _ _ | with_reducible assumption | with_reducible refine q_alloc ?_ _ | with_reducible refine q_drew ?_ | with_reducible refine q_drewN _ ?_ | with_reducible refine q_setCell ?_ ?_ _ | (left; simp; done) | (right; simp; done) | (right; dsimp only; omega) | (left; dsimp only; omega)))⟩

theorem rright16_bad (x y r h : Int) (w : World) (g : ¬ Good x y r h) :
    Calls Tryd.prog 23 #[rectV x y r h] w fun e w' => e = .returned (.bool false) ∧ Below w.heap.size w w' := by
  have HR := Lib.hid (rightC_bad g)
  clear g
  rcases hz : rightC x y r h with _ | _
  · have HZ := Lib.hid hz
    clear hz
    go_enter Tryd.func23, Tryd.ntmps23
    go_wp2_with fail
    refine (rright_any x y r h _).mono ?_
    rintro e w1 ⟨rfl, hb1⟩
    rw [HZ.out]
    have hq := q_step (a := w) (by (repeat' (first | with_reducible exact Below.refl _ _ | with_reducible assumption | with_reducible refine q_alloc ?_ _ | with_reducible refine q_drew ?_ | with_reducible refine q_drewN _ ?_ | with_reducible refine q_setCell ?_ ?_ _ | (left; simp; done) | (right; simp; done) | (right; dsimp only; omega) | (left; dsimp only; omega)))) hb1
    clear hb1
    go_wp2
    go_returns
    exact ⟨ret_bool (by first | rfl | (simp; done) | (simp; omega)), by (repeat' (first | with_reducible exact Below.refl _ _ | with_reducible assumption | with_reducible refine q_alloc ?_ _ | with_reducible refine q_drew ?_ | with_reducible refine q_drewN _ ?_ | with_reducible refine q_setCell ?_ ?_ _ | (left; simp; done) | (right; simp; done) | (right; dsimp only; omega) | (left; dsimp only; omega)))⟩
  · have HZ := Lib.hid hz
    obtain rfl := HR.out hz
    clear hz HR
    go_enter Tryd.func23, Tryd.ntmps23
    go_wp2_with fail
    refine (rright_any x y 0 h _).mono ?_
    rintro e w1 ⟨rfl, hb1⟩
    rw [HZ.out]
    have hq := q_step (a := w) (by (repeat' (first | with_reducible exact Below.refl _ _ | with_reducible assumption | with_reducible refine q_alloc ?_ _ | with_reducible refine q_drew ?_ | with_reducible refine q_drewN _ ?_ | with_reducible refine q_setCell ?_ ?_ _ | (left; simp; done) | (right; simp; done) | (right; dsimp only; omega) | (left; dsimp only; omega)))) hb1
    have c0 : w1.cell? ⟨w.heap.size, 2, none⟩ = some (i6 0) := (hb1.cell (by simp; try omega)).trans (by go_cell)
    clear hb1
    go_wp2
    go_returns
    exact ⟨ret_bool (by first | rfl | (simp; done) | (simp; omega)), by (repeat' (first | with_reducible exact Below.refl _ _ | with_reducible assumption | with_reducible refine q_alloc ?_ _ | with_reducible refine q_drew ?_ | with_reducible refine q_drewN _ ?_ | with_reducible refine q_setCell ?_ ?_ _ | (left; simp; done) | (right; simp; done) | (right; dsimp only; omega) | (left; dsimp only; omega)))⟩

theorem rpart_any (d k : Int) (w : World) (h0 : -8000000 ≤ d) (h1 : d ≤ 8000000) (k0 : 0 ≤ k) (k2 : k ≤ 2) :
    Calls Tryd.prog 24 #[i6 d, i6 k] w fun e w' => e = .returned (i6 (half d k)) ∧ w = w' := by
  have hk : k = 0 ∨ k = 1 ∨ k = 2 := by omega
  clear k0 k2
  rcases hk with rfl | rfl | rfl
  · go_enter Tryd.func24, Tryd.ntmps24
    go_wp2
    go_returns
    exact ⟨rfl, rfl⟩
  · by_cases hd : d < 0
    · go_enter Tryd.func24, Tryd.ntmps24
      go_wp2
      go_returns
      exact ⟨ret_int (by simp [half]; omega), rfl⟩
    · go_enter Tryd.func24, Tryd.ntmps24
      go_wp2
      go_returns
      exact ⟨ret_int (by simp [half]), rfl⟩
  · go_enter Tryd.func24, Tryd.ntmps24
    go_wp2
    go_returns
    exact ⟨rfl, rfl⟩
end Go.Proofs.YtamcgdepipebeaaDoor
