import Derived.Test.YtlofhbeifgaoeaaDoorRect8
import Derived.Test.YtlofhbeifgaoeaaDoorRect5
namespace Go.Proofs.YtlofhbeifgaoeaaDoor
open Go Go.RowKit

theorem more_any (a b : Int) (w : World) :
    Calls Tryd.prog 33 #[i6 a, i6 b] w fun e w' => e = .returned (i6 (max a b)) ∧ w = w' := by
  by_cases h : b < a
  · rw [show max a b = a by omega]
    go_enter Tryd.func33, Tryd.ntmps33
    go_wp2
    go_returns
    exact ⟨rfl, rfl⟩
  · rw [show max a b = b by omega]
    go_enter Tryd.func33, Tryd.ntmps33
    go_wp2
    go_returns
    exact ⟨rfl, rfl⟩
theorem less_any (a b : Int) (w : World) :
    Calls Tryd.prog 34 #[i6 a, i6 b] w fun e w' => e = .returned (i6 (min a b)) ∧ w = w' := by
  by_cases h : a < b
  · rw [show min a b = a by omega]
    go_enter Tryd.func34, Tryd.ntmps34
    go_wp2
    go_returns
    exact ⟨rfl, rfl⟩
  · rw [show min a b = b by omega]
    go_enter Tryd.func34, Tryd.ntmps34
    go_wp2
    go_returns
    exact ⟨rfl, rfl⟩

theorem rof_some (x0 y0 x1 y1 : Int) (w : World) (h1 : x0 < x1) (h2 : y0 < y1) (b1 : -4194304 ≤ x0) (b2 : x1 ≤ 4194304) (b3 : -4194304 ≤ y0) (b4 : y1 ≤ 4194304) :
    Calls Tryd.prog 32 #[i6 x0, i6 y0, i6 x1, i6 y1] w fun e w' => e = .returned (rectV x0 y0 (x1 - x0) (y1 - y0)) ∧ Below w.heap.size w w' := by
  go_enter Tryd.func32, Tryd.ntmps32
  go_wp2_with fail
  go_returns
  exact ⟨rfl, by (repeat' (first | with_reducible exact Below.refl _ _ | with_reducible assumption | with_reducible refine q_alloc ?_ _ | with_reducible refine q_drew ?_ | with_reducible refine q_drewN _ ?_ | with_reducible refine q_setCell ?_ ?_ _ | (left; simp; done) | (right; simp; done) | (right; dsimp only; omega) | (left; dsimp only; omega)))⟩
theorem rof_x (x0 y0 x1 y1 : Int) (w : World) (h1 : x1 ≤ x0) :
    Calls Tryd.prog 32 #[i6 x0, i6 y0, i6 x1, i6 y1] w fun e w' => e = .returned (rectV 0 0 0 0) ∧ Below w.heap.size w w' := by
  go_enter Tryd.func32, Tryd.ntmps32
  go_wp2_with fail
  go_returns
  exact ⟨rfl, by (repeat' (first | with_reducible exact Below.refl _ _ | with_reducible assumption | with_reducible refine q_alloc ?_ _ | with_reducible refine q_drew ?_ | with_reducible refine q_drewN _ ?_ | with_reducible refine q_setCell ?_ ?_ _ | (left; simp; done) | (right; simp; done) | (right; dsimp only; omega) | (left; dsimp only; omega)))⟩
theorem rof_y (x0 y0 x1 y1 : Int) (w : World) (h0 : x0 < x1) (h1 : y1 ≤ y0) :
    Calls Tryd.prog 32 #[i6 x0, i6 y0, i6 x1, i6 y1] w fun e w' => e = .returned (rectV 0 0 0 0) ∧ Below w.heap.size w w' := by
  go_enter Tryd.func32, Tryd.ntmps32
  go_wp2_with fail
  go_returns
  exact ⟨rfl, by (repeat' (first | with_reducible exact Below.refl _ _ | with_reducible assumption | with_reducible refine q_alloc ?_ _ | with_reducible refine q_drew ?_ | with_reducible refine q_drewN _ ?_ | with_reducible refine q_setCell ?_ ?_ _ | (left; simp; done) | (right; simp; done) | (right; dsimp only; omega) | (left; dsimp only; omega)))⟩
theorem rof_any (x0 y0 x1 y1 p q s t : Int) (w : World) (n : Betw x0 y0 x1 y1 p q s t) (b1 : -4194304 ≤ x0) (b2 : x1 ≤ 4194304) (b3 : -4194304 ≤ y0) (b4 : y1 ≤ 4194304) :
    Calls Tryd.prog 32 #[i6 x0, i6 y0, i6 x1, i6 y1] w fun e w' => e = .returned (rectV p q s t) ∧ Below w.heap.size w w' := by
  rcases n with ⟨h1, h2, rfl, rfl, rfl, rfl⟩ | ⟨g, rfl, rfl, rfl, rfl⟩
  · exact rof_some _ _ x1 y1 w h1 h2 b1 b2 b3 b4
  · by_cases h1 : x0 < x1
    · exact rof_y x0 y0 x1 y1 w h1 (by omega)
    · exact rof_x x0 y0 x1 y1 w (by omega)
end Go.Proofs.YtlofhbeifgaoeaaDoor
