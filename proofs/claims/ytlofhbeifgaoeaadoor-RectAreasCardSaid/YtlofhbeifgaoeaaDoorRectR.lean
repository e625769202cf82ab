import Derived.Test.YtlofhbeifgaoeaaDoorRect2
namespace Go.Proofs.YtlofhbeifgaoeaaDoor
open Go Go.RowKit

theorem rr0 (x y r h : Int) (w : World) (hz : zeroB x y r h = false)  (c0 : ¬ 1 ≤ r) :
    Calls Tryd.prog 10 #[rectV x y r h] w fun e w' => e = .returned (.bool false) ∧ Below w.heap.size w w' := by
  go_enter Tryd.func10, Tryd.ntmps10
  go_wp2_with (with_reducible refine at_bin .eql 23 ?_; refine wpList_eqAgg rfl .eql 23 _ _ _ rfl _ _ rfl rfl eqgRect (rect_eqlz hz _) ?_)
  go_returns
  exact ⟨ret_bool (by first | rfl | (simp; done) | (simp; omega)), by (repeat' (first | with_reducible exact Below.refl _ _ | with_reducible assumption | with_reducible refine q_alloc ?_ _ | with_reducible refine q_drew ?_ | with_reducible refine q_drewN _ ?_ | with_reducible refine q_setCell ?_ ?_ _ | (left; simp; done) | (right; simp; done) | (right; dsimp only; omega) | (left; dsimp only; omega)))⟩

theorem rr1 (x y r h : Int) (w : World) (hz : zeroB x y r h = false) (c0 : 1 ≤ r) (c1 : ¬ 1 ≤ h) :
    Calls Tryd.prog 10 #[rectV x y r h] w fun e w' => e = .returned (.bool false) ∧ Below w.heap.size w w' := by
  go_enter Tryd.func10, Tryd.ntmps10
  go_wp2_with (with_reducible refine at_bin .eql 23 ?_; refine wpList_eqAgg rfl .eql 23 _ _ _ rfl _ _ rfl rfl eqgRect (rect_eqlz hz _) ?_)
  go_returns
  exact ⟨ret_bool (by first | rfl | (simp; done) | (simp; omega)), by (repeat' (first | with_reducible exact Below.refl _ _ | with_reducible assumption | with_reducible refine q_alloc ?_ _ | with_reducible refine q_drew ?_ | with_reducible refine q_drewN _ ?_ | with_reducible refine q_setCell ?_ ?_ _ | (left; simp; done) | (right; simp; done) | (right; dsimp only; omega) | (left; dsimp only; omega)))⟩

theorem rr2 (x y r h : Int) (w : World) (hz : zeroB x y r h = false) (c0 : 1 ≤ r) (c1 : 1 ≤ h) (c2 : ¬ -1048576 ≤ x) :
    Calls Tryd.prog 10 #[rectV x y r h] w fun e w' => e = .returned (.bool false) ∧ Below w.heap.size w w' := by
  go_enter Tryd.func10, Tryd.ntmps10
  go_wp2_with (with_reducible refine at_bin .eql 23 ?_; refine wpList_eqAgg rfl .eql 23 _ _ _ rfl _ _ rfl rfl eqgRect (rect_eqlz hz _) ?_)
  go_returns
  exact ⟨ret_bool (by first | rfl | (simp; done) | (simp; omega)), by (repeat' (first | with_reducible exact Below.refl _ _ | with_reducible assumption | with_reducible refine q_alloc ?_ _ | with_reducible refine q_drew ?_ | with_reducible refine q_drewN _ ?_ | with_reducible refine q_setCell ?_ ?_ _ | (left; simp; done) | (right; simp; done) | (right; dsimp only; omega) | (left; dsimp only; omega)))⟩

theorem rr3 (x y r h : Int) (w : World) (hz : zeroB x y r h = false) (c0 : 1 ≤ r) (c1 : 1 ≤ h) (c2 : -1048576 ≤ x) (c3 : ¬ -1048576 ≤ y) :
    Calls Tryd.prog 10 #[rectV x y r h] w fun e w' => e = .returned (.bool false) ∧ Below w.heap.size w w' := by
  go_enter Tryd.func10, Tryd.ntmps10
  go_wp2_with (with_reducible refine at_bin .eql 23 ?_; refine wpList_eqAgg rfl .eql 23 _ _ _ rfl _ _ rfl rfl eqgRect (rect_eqlz hz _) ?_)
  go_returns
  exact ⟨ret_bool (by first | rfl | (simp; done) | (simp; omega)), by (repeat' (first | with_reducible exact Below.refl _ _ | with_reducible assumption | with_reducible refine q_alloc ?_ _ | with_reducible refine q_drew ?_ | with_reducible refine q_drewN _ ?_ | with_reducible refine q_setCell ?_ ?_ _ | (left; simp; done) | (right; simp; done) | (right; dsimp only; omega) | (left; dsimp only; omega)))⟩

theorem rr4 (x y r h : Int) (w : World) (hz : zeroB x y r h = false) (c0 : 1 ≤ r) (c1 : 1 ≤ h) (c2 : -1048576 ≤ x) (c3 : -1048576 ≤ y) (c4 : ¬ x ≤ 1048576) :
    Calls Tryd.prog 10 #[rectV x y r h] w fun e w' => e = .returned (.bool false) ∧ Below w.heap.size w w' := by
  go_enter Tryd.func10, Tryd.ntmps10
  go_wp2_with (with_reducible refine at_bin .eql 23 ?_; refine wpList_eqAgg rfl .eql 23 _ _ _ rfl _ _ rfl rfl eqgRect (rect_eqlz hz _) ?_)
  go_returns
  exact ⟨ret_bool (by first | rfl | (simp; done) | (simp; omega)), by (repeat' (first | with_reducible exact Below.refl _ _ | with_reducible assumption | with_reducible refine q_alloc ?_ _ | with_reducible refine q_drew ?_ | with_reducible refine q_drewN _ ?_ | with_reducible refine q_setCell ?_ ?_ _ | (left; simp; done) | (right; simp; done) | (right; dsimp only; omega) | (left; dsimp only; omega)))⟩

theorem rr5 (x y r h : Int) (w : World) (hz : zeroB x y r h = false) (c0 : 1 ≤ r) (c1 : 1 ≤ h) (c2 : -1048576 ≤ x) (c3 : -1048576 ≤ y) (c4 : x ≤ 1048576) (c5 : ¬ y ≤ 1048576) :
    Calls Tryd.prog 10 #[rectV x y r h] w fun e w' => e = .returned (.bool false) ∧ Below w.heap.size w w' := by
  go_enter Tryd.func10, Tryd.ntmps10
  go_wp2_with (with_reducible refine at_bin .eql 23 ?_; refine wpList_eqAgg rfl .eql 23 _ _ _ rfl _ _ rfl rfl eqgRect (rect_eqlz hz _) ?_)
  go_returns
  exact ⟨ret_bool (by first | rfl | (simp; done) | (simp; omega)), by (repeat' (first | with_reducible exact Below.refl _ _ | with_reducible assumption | with_reducible refine q_alloc ?_ _ | with_reducible refine q_drew ?_ | with_reducible refine q_drewN _ ?_ | with_reducible refine q_setCell ?_ ?_ _ | (left; simp; done) | (right; simp; done) | (right; dsimp only; omega) | (left; dsimp only; omega)))⟩

theorem rr6 (x y r h : Int) (w : World) (hz : zeroB x y r h = false) (c0 : 1 ≤ r) (c1 : 1 ≤ h) (c2 : -1048576 ≤ x) (c3 : -1048576 ≤ y) (c4 : x ≤ 1048576) (c5 : y ≤ 1048576) (c6 : ¬ r ≤ 1048576 - x) :
    Calls Tryd.prog 10 #[rectV x y r h] w fun e w' => e = .returned (.bool false) ∧ Below w.heap.size w w' := by
  go_enter Tryd.func10, Tryd.ntmps10
  go_wp2_with (with_reducible refine at_bin .eql 23 ?_; refine wpList_eqAgg rfl .eql 23 _ _ _ rfl _ _ rfl rfl eqgRect (rect_eqlz hz _) ?_)
  go_returns
  exact ⟨ret_bool (by first | rfl | (simp; done) | (simp; omega)), by (repeat' (first | with_reducible exact Below.refl _ _ | with_reducible assumption | with_reducible refine q_alloc ?_ _ | with_reducible refine q_drew ?_ | with_reducible refine q_drewN _ ?_ | with_reducible refine q_setCell ?_ ?_ _ | (left; simp; done) | (right; simp; done) | (right; dsimp only; omega) | (left; dsimp only; omega)))⟩

theorem rr7 (x y r h : Int) (w : World) (hz : zeroB x y r h = false) (c0 : 1 ≤ r) (c1 : 1 ≤ h) (c2 : -1048576 ≤ x) (c3 : -1048576 ≤ y) (c4 : x ≤ 1048576) (c5 : y ≤ 1048576) (c6 : r ≤ 1048576 - x) (c7 : ¬ h ≤ 1048576 - y) :
    Calls Tryd.prog 10 #[rectV x y r h] w fun e w' => e = .returned (.bool false) ∧ Below w.heap.size w w' := by
  go_enter Tryd.func10, Tryd.ntmps10
  go_wp2_with (with_reducible refine at_bin .eql 23 ?_; refine wpList_eqAgg rfl .eql 23 _ _ _ rfl _ _ rfl rfl eqgRect (rect_eqlz hz _) ?_)
  go_returns
  exact ⟨ret_bool (by first | rfl | (simp; done) | (simp; omega)), by (repeat' (first | with_reducible exact Below.refl _ _ | with_reducible assumption | with_reducible refine q_alloc ?_ _ | with_reducible refine q_drew ?_ | with_reducible refine q_drewN _ ?_ | with_reducible refine q_setCell ?_ ?_ _ | (left; simp; done) | (right; simp; done) | (right; dsimp only; omega) | (left; dsimp only; omega)))⟩

theorem rr8 (x y r h : Int) (w : World) (hz : zeroB x y r h = false) (c0 : 1 ≤ r) (c1 : 1 ≤ h) (c2 : -1048576 ≤ x) (c3 : -1048576 ≤ y) (c4 : x ≤ 1048576) (c5 : y ≤ 1048576) (c6 : r ≤ 1048576 - x) (c7 : h ≤ 1048576 - y) :
    Calls Tryd.prog 10 #[rectV x y r h] w fun e w' => e = .returned (.bool true) ∧ Below w.heap.size w w' := by
  go_enter Tryd.func10, Tryd.ntmps10
  go_wp2_with (with_reducible refine at_bin .eql 23 ?_; refine wpList_eqAgg rfl .eql 23 _ _ _ rfl _ _ rfl rfl eqgRect (rect_eqlz hz _) ?_)
  go_returns
  exact ⟨ret_bool (by first | rfl | (simp; done) | (simp; omega)), by (repeat' (first | with_reducible exact Below.refl _ _ | with_reducible assumption | with_reducible refine q_alloc ?_ _ | with_reducible refine q_drew ?_ | with_reducible refine q_drewN _ ?_ | with_reducible refine q_setCell ?_ ?_ _ | (left; simp; done) | (right; simp; done) | (right; dsimp only; omega) | (left; dsimp only; omega)))⟩

theorem rrz (x y r h : Int) (w : World) (hz : zeroB x y r h = true) :
    Calls Tryd.prog 10 #[rectV x y r h] w fun e w' => e = .returned (.bool true) ∧ Below w.heap.size w w' := by
  go_enter Tryd.func10, Tryd.ntmps10
  go_wp2_with (with_reducible refine at_bin .eql 23 ?_; refine wpList_eqAgg rfl .eql 23 _ _ _ rfl _ _ rfl rfl eqgRect (rect_eqlz hz _) ?_)
  go_returns
  exact ⟨ret_bool (by first | rfl | (simp; done) | (simp; omega)), by (repeat' (first | with_reducible exact Below.refl _ _ | with_reducible assumption | with_reducible refine q_alloc ?_ _ | with_reducible refine q_drew ?_ | with_reducible refine q_drewN _ ?_ | with_reducible refine q_setCell ?_ ?_ _ | (left; simp; done) | (right; simp; done) | (right; dsimp only; omega) | (left; dsimp only; omega)))⟩

def rightC (x y r h : Int) : Bool := zeroB x y r h || decide (1 ≤ r ∧ 1 ≤ h ∧ -1048576 ≤ x ∧ -1048576 ≤ y ∧ x ≤ 1048576 ∧ y ≤ 1048576 ∧ r ≤ 1048576 - x ∧ h ≤ 1048576 - y)

theorem rright_any (x y r h : Int) (w : World) :
    Calls Tryd.prog 10 #[rectV x y r h] w fun e w' => e = .returned (.bool (rightC x y r h)) ∧ Below w.heap.size w w' := by
  rcases hz : zeroB x y r h with _ | _
  · skip
    by_cases c0 : 1 ≤ r
    · skip
      by_cases c1 : 1 ≤ h
      · skip
        by_cases c2 : -1048576 ≤ x
        · skip
          by_cases c3 : -1048576 ≤ y
          · skip
            by_cases c4 : x ≤ 1048576
            · skip
              by_cases c5 : y ≤ 1048576
              · skip
                by_cases c6 : r ≤ 1048576 - x
                · skip
                  by_cases c7 : h ≤ 1048576 - y
                  · skip
                    rw [show rightC x y r h = true by (unfold rightC; rw [decide_eq_true (by omega)]; simp)]
                    exact rr8 x y r h w hz c0 c1 c2 c3 c4 c5 c6 c7
                  · rw [show rightC x y r h = false by (unfold rightC; rw [hz, decide_eq_false (by omega)]; rfl)]
                    exact rr7 x y r h w hz c0 c1 c2 c3 c4 c5 c6 c7
                · rw [show rightC x y r h = false by (unfold rightC; rw [hz, decide_eq_false (by omega)]; rfl)]
                  exact rr6 x y r h w hz c0 c1 c2 c3 c4 c5 c6
              · rw [show rightC x y r h = false by (unfold rightC; rw [hz, decide_eq_false (by omega)]; rfl)]
                exact rr5 x y r h w hz c0 c1 c2 c3 c4 c5
            · rw [show rightC x y r h = false by (unfold rightC; rw [hz, decide_eq_false (by omega)]; rfl)]
              exact rr4 x y r h w hz c0 c1 c2 c3 c4
          · rw [show rightC x y r h = false by (unfold rightC; rw [hz, decide_eq_false (by omega)]; rfl)]
            exact rr3 x y r h w hz c0 c1 c2 c3
        · rw [show rightC x y r h = false by (unfold rightC; rw [hz, decide_eq_false (by omega)]; rfl)]
          exact rr2 x y r h w hz c0 c1 c2
      · rw [show rightC x y r h = false by (unfold rightC; rw [hz, decide_eq_false (by omega)]; rfl)]
        exact rr1 x y r h w hz c0 c1
    · rw [show rightC x y r h = false by (unfold rightC; rw [hz, decide_eq_false (by omega)]; rfl)]
      exact rr0 x y r h w hz  c0
  · rw [show rightC x y r h = true by (unfold rightC; rw [hz]; rfl)]
    exact rrz x y r h w hz

theorem rightC_good {x y r h : Int} (g : Good x y r h) : rightC x y r h = true := by
  have := g.bounds
  unfold rightC; rw [decide_eq_true (by omega)]; simp
theorem rightC_bad {x y r h : Int} (g : ¬ Good x y r h) : rightC x y r h = true → r = 0 := by
  intro hc
  unfold rightC at hc
  rcases hz : zeroB x y r h with _ | _
  · rw [hz, Bool.false_or] at hc
    have := of_decide_eq_true hc
    exact absurd (good_mk (by omega)) g
  · have := of_decide_eq_true hz
    exact this.2.2.1
end Go.Proofs.YtlofhbeifgaoeaaDoor
