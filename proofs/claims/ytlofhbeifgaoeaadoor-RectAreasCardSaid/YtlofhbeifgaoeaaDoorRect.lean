import Derived.Test.YtlofhbeifgaoeaaDoorProg
import Derived.Test.YtlofhbeifgaoeaaDoorLib
import Derived.Outline
import Derived.Handy
import Derived.KernelRfl
import Derived.Lib.Hide
import Derived.Deep.QuietTactic
import Derived.BigQuiet
import Derived.Deep.RegionWith
namespace Go.Proofs.YtlofhbeifgaoeaaDoor
open Go Go.RowKit

abbrev i6 (n : Int) : Value := .int .i64 n
abbrev rectV (x y w h : Int) : Value := .agg #[i6 x, i6 y, i6 w, i6 h]
/-- The zero rectangle, as the package's own variable holds it. -/
abbrev noneCells : List Value := [i6 0, i6 0, i6 0, i6 0]

def wideB (at_ n : Int) : Bool := decide (1 ≤ n ∧ n ≤ 2097152 ∧ -1048576 ≤ at_ ∧ at_ ≤ 1048576 ∧ at_ + n ≤ 1048576)
def zeroB (x y w h : Int) : Bool := decide (x = 0 ∧ y = 0 ∧ w = 0 ∧ h = 0)
def rightB (x y w h : Int) : Bool := zeroB x y w h || (wideB x w && wideB y h)

theorem wide_any (at_ n : Int) (w : World) :
    Calls Tryd.prog 36 #[i6 at_, i6 n] w fun e w' => e = .returned (.bool (wideB at_ n)) ∧ w = w' := by
  unfold wideB
  by_cases h1 : 1 ≤ n
  · by_cases h2 : n ≤ 2097152
    · by_cases h3 : -1048576 ≤ at_
      · by_cases h4 : at_ ≤ 1048576
        · by_cases h5 : at_ + n ≤ 1048576
          · rw [decide_eq_true (by omega)]
            go_enter Tryd.func36, Tryd.ntmps36
            go_wp2
            go_returns
            exact ⟨ret_bool (by first | rfl | (simp; done) | (simp; omega)), rfl⟩
          · rw [decide_eq_false (by omega)]
            go_enter Tryd.func36, Tryd.ntmps36
            go_wp2
            go_returns
            exact ⟨ret_bool (by first | rfl | (simp; done) | (simp; omega)), rfl⟩
        · rw [decide_eq_false (by omega)]
          go_enter Tryd.func36, Tryd.ntmps36
          go_wp2
          go_returns
          exact ⟨ret_bool (by first | rfl | (simp; omega)), rfl⟩
      · rw [decide_eq_false (by omega)]
        go_enter Tryd.func36, Tryd.ntmps36
        go_wp2
        go_returns
        exact ⟨ret_bool (by first | rfl | (simp; omega)), rfl⟩
    · rw [decide_eq_false (by omega)]
      go_enter Tryd.func36, Tryd.ntmps36
      go_wp2
      go_returns
      exact ⟨ret_bool (by first | rfl | (simp; omega)), rfl⟩
  · rw [decide_eq_false (by omega)]
    go_enter Tryd.func36, Tryd.ntmps36
    go_wp2
    go_returns
    exact ⟨ret_bool (by first | rfl | (simp; omega)), rfl⟩

theorem sizeRect : (Tryd.prog.info? 23).map (·.size) = some noneCells.length := by kernel_rfl

theorem eqgRect : Tryd.prog.eqGuardType Tryd.prog.depth 23 = false := by kernel_rfl

theorem rect_eql0 (x y r h : Int) (w : World) : (binOp .eql 23 (.agg #[i6 x, i6 y, i6 r, i6 h]) (.agg #[i6 0, i6 0, i6 0, i6 0])).run Tryd.prog w = .ok (.bool (zeroB x y r h)) w := by
  unfold zeroB
  by_cases hx : x = 0
  · by_cases hy : y = 0
    · by_cases hr : r = 0
      · by_cases hh : h = 0
        · subst hx hy hr hh
          go_simp
        · subst hx hy hr
          go_simp
      · subst hx hy
        go_simp
    · subst hx
      go_simp
  · go_simp

theorem rect_eqlz {x y r h : Int} {b : Bool} (hz : zeroB x y r h = b) (w : World) : (binOp .eql 23 (.agg #[i6 x, i6 y, i6 r, i6 h]) (.agg #[i6 0, i6 0, i6 0, i6 0])).run Tryd.prog w = .ok (.bool b) w := by
  rw [← hz]; exact rect_eql0 x y r h w

theorem rightB_eq {x y r h : Int} {a b c : Bool} (h1 : zeroB x y r h = a) (h2 : wideB x r = b) (h3 : wideB y h = c) : rightB x y r h = (a || (b && c)) := by
  unfold rightB; rw [h1, h2, h3]

theorem isRight_any (x y r h : Int) (w : World) (hs : RowAt 0 noneCells w) :
    Calls Tryd.prog 29 #[rectV x y r h] w fun e w' => e = .returned (.bool (rightB x y r h)) ∧ Below w.heap.size w w' := by
  rcases hz : zeroB x y r h with _ | _
  · rcases h2 : wideB x r with _ | _
    · rw [show rightB x y r h = false by simp [rightB, hz, h2]]
      go_enter Tryd.func29, Tryd.ntmps29
      go_wp2_with (first | (with_reducible refine at_load 23 (.global 0) ?_; refine wpList_load_cells rfl 23 _ rfl 0 rfl noneCells _ (hs.alloc _) Tryd.underlying23 rfl sizeRect ?_) | (with_reducible refine at_bin .eql 23 ?_; refine wpList_eqAgg rfl .eql 23 _ _ _ rfl _ _ rfl rfl eqgRect (rect_eqlz hz _) ?_) | (go_at_call 36; refine (wide_any _ _ _).mono ?_; rintro e w' ⟨rfl, rfl⟩))
      go_returns
      exact ⟨rfl, by (repeat' (first | with_reducible exact Below.refl _ _ | with_reducible assumption | with_reducible refine q_alloc ?_ _ | with_reducible refine q_drew ?_ | with_reducible refine q_drewN _ ?_ | with_reducible refine q_setCell ?_ ?_ _ | (left; simp; done) | (right; simp; done) | (right; dsimp only; omega) | (left; dsimp only; omega)))⟩
    · rcases h3 : wideB y h with _ | _
      · rw [show rightB x y r h = false by simp [rightB, hz, h2, h3]]
        go_enter Tryd.func29, Tryd.ntmps29
        go_wp2_with (first | (with_reducible refine at_load 23 (.global 0) ?_; refine wpList_load_cells rfl 23 _ rfl 0 rfl noneCells _ (hs.alloc _) Tryd.underlying23 rfl sizeRect ?_) | (with_reducible refine at_bin .eql 23 ?_; refine wpList_eqAgg rfl .eql 23 _ _ _ rfl _ _ rfl rfl eqgRect (rect_eqlz hz _) ?_) | (go_at_call 36; refine (wide_any _ _ _).mono ?_; rintro e w' ⟨rfl, rfl⟩))
        go_returns
        exact ⟨rfl, by (repeat' (first | with_reducible exact Below.refl _ _ | with_reducible assumption | with_reducible refine q_alloc ?_ _ | with_reducible refine q_drew ?_ | with_reducible refine q_drewN _ ?_ | with_reducible refine q_setCell ?_ ?_ _ | (left; simp; done) | (right; simp; done) | (right; dsimp only; omega) | (left; dsimp only; omega)))⟩
      · rw [show rightB x y r h = true by simp [rightB, h2, h3]]
        go_enter Tryd.func29, Tryd.ntmps29
        go_wp2_with (first | (with_reducible refine at_load 23 (.global 0) ?_; refine wpList_load_cells rfl 23 _ rfl 0 rfl noneCells _ (hs.alloc _) Tryd.underlying23 rfl sizeRect ?_) | (with_reducible refine at_bin .eql 23 ?_; refine wpList_eqAgg rfl .eql 23 _ _ _ rfl _ _ rfl rfl eqgRect (rect_eqlz hz _) ?_) | (go_at_call 36; refine (wide_any _ _ _).mono ?_; rintro e w' ⟨rfl, rfl⟩))
        go_returns
        exact ⟨rfl, by (repeat' (first | with_reducible exact Below.refl _ _ | with_reducible assumption | with_reducible refine q_alloc ?_ _ | with_reducible refine q_drew ?_ | with_reducible refine q_drewN _ ?_ | with_reducible refine q_setCell ?_ ?_ _ | (left; simp; done) | (right; simp; done) | (right; dsimp only; omega) | (left; dsimp only; omega)))⟩
  · rw [show rightB x y r h = true by simp [rightB, hz]]
    go_enter Tryd.func29, Tryd.ntmps29
    go_wp2_with (first | (with_reducible refine at_load 23 (.global 0) ?_; refine wpList_load_cells rfl 23 _ rfl 0 rfl noneCells _ (hs.alloc _) Tryd.underlying23 rfl sizeRect ?_) | (with_reducible refine at_bin .eql 23 ?_; refine wpList_eqAgg rfl .eql 23 _ _ _ rfl _ _ rfl rfl eqgRect (rect_eqlz hz _) ?_))
    go_returns
    exact ⟨rfl, by (repeat' (first | with_reducible exact Below.refl _ _ | with_reducible assumption | with_reducible refine q_alloc ?_ _ | with_reducible refine q_drew ?_ | with_reducible refine q_drewN _ ?_ | with_reducible refine q_setCell ?_ ?_ _ | (left; simp; done) | (right; simp; done) | (right; dsimp only; omega) | (left; dsimp only; omega)))⟩

/-- A rectangle that has places. -/
def Good (x y r h : Int) : Prop := wideB x r = true ∧ wideB y h = true
theorem Good.bounds {x y r h : Int} (g : Good x y r h) : 1 ≤ r ∧ r ≤ 2097152 ∧ -1048576 ≤ x ∧ x ≤ 1048576 ∧ x + r ≤ 1048576 ∧ 1 ≤ h ∧ h ≤ 2097152 ∧ -1048576 ≤ y ∧ y ≤ 1048576 ∧ y + h ≤ 1048576 := by
  obtain ⟨a, b⟩ := g
  unfold wideB at a b
  have := of_decide_eq_true a
  have := of_decide_eq_true b
  omega
theorem good_mk {x y r h : Int} (g : 1 ≤ r ∧ -1048576 ≤ x ∧ x + r ≤ 1048576 ∧ 1 ≤ h ∧ -1048576 ≤ y ∧ y + h ≤ 1048576) : Good x y r h :=
  ⟨decide_eq_true (by omega), decide_eq_true (by omega)⟩

theorem right_good (x y r h : Int) (w : World) (hs : RowAt 0 noneCells w) (g : Good x y r h) :
    Calls Tryd.prog 30 #[rectV x y r h] w fun e w' => e = .returned (rectV x y r h) ∧ Below w.heap.size w w' := by
  have hr : rightB x y r h = true := by unfold rightB; rw [g.1, g.2]; simp
  have HR := Lib.hid hr
  clear hr g
  have hw := hs.lt
  go_enter Tryd.func30, Tryd.ntmps30
  go_wp2_with fail
  refine (isRight_any x y r h _ ((hs.alloc _).alloc _)).mono ?_
  rintro e w1 ⟨rfl, hb1⟩
  rw [HR.out]
  have hq := q_step (a := w) (by (repeat' (first | with_reducible exact Below.refl _ _ | with_reducible assumption | with_reducible refine q_alloc ?_ _ | with_reducible refine q_drew ?_ | with_reducible refine q_drewN _ ?_ | with_reducible refine q_setCell ?_ ?_ _ | (left; simp; done) | (right; simp; done) | (right; dsimp only; omega) | (left; dsimp only; omega)))) hb1
  obtain ⟨hc1, hf1, hz1⟩ := q_cells hb1
  simp only [World.size_alloc] at hc1 hf1 hz1
  clear hb1
  go_wp2
  refine bodyPost_ret (v := rectV x y r h) (by simp [results, Tryd.results30, go_sem, hc1]) rfl ⟨rfl, ?_⟩
  (repeat' (first | with_reducible exact Below.refl _ _ | with_reducible assumption | with_reducible refine q_alloc ?_ _ | with_reducible refine q_drew ?_ | with_reducible refine q_drewN _ ?_ | with_reducible refine q_setCell ?_ ?_ _ | (left; simp; done) | (right; simp; done) | (right; dsimp only; omega) | (left; dsimp only; omega)))
end Go.Proofs.YtlofhbeifgaoeaaDoor
