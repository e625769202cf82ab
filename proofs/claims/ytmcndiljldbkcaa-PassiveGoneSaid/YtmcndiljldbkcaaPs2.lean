/- Layer 38: a right grab; what it is of. -/
import Derived.Test.YtmcndiljldbkcaaPs1
namespace Go.Proofs.Ytmcndiljldbkcaa
open Go Go.RowKit
set_option linter.unusedSimpArgs false
set_option linter.unusedVariables false
def mostC (b : Bool) : Int := if b then 5 else 255
/-- A grab that may be. -/
structure RightG (g : G) : Prop where
  cl : 1 ≤ g.cl ∧ g.cl ≤ 8
  wi : g.wi ≠ 0
  co : 0 ≤ g.co ∧ g.co ≤ mostC g.bu
  mo : g.mo = 32768 ∨ 0 ≤ g.mo ∧ g.mo ≤ 255
  ma : 0 ≤ g.ma ∧ g.ma ≤ 8191
  pt : g.pt = 0 ∨ g.pt = 1
  kb : g.kb = 0 ∨ g.kb = 1
theorem most_any (b : Bool) (w : World) : Calls Try.prog 26 #[.bool b] w fun e w' => e = .returned (i6 (mostC b)) ∧ w = w' := by
  cases b
  · go_enter Try.func26, Try.ntmps26
    go_wp2_with fail
    go_returns
    exact ⟨rfl, rfl⟩
  · go_enter Try.func26, Try.ntmps26
    go_wp2_with fail
    go_returns
    exact ⟨rfl, rfl⟩
theorem most_t (w : World) : Calls Try.prog 26 #[.bool true] w fun e w' => e = .returned (i6 5) ∧ w = w' := most_any true w
theorem most_f (w : World) : Calls Try.prog 26 #[.bool false] w fun e w' => e = .returned (i6 255) ∧ w = w' := most_any false w
theorem mode_ok (n : Int) (h : n = 0 ∨ n = 1) (w : World) : Calls Try.prog 43 #[i6 n] w fun e w' => e = .returned (.bool true) ∧ w = w' := by
  rcases h with rfl | rfl
  · go_enter Try.func43, Try.ntmps43
    go_wp2_with fail
    go_returns
    exact ⟨rfl, rfl⟩
  · go_enter Try.func43, Try.ntmps43
    go_wp2_with fail
    go_returns
    exact ⟨rfl, rfl⟩
set_option maxRecDepth 100000 in
set_option maxHeartbeats 8000000 in
theorem check_ok (g : G) (w : World) (h : RightG g) : Calls Try.prog 30 #[gV g] w fun e w' => e = .returned (i6 0) ∧ Below w.heap.size w w' := by
  obtain ⟨a0, a1, a2, a3, a4, a5, a6, a7, a8⟩ := g
  obtain ⟨⟨h1, h2⟩, h3, ⟨h4, h5⟩, h6, ⟨h7, h8⟩, h9, h10⟩ := h
  dsimp only at h1 h2 h3 h4 h5 h6 h7 h8 h9 h10 ⊢
  have e1 : decide (a0 < 1) = false := decide_eq_false (by omega)
  have e2 : decide (8 < a0) = false := decide_eq_false (by omega)
  have e3 : (a1 == 0) = false := by simpa using h3
  have e4 : decide (a3 < 0) = false := decide_eq_false (by omega)
  have e7 : decide (a6 < 0) = false := decide_eq_false (by omega)
  have e8 : decide (8191 < a6) = false := decide_eq_false (by omega)
  have H9 := Lib.hid h9
  have H10 := Lib.hid h10
  have g1 : ¬ a0 < 1 := by omega
  have g2 : ¬ 8 < a0 := by omega
  have g4 : ¬ a3 < 0 := by omega
  have g7 : ¬ a6 < 0 := by omega
  have g8 : ¬ 8191 < a6 := by omega
  clear h9 h10 h3
  cases a2
  all_goals
    unfold mostC at h5
    simp only [Bool.false_eq_true, if_false, if_true] at h5
    rcases h6 with rfl | ⟨h61, h62⟩
  all_goals
    try (have e61 : decide (a4 < 0) = false := decide_eq_false (by omega))
    try (have e62 : decide (255 < a4) = false := decide_eq_false (by omega))
    try (have g61 : ¬ a4 < 0 := by omega)
    try (have g62 : ¬ 255 < a4 := by omega)
    try (have e63 : (a4 != 32768) = true := by simp; omega)
    try (have e5 : decide (255 < a3) = false := decide_eq_false (by omega))
    try (have g5 : ¬ 255 < a3 := by omega)
    try (have e5 : decide (5 < a3) = false := decide_eq_false (by omega))
    try (have g5 : ¬ 5 < a3 := by omega)
    go_enter Try.func30, Try.ntmps30
    go_wp2_with fail
    go_quiet ((go_at_call 26; first | exact quiet_eq (most_t _) | exact quiet_eq (most_f _)))
    go_wp2_with fail
    refine (mode_ok _ H9.out _).mono ?_
    rintro e w1 ⟨rfl, rfl⟩
    go_wp2_with fail
    refine (mode_ok _ H10.out _).mono ?_
    rintro e w1 ⟨rfl, rfl⟩
    go_wp2_with fail
    go_returns
    exact ⟨by first | rfl | (simp; done), by (repeat' (first | with_reducible exact Below.refl _ _ | with_reducible assumption | with_reducible refine q_alloc ?_ _ | with_reducible refine q_drew ?_ | with_reducible refine q_drewN _ ?_ | with_reducible refine q_setCell ?_ ?_ _ | (left; simp; done) | (right; simp; done) | (right; dsimp only; omega) | (left; dsimp only; omega)))⟩
def pressV (g : G) : Value := .agg #[i6 g.cl, u3 g.wi, .bool g.bu, i6 g.co, i6 g.mo]
set_option maxRecDepth 100000 in
set_option maxHeartbeats 4000000 in
theorem press_any (g : G) (w : World) : Calls Try.prog 34 #[gV g] w fun e w' => e = .returned (pressV g) ∧ Below w.heap.size w w' := by
  obtain ⟨a0, a1, a2, a3, a4, a5, a6, a7, a8⟩ := g
  go_enter Try.func34, Try.ntmps34
  go_wp2_with fail
  exact bodyPost_ret (v := .agg #[i6 a0, u3 a1, .bool a2, i6 a3, i6 a4]) (by simp [results, Try.results34, go_sem]) rfl ⟨rfl, by (repeat' (first | with_reducible exact Below.refl _ _ | with_reducible assumption | with_reducible refine q_alloc ?_ _ | with_reducible refine q_drew ?_ | with_reducible refine q_drewN _ ?_ | with_reducible refine q_setCell ?_ ?_ _ | (left; simp; done) | (right; simp; done) | (right; dsimp only; omega) | (left; dsimp only; omega)))⟩
end Go.Proofs.Ytmcndiljldbkcaa
