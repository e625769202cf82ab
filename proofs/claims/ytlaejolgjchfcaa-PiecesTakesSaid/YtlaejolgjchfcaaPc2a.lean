/- Layer 42: the rules, and a piece's kind. -/
import Derived.Test.YtlaejolgjchfcaaPc1
import Derived.Laws.EntriesVeiled
namespace Go.Proofs.Ytlaejolgjchfcaa
open Go Go.RowKit
set_option linter.unusedSimpArgs false
set_option linter.unusedVariables false
abbrev fV (n : FuncId) : Value := .func (.func n) #[] #[]
def r1B (t n : Int) : Bool := decide (t = n) && decide (n ≤ 16382)
theorem r1_any (t n : Int) (w : World) : Calls Try.prog 35 #[i6 t, i6 n] w fun e w' => e = .returned (.bool (r1B t n)) ∧ w = w' := by
  by_cases h0 : t = n
  rotate_left
  · have hv : r1B t n = false := by unfold r1B; simp; omega
    rw [hv]
    go_enter Try.func35, Try.ntmps35
    go_wp2_with fail
    go_returns
    exact ⟨by first | rfl | (simp; done) | (simp [*]; done), rfl⟩
  by_cases h1 : n ≤ 16382
  rotate_left
  · have hv : r1B t n = false := by unfold r1B; simp; omega
    rw [hv]
    go_enter Try.func35, Try.ntmps35
    go_wp2_with fail
    go_returns
    exact ⟨by first | rfl | (simp; done) | (simp [*]; done), rfl⟩
  have hv : r1B t n = true := by unfold r1B; simp; omega
  rw [hv]
  go_enter Try.func35, Try.ntmps35
  go_wp2_with fail
  go_returns
  exact ⟨by first | rfl | (simp; done) | (simp [*]; done), rfl⟩
def r2B (t n : Int) : Bool := decide (1 ≤ t) && decide (t ≤ 65536) && decide (n = 0)
theorem r2_any (t n : Int) (w : World) : Calls Try.prog 37 #[i6 t, i6 n] w fun e w' => e = .returned (.bool (r2B t n)) ∧ w = w' := by
  by_cases h0 : 1 ≤ t
  rotate_left
  · have hv : r2B t n = false := by unfold r2B; simp; omega
    rw [hv]
    go_enter Try.func37, Try.ntmps37
    go_wp2_with fail
    go_returns
    exact ⟨by first | rfl | (simp; done) | (simp [*]; done), rfl⟩
  by_cases h1 : t ≤ 65536
  rotate_left
  · have hv : r2B t n = false := by unfold r2B; simp; omega
    rw [hv]
    go_enter Try.func37, Try.ntmps37
    go_wp2_with fail
    go_returns
    exact ⟨by first | rfl | (simp; done) | (simp [*]; done), rfl⟩
  by_cases h2 : n = 0
  rotate_left
  · have hv : r2B t n = false := by unfold r2B; simp; omega
    rw [hv]
    go_enter Try.func37, Try.ntmps37
    go_wp2_with fail
    go_returns
    exact ⟨by first | rfl | (simp; done) | (simp [*]; done), rfl⟩
  have hv : r2B t n = true := by unfold r2B; simp; omega
  rw [hv]
  go_enter Try.func37, Try.ntmps37
  go_wp2_with fail
  go_returns
  exact ⟨by first | rfl | (simp; done) | (simp [*]; done), rfl⟩
def r3B (t n : Int) : Bool := decide (t = 0) && decide (1 ≤ n) && decide (n ≤ 16382)
theorem r3_any (t n : Int) (w : World) : Calls Try.prog 39 #[i6 t, i6 n] w fun e w' => e = .returned (.bool (r3B t n)) ∧ w = w' := by
  by_cases h0 : t = 0
  rotate_left
  · have hv : r3B t n = false := by unfold r3B; simp; omega
    rw [hv]
    go_enter Try.func39, Try.ntmps39
    go_wp2_with fail
    go_returns
    exact ⟨by first | rfl | (simp; done) | (simp [*]; done), rfl⟩
  by_cases h1 : 1 ≤ n
  rotate_left
  · have hv : r3B t n = false := by unfold r3B; simp; omega
    rw [hv]
    go_enter Try.func39, Try.ntmps39
    go_wp2_with fail
    go_returns
    exact ⟨by first | rfl | (simp; done) | (simp [*]; done), rfl⟩
  by_cases h2 : n ≤ 16382
  rotate_left
  · have hv : r3B t n = false := by unfold r3B; simp; omega
    rw [hv]
    go_enter Try.func39, Try.ntmps39
    go_wp2_with fail
    go_returns
    exact ⟨by first | rfl | (simp; done) | (simp [*]; done), rfl⟩
  have hv : r3B t n = true := by unfold r3B; simp; omega
  rw [hv]
  go_enter Try.func39, Try.ntmps39
  go_wp2_with fail
  go_returns
  exact ⟨by first | rfl | (simp; done) | (simp [*]; done), rfl⟩
def r4B (t n : Int) : Bool := decide (t = 0) && decide (n = 0)
theorem r4_any (t n : Int) (w : World) : Calls Try.prog 41 #[i6 t, i6 n] w fun e w' => e = .returned (.bool (r4B t n)) ∧ w = w' := by
  by_cases h0 : t = 0
  rotate_left
  · have hv : r4B t n = false := by unfold r4B; simp; omega
    rw [hv]
    go_enter Try.func41, Try.ntmps41
    go_wp2_with fail
    go_returns
    exact ⟨by first | rfl | (simp; done) | (simp [*]; done), rfl⟩
  by_cases h1 : n = 0
  rotate_left
  · have hv : r4B t n = false := by unfold r4B; simp; omega
    rw [hv]
    go_enter Try.func41, Try.ntmps41
    go_wp2_with fail
    go_returns
    exact ⟨by first | rfl | (simp; done) | (simp [*]; done), rfl⟩
  have hv : r4B t n = true := by unfold r4B; simp; omega
  rw [hv]
  go_enter Try.func41, Try.ntmps41
  go_wp2_with fail
  go_returns
  exact ⟨by first | rfl | (simp; done) | (simp [*]; done), rfl⟩
def rulesL : List Value := [.bool false, .bool true, fV 35, fV 36, .bool true, .bool false, fV 37, fV 38, .bool true, .bool false, fV 39, fV 40, .bool true, .bool true, fV 41, fV 42]
theorem ix0 : ∀ w, (Instr.index 75 (.agg rulesL.toArray) (.int .i64 0)).run Try.prog w = .ok (.agg #[.bool false, .bool true, fV 35, fV 36]) w := fun _ => by kernel_rfl
theorem ix1 : ∀ w, (Instr.index 75 (.agg rulesL.toArray) (.int .i64 1)).run Try.prog w = .ok (.agg #[.bool true, .bool false, fV 37, fV 38]) w := fun _ => by kernel_rfl
theorem ix2 : ∀ w, (Instr.index 75 (.agg rulesL.toArray) (.int .i64 2)).run Try.prog w = .ok (.agg #[.bool true, .bool false, fV 39, fV 40]) w := fun _ => by kernel_rfl
theorem ix3 : ∀ w, (Instr.index 75 (.agg rulesL.toArray) (.int .i64 3)).run Try.prog w = .ok (.agg #[.bool true, .bool true, fV 41, fV 42]) w := fun _ => by kernel_rfl
theorem rules_any (w : World) : Calls Try.prog 31 #[] w fun e w' => e = .returned (.agg rulesL.toArray) ∧ Below w.heap.size w w' := by
  have hof : ∀ f b c, (Value.func f b c).oneCell' = true := fun _ _ _ => rfl
  go_enter Try.func31, Try.ntmps31
  go_wp2_with fail
  go_returns
  exact ⟨by first | rfl | (simp [rulesL]; done), by (repeat' (first | with_reducible exact Below.refl _ _ | with_reducible assumption | with_reducible refine q_alloc ?_ _ | with_reducible refine q_drew ?_ | with_reducible refine q_drewN _ ?_ | with_reducible refine q_setCell ?_ ?_ _ | (left; simp; done) | (right; simp; done) | (right; dsimp only; omega) | (left; dsimp only; omega)))⟩
def kindZ (a : Bool) (t : Int) (n : Nat) (l ok : Bool) : Int :=
  if a = false ∧ l = true ∧ r1B t n = true ∧ ok = true then 0 else if a = true ∧ l = false ∧ r2B t n = true ∧ ok = true then 1 else if a = true ∧ l = false ∧ r3B t n = true ∧ ok = true then 2 else if a = true ∧ l = true ∧ r4B t n = true ∧ ok = true then 3 else -1
abbrev pV (a : Bool) (t : Int) (dv : Value) (l : Bool) : Value := .agg #[.bool a, i6 t, dv, .bool l]
end Go.Proofs.Ytlaejolgjchfcaa
