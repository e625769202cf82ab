/- Layer 1: what a size has, out of the table. -/
import Derived.Test.YtbbblopackffiaaDoorProg
import Derived.Test.YtbbblopackffiaaDoorStr2
import Derived.Outline
import Derived.Handy
import Derived.KernelRfl
import Derived.Lib.Hide
import Derived.Deep.QuietTactic
import Derived.BigQuiet
import Derived.Deep.RegionWith
namespace Go.Proofs.YtbbblopackffiaaDoor
open Go Go.RowKit
set_option linter.unusedSimpArgs false
set_option linter.unusedVariables false
abbrev i6 (n : Int) : Value := .int .i64 n
abbrev spanV (a b c d : Int) : Value := .agg #[i6 a, i6 b, i6 c, i6 d]
def spanCells : List Value := [i6 1, i6 1, i6 0, i6 255, i6 2, i6 2, i6 0, i6 65535, i6 4, i6 4, i6 0, i6 4294967295, i6 (-1), i6 1, i6 (-128), i6 127, i6 (-2), i6 2, i6 (-32768), i6 32767, i6 (-4), i6 4, i6 (-2147483648), i6 2147483647]
theorem size98 : (Tryd.prog.info? 98).map (·.size) = some spanCells.length := by kernel_rfl
theorem ix0 : ∀ w, (Instr.index 98 (.agg spanCells.toArray) (.int .i64 0)).run Tryd.prog w = .ok (spanV (1) (1) (0) (255)) w := fun _ => by kernel_rfl
theorem ix1 : ∀ w, (Instr.index 98 (.agg spanCells.toArray) (.int .i64 1)).run Tryd.prog w = .ok (spanV (2) (2) (0) (65535)) w := fun _ => by kernel_rfl
theorem ix2 : ∀ w, (Instr.index 98 (.agg spanCells.toArray) (.int .i64 2)).run Tryd.prog w = .ok (spanV (4) (4) (0) (4294967295)) w := fun _ => by kernel_rfl
theorem ix3 : ∀ w, (Instr.index 98 (.agg spanCells.toArray) (.int .i64 3)).run Tryd.prog w = .ok (spanV (-1) (1) (-128) (127)) w := fun _ => by kernel_rfl
theorem ix4 : ∀ w, (Instr.index 98 (.agg spanCells.toArray) (.int .i64 4)).run Tryd.prog w = .ok (spanV (-2) (2) (-32768) (32767)) w := fun _ => by kernel_rfl
theorem ix5 : ∀ w, (Instr.index 98 (.agg spanCells.toArray) (.int .i64 5)).run Tryd.prog w = .ok (spanV (-4) (4) (-2147483648) (2147483647)) w := fun _ => by kernel_rfl


theorem find_kind (o s : Int) (w : World) (h : ¬ (o = 0 ∨ o = 1)) :
    Calls Tryd.prog 45 #[i6 o, i6 s] w fun e w' => e = .returned (.tuple #[spanV 0 0 0 0, i6 10]) ∧ Below w.heap.size w w' := by
  have h1 : (o != 0) = true := by simp; omega
  have h2 : (o != 1) = true := by simp; omega
  go_enter Tryd.func45, Tryd.ntmps45
  go_wp2
  go_returns
  refine ⟨rfl, ?_⟩
  go_grown

theorem find_at0 (o : Int) (w : World) (hs : RowAt 0 spanCells w) (h : o = 0 ∨ o = 1) :
    Calls Tryd.prog 45 #[i6 o, i6 (1)] w fun e w' => e = .returned (.tuple #[spanV (1) (1) (0) (255), i6 0]) ∧ Below w.heap.size w w' := by
  have i0 := ix0
  have i1 := ix1
  have i2 := ix2
  have i3 := ix3
  have i4 := ix4
  have i5 := ix5
  rcases h with rfl | rfl
  all_goals
    go_enter Tryd.func45, Tryd.ntmps45
    go_wp2_with (refine wpList_load_cells rfl 98 _ rfl 0 rfl spanCells _ (hs.alloc _) Tryd.underlying98 rfl size98 ?_)
    go_rounds 7
    go_returns
    refine ⟨rfl, ?_⟩
    go_grown

theorem find_at1 (o : Int) (w : World) (hs : RowAt 0 spanCells w) (h : o = 0 ∨ o = 1) :
    Calls Tryd.prog 45 #[i6 o, i6 (2)] w fun e w' => e = .returned (.tuple #[spanV (2) (2) (0) (65535), i6 0]) ∧ Below w.heap.size w w' := by
  have i0 := ix0
  have i1 := ix1
  have i2 := ix2
  have i3 := ix3
  have i4 := ix4
  have i5 := ix5
  rcases h with rfl | rfl
  all_goals
    go_enter Tryd.func45, Tryd.ntmps45
    go_wp2_with (refine wpList_load_cells rfl 98 _ rfl 0 rfl spanCells _ (hs.alloc _) Tryd.underlying98 rfl size98 ?_)
    go_rounds 7
    go_returns
    refine ⟨rfl, ?_⟩
    go_grown

theorem find_at2 (o : Int) (w : World) (hs : RowAt 0 spanCells w) (h : o = 0 ∨ o = 1) :
    Calls Tryd.prog 45 #[i6 o, i6 (4)] w fun e w' => e = .returned (.tuple #[spanV (4) (4) (0) (4294967295), i6 0]) ∧ Below w.heap.size w w' := by
  have i0 := ix0
  have i1 := ix1
  have i2 := ix2
  have i3 := ix3
  have i4 := ix4
  have i5 := ix5
  rcases h with rfl | rfl
  all_goals
    go_enter Tryd.func45, Tryd.ntmps45
    go_wp2_with (refine wpList_load_cells rfl 98 _ rfl 0 rfl spanCells _ (hs.alloc _) Tryd.underlying98 rfl size98 ?_)
    go_rounds 7
    go_returns
    refine ⟨rfl, ?_⟩
    go_grown

theorem find_at3 (o : Int) (w : World) (hs : RowAt 0 spanCells w) (h : o = 0 ∨ o = 1) :
    Calls Tryd.prog 45 #[i6 o, i6 (-1)] w fun e w' => e = .returned (.tuple #[spanV (-1) (1) (-128) (127), i6 0]) ∧ Below w.heap.size w w' := by
  have i0 := ix0
  have i1 := ix1
  have i2 := ix2
  have i3 := ix3
  have i4 := ix4
  have i5 := ix5
  rcases h with rfl | rfl
  all_goals
    go_enter Tryd.func45, Tryd.ntmps45
    go_wp2_with (refine wpList_load_cells rfl 98 _ rfl 0 rfl spanCells _ (hs.alloc _) Tryd.underlying98 rfl size98 ?_)
    go_rounds 7
    go_returns
    refine ⟨rfl, ?_⟩
    go_grown

theorem find_at4 (o : Int) (w : World) (hs : RowAt 0 spanCells w) (h : o = 0 ∨ o = 1) :
    Calls Tryd.prog 45 #[i6 o, i6 (-2)] w fun e w' => e = .returned (.tuple #[spanV (-2) (2) (-32768) (32767), i6 0]) ∧ Below w.heap.size w w' := by
  have i0 := ix0
  have i1 := ix1
  have i2 := ix2
  have i3 := ix3
  have i4 := ix4
  have i5 := ix5
  rcases h with rfl | rfl
  all_goals
    go_enter Tryd.func45, Tryd.ntmps45
    go_wp2_with (refine wpList_load_cells rfl 98 _ rfl 0 rfl spanCells _ (hs.alloc _) Tryd.underlying98 rfl size98 ?_)
    go_rounds 7
    go_returns
    refine ⟨rfl, ?_⟩
    go_grown

theorem find_at5 (o : Int) (w : World) (hs : RowAt 0 spanCells w) (h : o = 0 ∨ o = 1) :
    Calls Tryd.prog 45 #[i6 o, i6 (-4)] w fun e w' => e = .returned (.tuple #[spanV (-4) (4) (-2147483648) (2147483647), i6 0]) ∧ Below w.heap.size w w' := by
  have i0 := ix0
  have i1 := ix1
  have i2 := ix2
  have i3 := ix3
  have i4 := ix4
  have i5 := ix5
  rcases h with rfl | rfl
  all_goals
    go_enter Tryd.func45, Tryd.ntmps45
    go_wp2_with (refine wpList_load_cells rfl 98 _ rfl 0 rfl spanCells _ (hs.alloc _) Tryd.underlying98 rfl size98 ?_)
    go_rounds 7
    go_returns
    refine ⟨rfl, ?_⟩
    go_grown

theorem find_size (o : Int) (s : Int) (hn : ¬ (s = 1 ∨ s = 2 ∨ s = 4 ∨ s = -1 ∨ s = -2 ∨ s = -4)) (w : World) (hs : RowAt 0 spanCells w) (h : o = 0 ∨ o = 1) :
    Calls Tryd.prog 45 #[i6 o, i6 s] w fun e w' => e = .returned (.tuple #[spanV 0 0 0 0, i6 17]) ∧ Below w.heap.size w w' := by
  have i0 := ix0
  have i1 := ix1
  have i2 := ix2
  have i3 := ix3
  have i4 := ix4
  have i5 := ix5
  have q0 : ((1 : Int) == s) = false := by simp; omega
  have q1 : ((2 : Int) == s) = false := by simp; omega
  have q2 : ((4 : Int) == s) = false := by simp; omega
  have q3 : ((-1 : Int) == s) = false := by simp; omega
  have q4 : ((-2 : Int) == s) = false := by simp; omega
  have q5 : ((-4 : Int) == s) = false := by simp; omega
  rcases h with rfl | rfl
  all_goals
    go_enter Tryd.func45, Tryd.ntmps45
    go_wp2_with (refine wpList_load_cells rfl 98 _ rfl 0 rfl spanCells _ (hs.alloc _) Tryd.underlying98 rfl size98 ?_)
    go_rounds 7
    go_returns
    refine ⟨rfl, ?_⟩
    go_grown

theorem find_ok (o s n lo hi : Int) (w : World) (hs : RowAt 0 spanCells w) (h : o = 0 ∨ o = 1) (h' : IsSpan s n lo hi) :
    Calls Tryd.prog 45 #[i6 o, i6 s] w fun e w' => e = .returned (.tuple #[spanV s n lo hi, i6 0]) ∧ Below w.heap.size w w' := by
  rcases h' with ⟨rfl, rfl, rfl, rfl⟩ | ⟨rfl, rfl, rfl, rfl⟩ | ⟨rfl, rfl, rfl, rfl⟩ | ⟨rfl, rfl, rfl, rfl⟩ | ⟨rfl, rfl, rfl, rfl⟩ | ⟨rfl, rfl, rfl, rfl⟩
  · exact find_at0 o w hs h
  · exact find_at1 o w hs h
  · exact find_at2 o w hs h
  · exact find_at3 o w hs h
  · exact find_at4 o w hs h
  · exact find_at5 o w hs h

theorem shift_any (o i n : Int) (w : World) (h : o = 0 ∨ o = 1) (hi : 0 ≤ i) (hn : i < n) (hn' : n ≤ 8) :
    Calls Tryd.prog 69 #[i6 o, i6 i, i6 n] w fun e w' => e = .returned (i6 (8 * (if o = 1 then n - 1 - i else i))) ∧ w = w' := by
  rcases h with rfl | rfl
  · rw [if_neg (by omega)]
    go_enter Tryd.func69, Tryd.ntmps69
    go_wp2
    go_returns
    exact ⟨rfl, rfl⟩
  · rw [if_pos rfl]
    go_enter Tryd.func69, Tryd.ntmps69
    go_wp2
    go_returns
    exact ⟨rfl, rfl⟩

def inB (lo hi v : Int) : Bool := decide (lo ≤ v ∧ v ≤ hi)
theorem has_any (s n lo hi v : Int) (w : World) :
    Calls Tryd.prog 47 #[spanV s n lo hi, i6 v] w fun e w' => e = .returned (.bool (inB lo hi v)) ∧ Below w.heap.size w w' := by
  unfold inB
  by_cases h1 : lo ≤ v
  · by_cases h2 : v ≤ hi
    · rw [decide_eq_true ⟨h1, h2⟩]
      go_enter Tryd.func47, Tryd.ntmps47
      go_wp2
      go_returns
      exact ⟨ret_bool (by first | rfl | (simp; done) | (simp; omega)), by go_grown⟩
    · rw [decide_eq_false (by omega)]
      go_enter Tryd.func47, Tryd.ntmps47
      go_wp2
      go_returns
      exact ⟨ret_bool (by first | rfl | (simp; done) | (simp; omega)), by go_grown⟩
  · rw [decide_eq_false (by omega)]
    go_enter Tryd.func47, Tryd.ntmps47
    go_wp2
    go_returns
    exact ⟨ret_bool (by first | rfl | (simp; done) | (simp; omega)), by go_grown⟩
end Go.Proofs.YtbbblopackffiaaDoor
