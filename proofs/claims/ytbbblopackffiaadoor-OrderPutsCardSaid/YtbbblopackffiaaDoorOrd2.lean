/- Layer 1: a number's bytes laid into memory of the call's own. -/
import Derived.Test.YtbbblopackffiaaDoorOrd
import Derived.Laws.BitsAllLaws
import Derived.Laws.Bits64
namespace Go.Proofs.YtbbblopackffiaaDoor
open Go Go.RowKit
set_option linter.unusedSimpArgs false
set_option linter.unusedVariables false

theorem lay1_0 (s m lo hi v : Int) (g off cap : Nat) (z0 : Value) (w : World) (hg : g < w.heap.size) (c0 : w.cell? ⟨g, off, none⟩ = some z0) (f0 : w.frozen? ⟨g, off, none⟩ = false) :
    Calls Tryd.prog 48 #[spanV s m lo hi, i6 0, i6 v, .slice (some ⟨g, off, none⟩) 1 cap] w fun e w' => e = .returned (.tuple #[]) ∧ w' = ((w).setCell ⟨g, off, none⟩ (u8v (digit v 1))).alloc (.cells #[i6 s, i6 m, i6 lo, i6 hi] 79) := by
  have d0 : IntKind.u64.wrap v % 256 = digit v 1 := by rw [IntKind.wrap_u64]; unfold digit; omega
  go_enter Tryd.func48, Tryd.ntmps48
  go_wp2_with fail
  refine wp_loop_rounds 2 ?_
  rw [rounds_succ]
  go_wp2_with fail
  refine (shift_any 0 0 1 _ (by omega) (by omega) (by omega) (by omega)).mono ?_
  rintro e w0 ⟨rfl, rfl⟩
  go_wp2_with fail
  rw [rounds_succ]
  go_wp2_with fail
  go_returns
  exact ⟨rfl, by first | rfl | simp [d0]⟩

theorem lay1_1 (s m lo hi v : Int) (g off cap : Nat) (z0 : Value) (w : World) (hg : g < w.heap.size) (c0 : w.cell? ⟨g, off, none⟩ = some z0) (f0 : w.frozen? ⟨g, off, none⟩ = false) :
    Calls Tryd.prog 48 #[spanV s m lo hi, i6 1, i6 v, .slice (some ⟨g, off, none⟩) 1 cap] w fun e w' => e = .returned (.tuple #[]) ∧ w' = ((w).setCell ⟨g, off, none⟩ (u8v (digit v 1))).alloc (.cells #[i6 s, i6 m, i6 lo, i6 hi] 79) := by
  have d0 : IntKind.u64.wrap v % 256 = digit v 1 := by rw [IntKind.wrap_u64]; unfold digit; omega
  go_enter Tryd.func48, Tryd.ntmps48
  go_wp2_with fail
  refine wp_loop_rounds 2 ?_
  rw [rounds_succ]
  go_wp2_with fail
  refine (shift_any 1 0 1 _ (by omega) (by omega) (by omega) (by omega)).mono ?_
  rintro e w0 ⟨rfl, rfl⟩
  go_wp2_with fail
  rw [rounds_succ]
  go_wp2_with fail
  go_returns
  exact ⟨rfl, by first | rfl | simp [d0]⟩

theorem lay2_0 (s m lo hi v : Int) (g off cap : Nat) (z0 z1 : Value) (w : World) (hg : g < w.heap.size) (c0 : w.cell? ⟨g, off, none⟩ = some z0) (f0 : w.frozen? ⟨g, off, none⟩ = false) (c1 : w.cell? ⟨g, off + 1, none⟩ = some z1) (f1 : w.frozen? ⟨g, off + 1, none⟩ = false) :
    Calls Tryd.prog 48 #[spanV s m lo hi, i6 0, i6 v, .slice (some ⟨g, off, none⟩) 2 cap] w fun e w' => e = .returned (.tuple #[]) ∧ w' = (((w).setCell ⟨g, off, none⟩ (u8v (digit v 1))).setCell ⟨g, off + 1, none⟩ (u8v (digit v 256))).alloc (.cells #[i6 s, i6 m, i6 lo, i6 hi] 79) := by
  have d0 : IntKind.u64.wrap v % 256 = digit v 1 := by rw [IntKind.wrap_u64]; unfold digit; omega
  have d1 : IntKind.u64.wrap v / 256 % 256 = digit v 256 := by rw [IntKind.wrap_u64]; unfold digit; omega
  go_enter Tryd.func48, Tryd.ntmps48
  go_wp2_with fail
  refine wp_loop_rounds 3 ?_
  rw [rounds_succ]
  go_wp2_with fail
  refine (shift_any 0 0 2 _ (by omega) (by omega) (by omega) (by omega)).mono ?_
  rintro e w0 ⟨rfl, rfl⟩
  go_wp2_with fail
  rw [rounds_succ]
  go_wp2_with fail
  refine (shift_any 0 1 2 _ (by omega) (by omega) (by omega) (by omega)).mono ?_
  rintro e w1 ⟨rfl, rfl⟩
  go_wp2_with fail
  rw [rounds_succ]
  go_wp2_with fail
  go_returns
  exact ⟨rfl, by first | rfl | simp [d0, d1]⟩

theorem lay2_1 (s m lo hi v : Int) (g off cap : Nat) (z0 z1 : Value) (w : World) (hg : g < w.heap.size) (c0 : w.cell? ⟨g, off, none⟩ = some z0) (f0 : w.frozen? ⟨g, off, none⟩ = false) (c1 : w.cell? ⟨g, off + 1, none⟩ = some z1) (f1 : w.frozen? ⟨g, off + 1, none⟩ = false) :
    Calls Tryd.prog 48 #[spanV s m lo hi, i6 1, i6 v, .slice (some ⟨g, off, none⟩) 2 cap] w fun e w' => e = .returned (.tuple #[]) ∧ w' = (((w).setCell ⟨g, off, none⟩ (u8v (digit v 256))).setCell ⟨g, off + 1, none⟩ (u8v (digit v 1))).alloc (.cells #[i6 s, i6 m, i6 lo, i6 hi] 79) := by
  have d0 : IntKind.u64.wrap v % 256 = digit v 1 := by rw [IntKind.wrap_u64]; unfold digit; omega
  have d1 : IntKind.u64.wrap v / 256 % 256 = digit v 256 := by rw [IntKind.wrap_u64]; unfold digit; omega
  go_enter Tryd.func48, Tryd.ntmps48
  go_wp2_with fail
  refine wp_loop_rounds 3 ?_
  rw [rounds_succ]
  go_wp2_with fail
  refine (shift_any 1 0 2 _ (by omega) (by omega) (by omega) (by omega)).mono ?_
  rintro e w0 ⟨rfl, rfl⟩
  go_wp2_with fail
  rw [rounds_succ]
  go_wp2_with fail
  refine (shift_any 1 1 2 _ (by omega) (by omega) (by omega) (by omega)).mono ?_
  rintro e w1 ⟨rfl, rfl⟩
  go_wp2_with fail
  rw [rounds_succ]
  go_wp2_with fail
  go_returns
  exact ⟨rfl, by first | rfl | simp [d0, d1]⟩

theorem lay4_0 (s m lo hi v : Int) (g off cap : Nat) (z0 z1 z2 z3 : Value) (w : World) (hg : g < w.heap.size) (c0 : w.cell? ⟨g, off, none⟩ = some z0) (f0 : w.frozen? ⟨g, off, none⟩ = false) (c1 : w.cell? ⟨g, off + 1, none⟩ = some z1) (f1 : w.frozen? ⟨g, off + 1, none⟩ = false) (c2 : w.cell? ⟨g, off + 2, none⟩ = some z2) (f2 : w.frozen? ⟨g, off + 2, none⟩ = false) (c3 : w.cell? ⟨g, off + 3, none⟩ = some z3) (f3 : w.frozen? ⟨g, off + 3, none⟩ = false) :
    Calls Tryd.prog 48 #[spanV s m lo hi, i6 0, i6 v, .slice (some ⟨g, off, none⟩) 4 cap] w fun e w' => e = .returned (.tuple #[]) ∧ w' = (((((w).setCell ⟨g, off, none⟩ (u8v (digit v 1))).setCell ⟨g, off + 1, none⟩ (u8v (digit v 256))).setCell ⟨g, off + 2, none⟩ (u8v (digit v 65536))).setCell ⟨g, off + 3, none⟩ (u8v (digit v 16777216))).alloc (.cells #[i6 s, i6 m, i6 lo, i6 hi] 79) := by
  have d0 : IntKind.u64.wrap v % 256 = digit v 1 := by rw [IntKind.wrap_u64]; unfold digit; omega
  have d1 : IntKind.u64.wrap v / 256 % 256 = digit v 256 := by rw [IntKind.wrap_u64]; unfold digit; omega
  have d2 : IntKind.u64.wrap v / 65536 % 256 = digit v 65536 := by rw [IntKind.wrap_u64]; unfold digit; omega
  have d3 : IntKind.u64.wrap v / 16777216 % 256 = digit v 16777216 := by rw [IntKind.wrap_u64]; unfold digit; omega
  go_enter Tryd.func48, Tryd.ntmps48
  go_wp2_with fail
  refine wp_loop_rounds 5 ?_
  rw [rounds_succ]
  go_wp2_with fail
  refine (shift_any 0 0 4 _ (by omega) (by omega) (by omega) (by omega)).mono ?_
  rintro e w0 ⟨rfl, rfl⟩
  go_wp2_with fail
  rw [rounds_succ]
  go_wp2_with fail
  refine (shift_any 0 1 4 _ (by omega) (by omega) (by omega) (by omega)).mono ?_
  rintro e w1 ⟨rfl, rfl⟩
  go_wp2_with fail
  rw [rounds_succ]
  go_wp2_with fail
  refine (shift_any 0 2 4 _ (by omega) (by omega) (by omega) (by omega)).mono ?_
  rintro e w2 ⟨rfl, rfl⟩
  go_wp2_with fail
  rw [rounds_succ]
  go_wp2_with fail
  refine (shift_any 0 3 4 _ (by omega) (by omega) (by omega) (by omega)).mono ?_
  rintro e w3 ⟨rfl, rfl⟩
  go_wp2_with fail
  rw [rounds_succ]
  go_wp2_with fail
  go_returns
  exact ⟨rfl, by first | rfl | simp [d0, d1, d2, d3]⟩

theorem lay4_1 (s m lo hi v : Int) (g off cap : Nat) (z0 z1 z2 z3 : Value) (w : World) (hg : g < w.heap.size) (c0 : w.cell? ⟨g, off, none⟩ = some z0) (f0 : w.frozen? ⟨g, off, none⟩ = false) (c1 : w.cell? ⟨g, off + 1, none⟩ = some z1) (f1 : w.frozen? ⟨g, off + 1, none⟩ = false) (c2 : w.cell? ⟨g, off + 2, none⟩ = some z2) (f2 : w.frozen? ⟨g, off + 2, none⟩ = false) (c3 : w.cell? ⟨g, off + 3, none⟩ = some z3) (f3 : w.frozen? ⟨g, off + 3, none⟩ = false) :
    Calls Tryd.prog 48 #[spanV s m lo hi, i6 1, i6 v, .slice (some ⟨g, off, none⟩) 4 cap] w fun e w' => e = .returned (.tuple #[]) ∧ w' = (((((w).setCell ⟨g, off, none⟩ (u8v (digit v 16777216))).setCell ⟨g, off + 1, none⟩ (u8v (digit v 65536))).setCell ⟨g, off + 2, none⟩ (u8v (digit v 256))).setCell ⟨g, off + 3, none⟩ (u8v (digit v 1))).alloc (.cells #[i6 s, i6 m, i6 lo, i6 hi] 79) := by
  have d0 : IntKind.u64.wrap v % 256 = digit v 1 := by rw [IntKind.wrap_u64]; unfold digit; omega
  have d1 : IntKind.u64.wrap v / 256 % 256 = digit v 256 := by rw [IntKind.wrap_u64]; unfold digit; omega
  have d2 : IntKind.u64.wrap v / 65536 % 256 = digit v 65536 := by rw [IntKind.wrap_u64]; unfold digit; omega
  have d3 : IntKind.u64.wrap v / 16777216 % 256 = digit v 16777216 := by rw [IntKind.wrap_u64]; unfold digit; omega
  go_enter Tryd.func48, Tryd.ntmps48
  go_wp2_with fail
  refine wp_loop_rounds 5 ?_
  rw [rounds_succ]
  go_wp2_with fail
  refine (shift_any 1 0 4 _ (by omega) (by omega) (by omega) (by omega)).mono ?_
  rintro e w0 ⟨rfl, rfl⟩
  go_wp2_with fail
  rw [rounds_succ]
  go_wp2_with fail
  refine (shift_any 1 1 4 _ (by omega) (by omega) (by omega) (by omega)).mono ?_
  rintro e w1 ⟨rfl, rfl⟩
  go_wp2_with fail
  rw [rounds_succ]
  go_wp2_with fail
  refine (shift_any 1 2 4 _ (by omega) (by omega) (by omega) (by omega)).mono ?_
  rintro e w2 ⟨rfl, rfl⟩
  go_wp2_with fail
  rw [rounds_succ]
  go_wp2_with fail
  refine (shift_any 1 3 4 _ (by omega) (by omega) (by omega) (by omega)).mono ?_
  rintro e w3 ⟨rfl, rfl⟩
  go_wp2_with fail
  rw [rounds_succ]
  go_wp2_with fail
  go_returns
  exact ⟨rfl, by first | rfl | simp [d0, d1, d2, d3]⟩
end Go.Proofs.YtbbblopackffiaaDoor
