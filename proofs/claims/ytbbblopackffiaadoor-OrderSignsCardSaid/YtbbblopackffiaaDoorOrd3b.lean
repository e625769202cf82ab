/- Layer 1: the number of four bytes. -/
import Derived.Test.YtbbblopackffiaaDoorOrd3
namespace Go.Proofs.YtbbblopackffiaaDoor
open Go Go.RowKit
set_option linter.unusedSimpArgs false
set_option linter.unusedVariables false

theorem read4_0 (s m lo hi : Int) (b : ByteArray) (hsz : b.size = 4) (x0 x1 x2 x3 : Int) (hB0 : ((b[0]'(by omega)).toNat : Int) = x0) (hB1 : ((b[1]'(by omega)).toNat : Int) = x1) (hB2 : ((b[2]'(by omega)).toNat : Int) = x2) (hB3 : ((b[3]'(by omega)).toNat : Int) = x3) (w : World) (hlo : -4294967296 ≤ lo ∧ lo ≤ 0) (hhi : 0 ≤ hi ∧ hi ≤ 4294967296) (R : Int) (hR : R = if hi < x0 + x1 * 256 + x2 * 65536 + x3 * 16777216 then x0 + x1 * 256 + x2 * 65536 + x3 * 16777216 - (hi - lo + 1) else x0 + x1 * 256 + x2 * 65536 + x3 * 16777216) :
    Calls Tryd.prog 46 #[spanV s m lo hi, i6 0, .string b] w fun e w' => e = .returned (i6 R) ∧ Below w.heap.size w w' := by
  have HR := Lib.hid hR
  clear hR
  have hb0 : 0 ≤ x0 ∧ x0 < 256 := by have := (b[0]'(by omega)).toNat_lt; omega
  have hb1 : 0 ≤ x1 ∧ x1 < 256 := by have := (b[1]'(by omega)).toNat_lt; omega
  have hb2 : 0 ≤ x2 ∧ x2 < 256 := by have := (b[2]'(by omega)).toNat_lt; omega
  have hb3 : 0 ≤ x3 ∧ x3 < 256 := by have := (b[3]'(by omega)).toNat_lt; omega
  have hw0 : IntKind.u64.wrap x0 = x0 := u64_in (by omega) (by omega)
  obtain ⟨S0, hS0, ho0⟩ : ∃ S, S = x0 ∧ bits .or .u64 0 (x0) = S := ⟨_, rfl, or_zero (by omega) (by omega)⟩
  have hw1 : IntKind.u64.wrap x1 = x1 := u64_in (by omega) (by omega)
  have hm1 : IntKind.u64.wrap (x1 * 256) = x1 * 256 := u64_in (by omega) (by omega)
  obtain ⟨S1, hS1, ho1⟩ : ∃ S, S = S0 + x1 * 256 ∧ bits .or .u64 S0 (x1 * 256) = S := ⟨_, rfl, or_join' 8 (by omega) (by omega) (by omega) (by omega) (by omega)⟩
  have hw2 : IntKind.u64.wrap x2 = x2 := u64_in (by omega) (by omega)
  have hm2 : IntKind.u64.wrap (x2 * 65536) = x2 * 65536 := u64_in (by omega) (by omega)
  obtain ⟨S2, hS2, ho2⟩ : ∃ S, S = S1 + x2 * 65536 ∧ bits .or .u64 S1 (x2 * 65536) = S := ⟨_, rfl, or_join' 16 (by omega) (by omega) (by omega) (by omega) (by omega)⟩
  have hw3 : IntKind.u64.wrap x3 = x3 := u64_in (by omega) (by omega)
  have hm3 : IntKind.u64.wrap (x3 * 16777216) = x3 * 16777216 := u64_in (by omega) (by omega)
  obtain ⟨S3, hS3, ho3⟩ : ∃ S, S = S2 + x3 * 16777216 ∧ bits .or .u64 S2 (x3 * 16777216) = S := ⟨_, rfl, or_join' 24 (by omega) (by omega) (by omega) (by omega) (by omega)⟩
  have hz : IntKind.i64.wrap S3 = S3 := IntWalk.i64_in _ (by omega)
  have hfull : x0 + x1 * 256 + x2 * 65536 + x3 * 16777216 = S3 := by omega
  have hr : 0 ≤ S3 ∧ S3 < 4294967296 := by omega
  rw [hfull] at HR
  clear hfull hS0 hS1 hS2 hS3
  go_enter Tryd.func46, Tryd.ntmps46
  go_wp2_with fail
  refine wp_loop_rounds 5 ?_
  rw [rounds_succ]
  go_wp2_with fail
  go_quiet ((go_at_call 69; exact quiet_eq (shift_eq 0 0 4 0 _ (by omega) (by omega) (by omega) (by omega) rfl)))
  go_wp2_with fail
  have hq1 : Below w.heap.size w ((w.alloc (.cells #[i6 s, i6 m, i6 lo, i6 hi] 79)).drewN nq) := q_drewN _ (q_alloc (Below.refl _ _) _)
  have hc2 : ((w.alloc (.cells #[i6 s, i6 m, i6 lo, i6 hi] 79)).drewN nq).cell? ⟨w.heap.size, 2, none⟩ = some (i6 lo) := cell_new rfl
  have hc3 : ((w.alloc (.cells #[i6 s, i6 m, i6 lo, i6 hi] 79)).drewN nq).cell? ⟨w.heap.size, 3, none⟩ = some (i6 hi) := cell_new rfl
  generalize (w.alloc (.cells #[i6 s, i6 m, i6 lo, i6 hi] 79)).drewN nq = W1 at hq1 hc2 hc3 ⊢
  clear hw0 ho0 hB0
  rw [rounds_succ]
  go_wp2_with fail
  go_quiet ((go_at_call 69; exact quiet_eq (shift_eq 0 1 4 8 _ (by omega) (by omega) (by omega) (by omega) rfl)))
  go_wp2_with fail
  replace hq1 : Below w.heap.size w (W1.drewN nq) := q_drewN _ hq1
  replace hc2 : (W1.drewN nq).cell? ⟨w.heap.size, 2, none⟩ = some (i6 lo) := hc2
  replace hc3 : (W1.drewN nq).cell? ⟨w.heap.size, 3, none⟩ = some (i6 hi) := hc3
  generalize W1.drewN nq = W2 at hq1 hc2 hc3 ⊢
  clear hw1 ho1 hB1 hm1
  rw [rounds_succ]
  go_wp2_with fail
  go_quiet ((go_at_call 69; exact quiet_eq (shift_eq 0 2 4 16 _ (by omega) (by omega) (by omega) (by omega) rfl)))
  go_wp2_with fail
  replace hq1 : Below w.heap.size w (W2.drewN nq) := q_drewN _ hq1
  replace hc2 : (W2.drewN nq).cell? ⟨w.heap.size, 2, none⟩ = some (i6 lo) := hc2
  replace hc3 : (W2.drewN nq).cell? ⟨w.heap.size, 3, none⟩ = some (i6 hi) := hc3
  generalize W2.drewN nq = W3 at hq1 hc2 hc3 ⊢
  clear hw2 ho2 hB2 hm2
  rw [rounds_succ]
  go_wp2_with fail
  go_quiet ((go_at_call 69; exact quiet_eq (shift_eq 0 3 4 24 _ (by omega) (by omega) (by omega) (by omega) rfl)))
  go_wp2_with fail
  replace hq1 : Below w.heap.size w (W3.drewN nq) := q_drewN _ hq1
  replace hc2 : (W3.drewN nq).cell? ⟨w.heap.size, 2, none⟩ = some (i6 lo) := hc2
  replace hc3 : (W3.drewN nq).cell? ⟨w.heap.size, 3, none⟩ = some (i6 hi) := hc3
  generalize W3.drewN nq = W4 at hq1 hc2 hc3 ⊢
  clear hw3 ho3 hB3 hm3
  rw [rounds_succ]
  by_cases hgt : hi < S3
  · have e1 : IntKind.i64.wrap (hi - lo) = hi - lo := IntWalk.i64_in _ (by omega)
    have e2 : IntKind.i64.wrap (hi - lo + 1) = hi - lo + 1 := IntWalk.i64_in _ (by omega)
    have e3 : IntKind.i64.wrap (S3 - (hi - lo + 1)) = S3 - (hi - lo + 1) := IntWalk.i64_in _ (by omega)
    have HQ := Lib.hid (HR.out.trans (if_pos hgt))
    go_wp2_with fail
    go_returns
    exact ⟨by rw [HQ.out]; first | rfl | (simp; done), hq1⟩
  · have HQ := Lib.hid (HR.out.trans (if_neg hgt))
    go_wp2_with fail
    go_returns
    exact ⟨by rw [HQ.out]; first | rfl | (simp; done), hq1⟩

theorem read4_1 (s m lo hi : Int) (b : ByteArray) (hsz : b.size = 4) (x0 x1 x2 x3 : Int) (hB0 : ((b[0]'(by omega)).toNat : Int) = x0) (hB1 : ((b[1]'(by omega)).toNat : Int) = x1) (hB2 : ((b[2]'(by omega)).toNat : Int) = x2) (hB3 : ((b[3]'(by omega)).toNat : Int) = x3) (w : World) (hlo : -4294967296 ≤ lo ∧ lo ≤ 0) (hhi : 0 ≤ hi ∧ hi ≤ 4294967296) (R : Int) (hR : R = if hi < x0 * 16777216 + x1 * 65536 + x2 * 256 + x3 then x0 * 16777216 + x1 * 65536 + x2 * 256 + x3 - (hi - lo + 1) else x0 * 16777216 + x1 * 65536 + x2 * 256 + x3) :
    Calls Tryd.prog 46 #[spanV s m lo hi, i6 1, .string b] w fun e w' => e = .returned (i6 R) ∧ Below w.heap.size w w' := by
  have HR := Lib.hid hR
  clear hR
  have hb0 : 0 ≤ x0 ∧ x0 < 256 := by have := (b[0]'(by omega)).toNat_lt; omega
  have hb1 : 0 ≤ x1 ∧ x1 < 256 := by have := (b[1]'(by omega)).toNat_lt; omega
  have hb2 : 0 ≤ x2 ∧ x2 < 256 := by have := (b[2]'(by omega)).toNat_lt; omega
  have hb3 : 0 ≤ x3 ∧ x3 < 256 := by have := (b[3]'(by omega)).toNat_lt; omega
  have hw0 : IntKind.u64.wrap x0 = x0 := u64_in (by omega) (by omega)
  have hm0 : IntKind.u64.wrap (x0 * 16777216) = x0 * 16777216 := u64_in (by omega) (by omega)
  obtain ⟨S0, hS0, ho0⟩ : ∃ S, S = x0 * 16777216 ∧ bits .or .u64 0 (x0 * 16777216) = S := ⟨_, rfl, or_zero (by omega) (by omega)⟩
  have hw1 : IntKind.u64.wrap x1 = x1 := u64_in (by omega) (by omega)
  have hm1 : IntKind.u64.wrap (x1 * 65536) = x1 * 65536 := u64_in (by omega) (by omega)
  obtain ⟨S1, hS1, ho1⟩ : ∃ S, S = S0 + x1 * 65536 ∧ bits .or .u64 S0 (x1 * 65536) = S := ⟨_, rfl, or_join 24 (by omega) (by omega) (by omega) (by omega) (by omega)⟩
  have hw2 : IntKind.u64.wrap x2 = x2 := u64_in (by omega) (by omega)
  have hm2 : IntKind.u64.wrap (x2 * 256) = x2 * 256 := u64_in (by omega) (by omega)
  obtain ⟨S2, hS2, ho2⟩ : ∃ S, S = S1 + x2 * 256 ∧ bits .or .u64 S1 (x2 * 256) = S := ⟨_, rfl, or_join 16 (by omega) (by omega) (by omega) (by omega) (by omega)⟩
  have hw3 : IntKind.u64.wrap x3 = x3 := u64_in (by omega) (by omega)
  obtain ⟨S3, hS3, ho3⟩ : ∃ S, S = S2 + x3 ∧ bits .or .u64 S2 (x3) = S := ⟨_, rfl, or_join 8 (by omega) (by omega) (by omega) (by omega) (by omega)⟩
  have hz : IntKind.i64.wrap S3 = S3 := IntWalk.i64_in _ (by omega)
  have hfull : x0 * 16777216 + x1 * 65536 + x2 * 256 + x3 = S3 := by omega
  have hr : 0 ≤ S3 ∧ S3 < 4294967296 := by omega
  rw [hfull] at HR
  clear hfull hS0 hS1 hS2 hS3
  go_enter Tryd.func46, Tryd.ntmps46
  go_wp2_with fail
  refine wp_loop_rounds 5 ?_
  rw [rounds_succ]
  go_wp2_with fail
  go_quiet ((go_at_call 69; exact quiet_eq (shift_eq 1 0 4 24 _ (by omega) (by omega) (by omega) (by omega) rfl)))
  go_wp2_with fail
  have hq1 : Below w.heap.size w ((w.alloc (.cells #[i6 s, i6 m, i6 lo, i6 hi] 79)).drewN nq) := q_drewN _ (q_alloc (Below.refl _ _) _)
  have hc2 : ((w.alloc (.cells #[i6 s, i6 m, i6 lo, i6 hi] 79)).drewN nq).cell? ⟨w.heap.size, 2, none⟩ = some (i6 lo) := cell_new rfl
  have hc3 : ((w.alloc (.cells #[i6 s, i6 m, i6 lo, i6 hi] 79)).drewN nq).cell? ⟨w.heap.size, 3, none⟩ = some (i6 hi) := cell_new rfl
  generalize (w.alloc (.cells #[i6 s, i6 m, i6 lo, i6 hi] 79)).drewN nq = W1 at hq1 hc2 hc3 ⊢
  clear hw0 ho0 hB0 hm0
  rw [rounds_succ]
  go_wp2_with fail
  go_quiet ((go_at_call 69; exact quiet_eq (shift_eq 1 1 4 16 _ (by omega) (by omega) (by omega) (by omega) rfl)))
  go_wp2_with fail
  replace hq1 : Below w.heap.size w (W1.drewN nq) := q_drewN _ hq1
  replace hc2 : (W1.drewN nq).cell? ⟨w.heap.size, 2, none⟩ = some (i6 lo) := hc2
  replace hc3 : (W1.drewN nq).cell? ⟨w.heap.size, 3, none⟩ = some (i6 hi) := hc3
  generalize W1.drewN nq = W2 at hq1 hc2 hc3 ⊢
  clear hw1 ho1 hB1 hm1
  rw [rounds_succ]
  go_wp2_with fail
  go_quiet ((go_at_call 69; exact quiet_eq (shift_eq 1 2 4 8 _ (by omega) (by omega) (by omega) (by omega) rfl)))
  go_wp2_with fail
  replace hq1 : Below w.heap.size w (W2.drewN nq) := q_drewN _ hq1
  replace hc2 : (W2.drewN nq).cell? ⟨w.heap.size, 2, none⟩ = some (i6 lo) := hc2
  replace hc3 : (W2.drewN nq).cell? ⟨w.heap.size, 3, none⟩ = some (i6 hi) := hc3
  generalize W2.drewN nq = W3 at hq1 hc2 hc3 ⊢
  clear hw2 ho2 hB2 hm2
  rw [rounds_succ]
  go_wp2_with fail
  go_quiet ((go_at_call 69; exact quiet_eq (shift_eq 1 3 4 0 _ (by omega) (by omega) (by omega) (by omega) rfl)))
  go_wp2_with fail
  replace hq1 : Below w.heap.size w (W3.drewN nq) := q_drewN _ hq1
  replace hc2 : (W3.drewN nq).cell? ⟨w.heap.size, 2, none⟩ = some (i6 lo) := hc2
  replace hc3 : (W3.drewN nq).cell? ⟨w.heap.size, 3, none⟩ = some (i6 hi) := hc3
  generalize W3.drewN nq = W4 at hq1 hc2 hc3 ⊢
  clear hw3 ho3 hB3
  rw [rounds_succ]
  by_cases hgt : hi < S3
  · have e1 : IntKind.i64.wrap (hi - lo) = hi - lo := IntWalk.i64_in _ (by omega)
    have e2 : IntKind.i64.wrap (hi - lo + 1) = hi - lo + 1 := IntWalk.i64_in _ (by omega)
    have e3 : IntKind.i64.wrap (S3 - (hi - lo + 1)) = S3 - (hi - lo + 1) := IntWalk.i64_in _ (by omega)
    have HQ := Lib.hid (HR.out.trans (if_pos hgt))
    go_wp2_with fail
    go_returns
    exact ⟨by rw [HQ.out]; first | rfl | (simp; done), hq1⟩
  · have HQ := Lib.hid (HR.out.trans (if_neg hgt))
    go_wp2_with fail
    go_returns
    exact ⟨by rw [HQ.out]; first | rfl | (simp; done), hq1⟩
end Go.Proofs.YtbbblopackffiaaDoor
