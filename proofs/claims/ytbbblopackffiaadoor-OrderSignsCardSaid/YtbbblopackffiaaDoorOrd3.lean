/- Layer 1: the number of bytes. -/
import Derived.Test.YtbbblopackffiaaDoorOrd
import Derived.Laws.BitsAllLaws
import Derived.Laws.Bits64
namespace Go.Proofs.YtbbblopackffiaaDoor
open Go Go.RowKit
set_option linter.unusedSimpArgs false
set_option linter.unusedVariables false
theorem shift_eq (o i n k : Int) (w : World) (h : o = 0 ∨ o = 1) (hi : 0 ≤ i) (hn : i < n) (hn' : n ≤ 8) (e : 8 * (if o = 1 then n - 1 - i else i) = k) :
    Calls Tryd.prog 69 #[i6 o, i6 i, i6 n] w fun e w' => e = .returned (i6 k) ∧ w = w' := e ▸ shift_any o i n w h hi hn hn'

theorem u64_in {n : Int} (h : 0 ≤ n) (h' : n < 18446744073709551616) : IntKind.u64.wrap n = n := by
  rw [IntKind.wrap_u64]; omega
theorem or_zero {x : Int} (h : 0 ≤ x) (h' : x < 18446744073709551616) : bits .or .u64 0 x = x := by
  rw [u64_or 0 x (by omega) (by omega) h h']; simp; omega

theorem or_join (i : Nat) {a b : Int} (ha : 0 ≤ a) (hm : a % (2 ^ i : Nat) = 0) (hb : 0 ≤ b) (hb' : b < (2 ^ i : Nat)) (hs : a + b < 18446744073709551616) : bits .or .u64 a b = a + b := by
  obtain ⟨x, rfl⟩ := Int.eq_ofNat_of_zero_le ha
  obtain ⟨y, rfl⟩ := Int.eq_ofNat_of_zero_le hb
  rw [u64_or _ _ (by omega) (by omega) (by omega) (by omega), Int.toNat_natCast, Int.toNat_natCast, nat_join i x y (by exact_mod_cast hm) (by exact_mod_cast hb')]
  simp
theorem or_join' (i : Nat) {a b : Int} (ha : 0 ≤ a) (hm : a % (2 ^ i : Nat) = 0) (hb : 0 ≤ b) (hb' : b < (2 ^ i : Nat)) (hs : a + b < 18446744073709551616) : bits .or .u64 b a = b + a := by
  obtain ⟨x, rfl⟩ := Int.eq_ofNat_of_zero_le ha
  obtain ⟨y, rfl⟩ := Int.eq_ofNat_of_zero_le hb
  rw [u64_or _ _ (by omega) (by omega) (by omega) (by omega), Int.toNat_natCast, Int.toNat_natCast, Nat.or_comm, nat_join i x y (by exact_mod_cast hm) (by exact_mod_cast hb')]
  simp; omega

theorem read1_0 (s m lo hi : Int) (b : ByteArray) (hsz : b.size = 1) (x0 : Int) (hB0 : ((b[0]'(by omega)).toNat : Int) = x0) (w : World) (hlo : -4294967296 ≤ lo ∧ lo ≤ 0) (hhi : 0 ≤ hi ∧ hi ≤ 4294967296) (R : Int) (hR : R = if hi < x0 then x0 - (hi - lo + 1) else x0) :
    Calls Tryd.prog 46 #[spanV s m lo hi, i6 0, .string b] w fun e w' => e = .returned (i6 R) ∧ Below w.heap.size w w' := by
  have HR := Lib.hid hR
  clear hR
  have hb0 : 0 ≤ x0 ∧ x0 < 256 := by have := (b[0]'(by omega)).toNat_lt; omega
  have hw0 : IntKind.u64.wrap x0 = x0 := u64_in (by omega) (by omega)
  obtain ⟨S0, hS0, ho0⟩ : ∃ S, S = x0 ∧ bits .or .u64 0 (x0) = S := ⟨_, rfl, or_zero (by omega) (by omega)⟩
  have hz : IntKind.i64.wrap S0 = S0 := IntWalk.i64_in _ (by omega)
  have hfull : x0 = S0 := by omega
  have hr : 0 ≤ S0 ∧ S0 < 4294967296 := by omega
  rw [hfull] at HR
  clear hfull hS0
  go_enter Tryd.func46, Tryd.ntmps46
  go_wp2_with fail
  refine wp_loop_rounds 2 ?_
  rw [rounds_succ]
  go_wp2_with fail
  go_quiet ((go_at_call 69; exact quiet_eq (shift_eq 0 0 1 0 _ (by omega) (by omega) (by omega) (by omega) rfl)))
  go_wp2_with fail
  have hq1 : Below w.heap.size w ((w.alloc (.cells #[i6 s, i6 m, i6 lo, i6 hi] 79)).drewN nq) := q_drewN _ (q_alloc (Below.refl _ _) _)
  have hc2 : ((w.alloc (.cells #[i6 s, i6 m, i6 lo, i6 hi] 79)).drewN nq).cell? ⟨w.heap.size, 2, none⟩ = some (i6 lo) := cell_new rfl
  have hc3 : ((w.alloc (.cells #[i6 s, i6 m, i6 lo, i6 hi] 79)).drewN nq).cell? ⟨w.heap.size, 3, none⟩ = some (i6 hi) := cell_new rfl
  generalize (w.alloc (.cells #[i6 s, i6 m, i6 lo, i6 hi] 79)).drewN nq = W1 at hq1 hc2 hc3 ⊢
  clear hw0 ho0 hB0
  rw [rounds_succ]
  by_cases hgt : hi < S0
  · have e1 : IntKind.i64.wrap (hi - lo) = hi - lo := IntWalk.i64_in _ (by omega)
    have e2 : IntKind.i64.wrap (hi - lo + 1) = hi - lo + 1 := IntWalk.i64_in _ (by omega)
    have e3 : IntKind.i64.wrap (S0 - (hi - lo + 1)) = S0 - (hi - lo + 1) := IntWalk.i64_in _ (by omega)
    have HQ := Lib.hid (HR.out.trans (if_pos hgt))
    go_wp2_with fail
    go_returns
    exact ⟨by rw [HQ.out]; first | rfl | (simp; done), hq1⟩
  · have HQ := Lib.hid (HR.out.trans (if_neg hgt))
    go_wp2_with fail
    go_returns
    exact ⟨by rw [HQ.out]; first | rfl | (simp; done), hq1⟩

theorem read1_1 (s m lo hi : Int) (b : ByteArray) (hsz : b.size = 1) (x0 : Int) (hB0 : ((b[0]'(by omega)).toNat : Int) = x0) (w : World) (hlo : -4294967296 ≤ lo ∧ lo ≤ 0) (hhi : 0 ≤ hi ∧ hi ≤ 4294967296) (R : Int) (hR : R = if hi < x0 then x0 - (hi - lo + 1) else x0) :
    Calls Tryd.prog 46 #[spanV s m lo hi, i6 1, .string b] w fun e w' => e = .returned (i6 R) ∧ Below w.heap.size w w' := by
  have HR := Lib.hid hR
  clear hR
  have hb0 : 0 ≤ x0 ∧ x0 < 256 := by have := (b[0]'(by omega)).toNat_lt; omega
  have hw0 : IntKind.u64.wrap x0 = x0 := u64_in (by omega) (by omega)
  obtain ⟨S0, hS0, ho0⟩ : ∃ S, S = x0 ∧ bits .or .u64 0 (x0) = S := ⟨_, rfl, or_zero (by omega) (by omega)⟩
  have hz : IntKind.i64.wrap S0 = S0 := IntWalk.i64_in _ (by omega)
  have hfull : x0 = S0 := by omega
  have hr : 0 ≤ S0 ∧ S0 < 4294967296 := by omega
  rw [hfull] at HR
  clear hfull hS0
  go_enter Tryd.func46, Tryd.ntmps46
  go_wp2_with fail
  refine wp_loop_rounds 2 ?_
  rw [rounds_succ]
  go_wp2_with fail
  go_quiet ((go_at_call 69; exact quiet_eq (shift_eq 1 0 1 0 _ (by omega) (by omega) (by omega) (by omega) rfl)))
  go_wp2_with fail
  have hq1 : Below w.heap.size w ((w.alloc (.cells #[i6 s, i6 m, i6 lo, i6 hi] 79)).drewN nq) := q_drewN _ (q_alloc (Below.refl _ _) _)
  have hc2 : ((w.alloc (.cells #[i6 s, i6 m, i6 lo, i6 hi] 79)).drewN nq).cell? ⟨w.heap.size, 2, none⟩ = some (i6 lo) := cell_new rfl
  have hc3 : ((w.alloc (.cells #[i6 s, i6 m, i6 lo, i6 hi] 79)).drewN nq).cell? ⟨w.heap.size, 3, none⟩ = some (i6 hi) := cell_new rfl
  generalize (w.alloc (.cells #[i6 s, i6 m, i6 lo, i6 hi] 79)).drewN nq = W1 at hq1 hc2 hc3 ⊢
  clear hw0 ho0 hB0
  rw [rounds_succ]
  by_cases hgt : hi < S0
  · have e1 : IntKind.i64.wrap (hi - lo) = hi - lo := IntWalk.i64_in _ (by omega)
    have e2 : IntKind.i64.wrap (hi - lo + 1) = hi - lo + 1 := IntWalk.i64_in _ (by omega)
    have e3 : IntKind.i64.wrap (S0 - (hi - lo + 1)) = S0 - (hi - lo + 1) := IntWalk.i64_in _ (by omega)
    have HQ := Lib.hid (HR.out.trans (if_pos hgt))
    go_wp2_with fail
    go_returns
    exact ⟨by rw [HQ.out]; first | rfl | (simp; done), hq1⟩
  · have HQ := Lib.hid (HR.out.trans (if_neg hgt))
    go_wp2_with fail
    go_returns
    exact ⟨by rw [HQ.out]; first | rfl | (simp; done), hq1⟩

theorem read2_0 (s m lo hi : Int) (b : ByteArray) (hsz : b.size = 2) (x0 x1 : Int) (hB0 : ((b[0]'(by omega)).toNat : Int) = x0) (hB1 : ((b[1]'(by omega)).toNat : Int) = x1) (w : World) (hlo : -4294967296 ≤ lo ∧ lo ≤ 0) (hhi : 0 ≤ hi ∧ hi ≤ 4294967296) (R : Int) (hR : R = if hi < x0 + x1 * 256 then x0 + x1 * 256 - (hi - lo + 1) else x0 + x1 * 256) :
    Calls Tryd.prog 46 #[spanV s m lo hi, i6 0, .string b] w fun e w' => e = .returned (i6 R) ∧ Below w.heap.size w w' := by
  have HR := Lib.hid hR
  clear hR
  have hb0 : 0 ≤ x0 ∧ x0 < 256 := by have := (b[0]'(by omega)).toNat_lt; omega
  have hb1 : 0 ≤ x1 ∧ x1 < 256 := by have := (b[1]'(by omega)).toNat_lt; omega
  have hw0 : IntKind.u64.wrap x0 = x0 := u64_in (by omega) (by omega)
  obtain ⟨S0, hS0, ho0⟩ : ∃ S, S = x0 ∧ bits .or .u64 0 (x0) = S := ⟨_, rfl, or_zero (by omega) (by omega)⟩
  have hw1 : IntKind.u64.wrap x1 = x1 := u64_in (by omega) (by omega)
  have hm1 : IntKind.u64.wrap (x1 * 256) = x1 * 256 := u64_in (by omega) (by omega)
  obtain ⟨S1, hS1, ho1⟩ : ∃ S, S = S0 + x1 * 256 ∧ bits .or .u64 S0 (x1 * 256) = S := ⟨_, rfl, or_join' 8 (by omega) (by omega) (by omega) (by omega) (by omega)⟩
  have hz : IntKind.i64.wrap S1 = S1 := IntWalk.i64_in _ (by omega)
  have hfull : x0 + x1 * 256 = S1 := by omega
  have hr : 0 ≤ S1 ∧ S1 < 4294967296 := by omega
  rw [hfull] at HR
  clear hfull hS0 hS1
  go_enter Tryd.func46, Tryd.ntmps46
  go_wp2_with fail
  refine wp_loop_rounds 3 ?_
  rw [rounds_succ]
  go_wp2_with fail
  go_quiet ((go_at_call 69; exact quiet_eq (shift_eq 0 0 2 0 _ (by omega) (by omega) (by omega) (by omega) rfl)))
  go_wp2_with fail
  have hq1 : Below w.heap.size w ((w.alloc (.cells #[i6 s, i6 m, i6 lo, i6 hi] 79)).drewN nq) := q_drewN _ (q_alloc (Below.refl _ _) _)
  have hc2 : ((w.alloc (.cells #[i6 s, i6 m, i6 lo, i6 hi] 79)).drewN nq).cell? ⟨w.heap.size, 2, none⟩ = some (i6 lo) := cell_new rfl
  have hc3 : ((w.alloc (.cells #[i6 s, i6 m, i6 lo, i6 hi] 79)).drewN nq).cell? ⟨w.heap.size, 3, none⟩ = some (i6 hi) := cell_new rfl
  generalize (w.alloc (.cells #[i6 s, i6 m, i6 lo, i6 hi] 79)).drewN nq = W1 at hq1 hc2 hc3 ⊢
  clear hw0 ho0 hB0
  rw [rounds_succ]
  go_wp2_with fail
  go_quiet ((go_at_call 69; exact quiet_eq (shift_eq 0 1 2 8 _ (by omega) (by omega) (by omega) (by omega) rfl)))
  go_wp2_with fail
  replace hq1 : Below w.heap.size w (W1.drewN nq) := q_drewN _ hq1
  replace hc2 : (W1.drewN nq).cell? ⟨w.heap.size, 2, none⟩ = some (i6 lo) := hc2
  replace hc3 : (W1.drewN nq).cell? ⟨w.heap.size, 3, none⟩ = some (i6 hi) := hc3
  generalize W1.drewN nq = W2 at hq1 hc2 hc3 ⊢
  clear hw1 ho1 hB1 hm1
  rw [rounds_succ]
  by_cases hgt : hi < S1
  · have e1 : IntKind.i64.wrap (hi - lo) = hi - lo := IntWalk.i64_in _ (by omega)
    have e2 : IntKind.i64.wrap (hi - lo + 1) = hi - lo + 1 := IntWalk.i64_in _ (by omega)
    have e3 : IntKind.i64.wrap (S1 - (hi - lo + 1)) = S1 - (hi - lo + 1) := IntWalk.i64_in _ (by omega)
    have HQ := Lib.hid (HR.out.trans (if_pos hgt))
    go_wp2_with fail
    go_returns
    exact ⟨by rw [HQ.out]; first | rfl | (simp; done), hq1⟩
  · have HQ := Lib.hid (HR.out.trans (if_neg hgt))
    go_wp2_with fail
    go_returns
    exact ⟨by rw [HQ.out]; first | rfl | (simp; done), hq1⟩

theorem read2_1 (s m lo hi : Int) (b : ByteArray) (hsz : b.size = 2) (x0 x1 : Int) (hB0 : ((b[0]'(by omega)).toNat : Int) = x0) (hB1 : ((b[1]'(by omega)).toNat : Int) = x1) (w : World) (hlo : -4294967296 ≤ lo ∧ lo ≤ 0) (hhi : 0 ≤ hi ∧ hi ≤ 4294967296) (R : Int) (hR : R = if hi < x0 * 256 + x1 then x0 * 256 + x1 - (hi - lo + 1) else x0 * 256 + x1) :
    Calls Tryd.prog 46 #[spanV s m lo hi, i6 1, .string b] w fun e w' => e = .returned (i6 R) ∧ Below w.heap.size w w' := by
  have HR := Lib.hid hR
  clear hR
  have hb0 : 0 ≤ x0 ∧ x0 < 256 := by have := (b[0]'(by omega)).toNat_lt; omega
  have hb1 : 0 ≤ x1 ∧ x1 < 256 := by have := (b[1]'(by omega)).toNat_lt; omega
  have hw0 : IntKind.u64.wrap x0 = x0 := u64_in (by omega) (by omega)
  have hm0 : IntKind.u64.wrap (x0 * 256) = x0 * 256 := u64_in (by omega) (by omega)
  obtain ⟨S0, hS0, ho0⟩ : ∃ S, S = x0 * 256 ∧ bits .or .u64 0 (x0 * 256) = S := ⟨_, rfl, or_zero (by omega) (by omega)⟩
  have hw1 : IntKind.u64.wrap x1 = x1 := u64_in (by omega) (by omega)
  obtain ⟨S1, hS1, ho1⟩ : ∃ S, S = S0 + x1 ∧ bits .or .u64 S0 (x1) = S := ⟨_, rfl, or_join 8 (by omega) (by omega) (by omega) (by omega) (by omega)⟩
  have hz : IntKind.i64.wrap S1 = S1 := IntWalk.i64_in _ (by omega)
  have hfull : x0 * 256 + x1 = S1 := by omega
  have hr : 0 ≤ S1 ∧ S1 < 4294967296 := by omega
  rw [hfull] at HR
  clear hfull hS0 hS1
  go_enter Tryd.func46, Tryd.ntmps46
  go_wp2_with fail
  refine wp_loop_rounds 3 ?_
  rw [rounds_succ]
  go_wp2_with fail
  go_quiet ((go_at_call 69; exact quiet_eq (shift_eq 1 0 2 8 _ (by omega) (by omega) (by omega) (by omega) rfl)))
  go_wp2_with fail
  have hq1 : Below w.heap.size w ((w.alloc (.cells #[i6 s, i6 m, i6 lo, i6 hi] 79)).drewN nq) := q_drewN _ (q_alloc (Below.refl _ _) _)
  have hc2 : ((w.alloc (.cells #[i6 s, i6 m, i6 lo, i6 hi] 79)).drewN nq).cell? ⟨w.heap.size, 2, none⟩ = some (i6 lo) := cell_new rfl
  have hc3 : ((w.alloc (.cells #[i6 s, i6 m, i6 lo, i6 hi] 79)).drewN nq).cell? ⟨w.heap.size, 3, none⟩ = some (i6 hi) := cell_new rfl
  generalize (w.alloc (.cells #[i6 s, i6 m, i6 lo, i6 hi] 79)).drewN nq = W1 at hq1 hc2 hc3 ⊢
  clear hw0 ho0 hB0 hm0
  rw [rounds_succ]
  go_wp2_with fail
  go_quiet ((go_at_call 69; exact quiet_eq (shift_eq 1 1 2 0 _ (by omega) (by omega) (by omega) (by omega) rfl)))
  go_wp2_with fail
  replace hq1 : Below w.heap.size w (W1.drewN nq) := q_drewN _ hq1
  replace hc2 : (W1.drewN nq).cell? ⟨w.heap.size, 2, none⟩ = some (i6 lo) := hc2
  replace hc3 : (W1.drewN nq).cell? ⟨w.heap.size, 3, none⟩ = some (i6 hi) := hc3
  generalize W1.drewN nq = W2 at hq1 hc2 hc3 ⊢
  clear hw1 ho1 hB1
  rw [rounds_succ]
  by_cases hgt : hi < S1
  · have e1 : IntKind.i64.wrap (hi - lo) = hi - lo := IntWalk.i64_in _ (by omega)
    have e2 : IntKind.i64.wrap (hi - lo + 1) = hi - lo + 1 := IntWalk.i64_in _ (by omega)
    have e3 : IntKind.i64.wrap (S1 - (hi - lo + 1)) = S1 - (hi - lo + 1) := IntWalk.i64_in _ (by omega)
    have HQ := Lib.hid (HR.out.trans (if_pos hgt))
    go_wp2_with fail
    go_returns
    exact ⟨by rw [HQ.out]; first | rfl | (simp; done), hq1⟩
  · have HQ := Lib.hid (HR.out.trans (if_neg hgt))
    go_wp2_with fail
    go_returns
    exact ⟨by rw [HQ.out]; first | rfl | (simp; done), hq1⟩
end Go.Proofs.YtbbblopackffiaaDoor
