/- Layer 1: Row of what is wrong, Put, Get, Pad. -/
import Derived.Test.YtbbblopackffiaaDoorOrd5
namespace Go.Proofs.YtbbblopackffiaaDoor
open Go Go.RowKit
set_option linter.unusedSimpArgs false
set_option linter.unusedVariables false

def BadOrder (od : Int) : Prop := ¬ (od = 0 ∨ od = 1)
def BadSize (s : Int) : Prop := ¬ (s = 1 ∨ s = 2 ∨ s = 4 ∨ s = -1 ∨ s = -2 ∨ s = -4)
abbrev strOk (xs : List Int) : Value := .tuple #[.string (strOfNums xs), i6 0]
abbrev strErr (k : Int) : Value := .tuple #[.string ⟨#[]⟩, i6 k]

set_option maxRecDepth 100000 in
theorem row_kind (od s : Int) (a : Option Addr) (len cap : Nat) (w : World) (hk : BadOrder od) :
    Calls Tryd.prog 21 #[i6 od, i6 s, .slice a len cap] w fun e w' => e = .returned (strErr 10) ∧ Below w.heap.size w w' := by
  go_enter Tryd.func21, Tryd.ntmps21
  go_wp2_with fail
  refine (find_kind od s _ hk).mono ?_
  rintro e w1 ⟨rfl, hq⟩
  have hq1 := q_alloc hq (.cells #[i6 0, i6 0, i6 0, i6 0] 79)
  go_wp2_with fail
  go_returns
  exact ⟨by first | rfl | (simp; done), hq1⟩

set_option maxRecDepth 100000 in
theorem row_size (od s : Int) (a : Option Addr) (len cap : Nat) (w : World) (hs : RowAt 0 spanCells w) (ho : od = 0 ∨ od = 1) (hk : BadSize s) :
    Calls Tryd.prog 21 #[i6 od, i6 s, .slice a len cap] w fun e w' => e = .returned (strErr 17) ∧ Below w.heap.size w w' := by
  go_enter Tryd.func21, Tryd.ntmps21
  go_wp2_with fail
  refine (find_size od s hk _ hs ho).mono ?_
  rintro e w1 ⟨rfl, hq⟩
  have hq1 := q_alloc hq (.cells #[i6 0, i6 0, i6 0, i6 0] 79)
  go_wp2_with fail
  go_returns
  exact ⟨by first | rfl | (simp; done), hq1⟩

set_option maxRecDepth 100000 in
theorem row_many (od s n lo hi : Int) (a : Option Addr) (len cap : Nat) (w : World) (hs : RowAt 0 spanCells w) (ho : od = 0 ∨ od = 1) (h : IsSpan s n lo hi) (hlen : 65536 < len) :
    Calls Tryd.prog 21 #[i6 od, i6 s, .slice a len cap] w fun e w' => e = .returned (strErr 5) ∧ Below w.heap.size w w' := by
  have hb : decide ((65536 : Int) < (len : Int)) = true := decide_eq_true (by omega)
  have HN := Lib.hid h
  clear h
  go_enter Tryd.func21, Tryd.ntmps21
  go_wp2_with fail
  refine (find_ok od s n lo hi _ hs ho HN.out).mono ?_
  rintro e w1 ⟨rfl, hq⟩
  have hq1 := q_alloc hq (.cells #[i6 s, i6 n, i6 lo, i6 hi] 79)
  go_wp2_with fail
  go_returns
  exact ⟨by first | rfl | (simp; done), hq1⟩

set_option maxRecDepth 100000 in
theorem row_nil (od s n lo hi : Int) (a : Option Addr) (cap : Nat) (w : World) (hs : RowAt 0 spanCells w) (ho : od = 0 ∨ od = 1) (h : IsSpan s n lo hi) :
    Calls Tryd.prog 21 #[i6 od, i6 s, .slice a 0 cap] w fun e w' => e = .returned (rowRes od n lo hi []) ∧ Below w.heap.size w w' := by
  have HR : rowRes od n lo hi [] = .tuple #[.string (strOfNums []), i6 0] := rfl
  have HN := Lib.hid h
  obtain ⟨i0, hi0, hz0, hz1, hz2⟩ := info_parts' info_byte
  clear h
  go_enter Tryd.func21, Tryd.ntmps21
  go_wp2_with fail
  refine (find_ok od s n lo hi _ hs ho HN.out).mono ?_
  rintro e w1 ⟨rfl, hq⟩
  go_wp2_with (first
    | (at_make; refine wpList_make_row _ rfl _ _ 50 rfl 5 i0 (u8v 0) und_bytes hi0 hz0 hz1 rfl .i64 .i64 0 rfl rfl ?cb ?cm ?_)
    | go_in)
  case cb => rw [hz2]; omega
  case cm => omega
  have hq1 : Below w.heap.size w ((w1.alloc (.cells #[i6 s, i6 n, i6 lo, i6 hi] 79)).alloc (.cells (madeCells #[u8v 0] 0) 5)) := q_alloc (q_alloc hq _) _
  generalize ((w1.alloc (.cells #[i6 s, i6 n, i6 lo, i6 hi] 79)).alloc (.cells (madeCells #[u8v 0] 0) 5)) = W2 at hq1 ⊢
  have hcv := run_convert_bytes_arg (P := Tryd.prog) W2 50 5 und_bytes und_byte (w1.heap.size + 1) 0 0 0 [] rfl (fun i hi => absurd hi (Nat.not_lt_zero _)) 9 und_string
  go_wp2_with fail
  refine wp_loop_rounds 1 ?_
  rw [rounds_succ]
  go_wp2_with fail
  go_returns
  exact ⟨by rw [HR]; first | rfl | (simp; done), hq1⟩

theorem zero_i6 : True := trivial

theorem put_kind (od s v : Int) (w : World) (hk : BadOrder od) :
    Calls Tryd.prog 16 #[i6 od, i6 s, i6 v] w fun e w' => e = .returned (strErr 10) ∧ Below w.heap.size w w' := by
  go_enter Tryd.func16, Tryd.ntmps16
  go_wp2_with fail
  refine (row_kind od s _ _ _ _ hk).mono ?_
  rintro e w1 ⟨rfl, hq⟩
  have hq1 := q_step (q_alloc (Below.refl _ _) _) hq
  go_wp2_with fail
  go_returns
  exact ⟨by first | rfl | (simp; done), hq1⟩

theorem put_size (od s v : Int) (w : World) (hs : RowAt 0 spanCells w) (ho : od = 0 ∨ od = 1) (hk : BadSize s) :
    Calls Tryd.prog 16 #[i6 od, i6 s, i6 v] w fun e w' => e = .returned (strErr 17) ∧ Below w.heap.size w w' := by
  go_enter Tryd.func16, Tryd.ntmps16
  go_wp2_with fail
  refine (row_size od s _ _ _ _ (hs.alloc _) ho hk).mono ?_
  rintro e w1 ⟨rfl, hq⟩
  have hq1 := q_step (q_alloc (Below.refl _ _) _) hq
  go_wp2_with fail
  go_returns
  exact ⟨by first | rfl | (simp; done), hq1⟩

theorem row_alt (od n lo hi : Int) (us : List Int) : ∃ str e, rowRes od n lo hi us = .tuple #[.string str, i6 e] := by
  unfold rowRes
  split
  · exact ⟨_, _, rfl⟩
  · exact ⟨_, _, rfl⟩
theorem put_ok (od s n lo hi v : Int) (w : World) (hs : RowAt 0 spanCells w) (ho : od = 0 ∨ od = 1) (h : IsSpan s n lo hi) :
    Calls Tryd.prog 16 #[i6 od, i6 s, i6 v] w fun e w' => e = .returned (rowRes od n lo hi [v]) ∧ Below w.heap.size w w' := by
  obtain ⟨str, k, hk⟩ := row_alt od n lo hi [v]
  have HK := Lib.hid hk
  have HN := Lib.hid h
  clear hk h
  go_enter Tryd.func16, Tryd.ntmps16
  go_wp2_with fail
  refine (row_some od s n lo hi w.heap.size 0 1 [v] _ (hs.alloc _) ho HN.out (by simp) (by simp) ⟨by simp [World.size_alloc], fun j hj => ?_⟩).mono ?_
  · match j, hj with
    | 0, _ => exact cell_new rfl
  rintro e w1 ⟨rfl, hq⟩
  have hq1 := q_step (q_alloc (Below.refl _ _) _) hq
  rw [HK.out]
  go_wp2_with fail
  go_returns
  exact ⟨by rw [HK.out]; first | rfl | (simp; done), hq1⟩

theorem pad_neg (n : Int) (w : World) (h : n < 0) :
    Calls Tryd.prog 27 #[i6 n] w fun e w' => e = .returned (i6 0) ∧ w = w' := by
  go_enter Tryd.func27, Tryd.ntmps27
  go_wp2_with fail
  go_returns
  exact ⟨rfl, rfl⟩
theorem pad_pos (n : Int) (w : World) (h : 0 ≤ n) :
    Calls Tryd.prog 27 #[i6 n] w fun e w' => e = .returned (i6 ((4 - n % 4) % 4)) ∧ w = w' := by
  have h1 : n.tmod 4 = n % 4 := by rw [Int.tmod_eq_emod_of_nonneg h]
  have h2 : (4 - n % 4).tmod 4 = (4 - n % 4) % 4 := by rw [Int.tmod_eq_emod_of_nonneg (by omega)]
  have h3 : IntKind.i64.wrap (n % 4) = n % 4 := IntWalk.i64_in _ (by omega)
  have h4 : IntKind.i64.wrap (4 - n % 4) = 4 - n % 4 := IntWalk.i64_in _ (by omega)
  have h5 : IntKind.i64.wrap ((4 - n % 4) % 4) = (4 - n % 4) % 4 := IntWalk.i64_in _ (by omega)
  go_enter Tryd.func27, Tryd.ntmps27
  go_wp2_with fail
  go_returns
  exact ⟨by first | rfl | (simp; done), rfl⟩

/-- What Get tells, of a right order and size. -/
def getRes (od n lo hi : Int) (xs : List Int) : Value :=
  if (xs.length : Int) < n then .tuple #[i6 0, i6 3] else if n < (xs.length : Int) then .tuple #[i6 0, i6 4] else .tuple #[i6 (dec od lo hi xs), i6 0]

theorem get_kind (od s : Int) (b : ByteArray) (w : World) (hk : BadOrder od) :
    Calls Tryd.prog 19 #[i6 od, i6 s, .string b] w fun e w' => e = .returned (.tuple #[i6 0, i6 10]) ∧ Below w.heap.size w w' := by
  go_enter Tryd.func19, Tryd.ntmps19
  go_wp2_with fail
  refine (find_kind od s _ hk).mono ?_
  rintro e w1 ⟨rfl, hq⟩
  have hq1 := q_alloc hq (.cells #[i6 0, i6 0, i6 0, i6 0] 79)
  go_wp2_with fail
  go_returns
  exact ⟨by first | rfl | (simp; done), hq1⟩

theorem get_size (od s : Int) (b : ByteArray) (w : World) (hs : RowAt 0 spanCells w) (ho : od = 0 ∨ od = 1) (hk : BadSize s) :
    Calls Tryd.prog 19 #[i6 od, i6 s, .string b] w fun e w' => e = .returned (.tuple #[i6 0, i6 17]) ∧ Below w.heap.size w w' := by
  go_enter Tryd.func19, Tryd.ntmps19
  go_wp2_with fail
  refine (find_size od s hk _ hs ho).mono ?_
  rintro e w1 ⟨rfl, hq⟩
  have hq1 := q_alloc hq (.cells #[i6 0, i6 0, i6 0, i6 0] 79)
  go_wp2_with fail
  go_returns
  exact ⟨by first | rfl | (simp; done), hq1⟩

theorem get_ok (od s n lo hi : Int) (xs : List Int) (w : World) (hs : RowAt 0 spanCells w) (ho : od = 0 ∨ od = 1) (h : IsSpan s n lo hi) (hx : IsBytes xs) :
    Calls Tryd.prog 19 #[i6 od, i6 s, .string (strOfNums xs)] w fun e w' => e = .returned (getRes od n lo hi xs) ∧ Below w.heap.size w w' := by
  have hsz := strOfNums_size xs
  have HX := Lib.hid hx
  have HN := Lib.hid h
  clear hx h
  by_cases h1 : (xs.length : Int) < n
  · have HR := Lib.hid (show getRes od n lo hi xs = .tuple #[i6 0, i6 3] by unfold getRes; rw [if_pos h1])
    go_enter Tryd.func19, Tryd.ntmps19
    go_wp2_with fail
    refine (find_ok od s n lo hi _ hs ho HN.out).mono ?_
    rintro e w1 ⟨rfl, hq⟩
    have hq1 := q_alloc hq (.cells #[i6 s, i6 n, i6 lo, i6 hi] 79)
    have c1 : (w1.alloc (.cells #[i6 s, i6 n, i6 lo, i6 hi] 79)).cell? ⟨w1.heap.size, 1, none⟩ = some (i6 n) := cell_new rfl
    go_wp2_with fail
    go_returns
    exact ⟨by rw [HR.out]; first | rfl | (simp; done), hq1⟩
  · by_cases h2 : n < (xs.length : Int)
    · have HR := Lib.hid (show getRes od n lo hi xs = .tuple #[i6 0, i6 4] by unfold getRes; rw [if_neg h1, if_pos h2])
      go_enter Tryd.func19, Tryd.ntmps19
      go_wp2_with fail
      refine (find_ok od s n lo hi _ hs ho HN.out).mono ?_
      rintro e w1 ⟨rfl, hq⟩
      have hq1 := q_alloc hq (.cells #[i6 s, i6 n, i6 lo, i6 hi] 79)
      go_wp2_with fail
      go_returns
      exact ⟨by rw [HR.out]; first | rfl | (simp; done), hq1⟩
    · have HR := Lib.hid (show getRes od n lo hi xs = .tuple #[i6 (dec od lo hi xs), i6 0] by unfold getRes; rw [if_neg h1, if_neg h2])
      have hl : (xs.length : Int) = n := by omega
      go_enter Tryd.func19, Tryd.ntmps19
      go_wp2_with fail
      refine (find_ok od s n lo hi _ hs ho HN.out).mono ?_
      rintro e w1 ⟨rfl, hq⟩
      go_wp2_with fail
      refine (read_any HN.out ho HX.out hl).mono ?_
      rintro e w2 ⟨rfl, hq2⟩
      have hq1 := q_step (q_alloc hq _) hq2
      go_wp2_with fail
      go_returns
      exact ⟨by rw [HR.out]; first | rfl | (simp; done), hq1⟩
end Go.Proofs.YtbbblopackffiaaDoor
