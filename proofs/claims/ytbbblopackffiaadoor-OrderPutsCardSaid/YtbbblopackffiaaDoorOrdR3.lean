/- Layer 1: the document's answers: the number of bytes. -/
import Derived.Test.YtbbblopackffiaaDoorOrdR2
namespace Go.Proofs.YtbbblopackffiaaDoor
open Go Go.RowKit
set_option linter.unusedSimpArgs false
set_option linter.unusedVariables false

theorem valLow_pow : ∀ (n : Nat) (xs : List Int), IsBytes xs → xs.length ≤ n → 0 ≤ valLow xs ∧ valLow xs + 1 ≤ 256 ^ n
  | n, [], _, _ => by
    have : (0 : Int) < 256 ^ n := Int.pow_pos (by omega)
    show 0 ≤ (0 : Int) ∧ (0 : Int) + 1 ≤ 256 ^ n
    omega
  | 0, x :: xs, _, h => by simp at h
  | n + 1, x :: xs, hb, h => by
    have hx := hb x (by simp)
    have ih := valLow_pow n xs (fun y hy => hb y (by simp [hy])) (by simpa using h)
    rw [Int.pow_succ]
    show 0 ≤ x + 256 * valLow xs ∧ x + 256 * valLow xs + 1 ≤ 256 ^ n * 256
    omega
theorem valLow_lt {xs : List Int} (h : IsBytes xs) (hl : xs.length ≤ 4) : 0 ≤ valLow xs ∧ valLow xs < 4294967296 := by
  have := valLow_pow 4 xs h hl
  omega
theorem valLow_step (ys : List Int) (k : Nat) (hk : k < ys.length) : valLow (ys.take (k + 1)).reverse = 256 * valLow (ys.take k).reverse + ys.getD k 0 := by
  rw [take_rev ys k hk]
  show ys.getD k 0 + 256 * _ = _
  omega
theorem hi_whole {s n lo hi : Int} (h : IsSpan s n lo hi) : hi - lo + 1 = wholeOf n := by
  rcases h with ⟨-, rfl, rfl, rfl⟩ | ⟨-, rfl, rfl, rfl⟩ | ⟨-, rfl, rfl, rfl⟩ | ⟨-, rfl, rfl, rfl⟩ | ⟨-, rfl, rfl, rfl⟩ | ⟨-, rfl, rfl, rfl⟩ <;> rfl
theorem getD_byte {xs : List Int} (h : IsBytes xs) (k : Nat) : 0 ≤ xs.getD k 0 ∧ xs.getD k 0 < 256 := by
  rw [List.getD_eq_getElem?_getD]
  by_cases hk : k < xs.length
  · rw [List.getElem?_eq_getElem hk]; exact h _ (List.getElem_mem hk)
  · rw [List.getElem?_eq_none (by omega)]; simp

theorem rget_kind (od s : Int) (b : ByteArray) (w : World) (hk : BadOrder od) :
    Calls Tryd.prog 20 #[i6 od, i6 s, .string b] w fun e w' => e = .returned (.tuple #[i6 0, i6 10]) ∧ Below w.heap.size w w' := by
  unfold BadOrder at hk
  have h1 : (od != 0) = true := by simp; omega
  have h2 : (od != 1) = true := by simp; omega
  clear hk
  have hq := Below.refl w.heap.size w
  go_enter Tryd.func20, Tryd.ntmps20
  go_wp2_with fail
  go_returns
  exact ⟨by first | rfl | (simp; done), hq⟩
theorem rget_size (od s : Int) (b : ByteArray) (w : World) (ho : od = 0 ∨ od = 1) (hk : BadSize s) :
    Calls Tryd.prog 20 #[i6 od, i6 s, .string b] w fun e w' => e = .returned (.tuple #[i6 0, i6 17]) ∧ Below w.heap.size w w' := by
  have hq := Below.refl w.heap.size w
  rcases ho with rfl | rfl
  all_goals
    go_enter Tryd.func20, Tryd.ntmps20
    go_wp2_with fail
    refine (rsize_bad hk _).mono ?_
    rintro e w1 ⟨rfl, rfl⟩
    go_wp2_with fail
    go_returns
    exact ⟨by first | rfl | (simp; done), hq⟩

set_option maxRecDepth 100000 in
set_option maxHeartbeats 1000000 in
theorem rget_short0 (s n lo hi : Int) (m : Nat) (hm : (m : Int) = n) (xs : List Int) (w : World) (h : IsSpan s n lo hi) (hx : IsBytes xs) (hl : (xs.length : Int) < n) :
    Calls Tryd.prog 20 #[i6 0, i6 s, .string (strOfNums xs)] w fun e w' => e = .returned (.tuple #[i6 0, i6 3]) ∧ Below w.heap.size w w' := by
  have hq := Below.refl w.heap.size w
  have hsz := h.size
  have hn : ¬ n = 0 := by omega
  have hlen := strOfNums_size xs
  have HX := Lib.hid hx
  have HN := Lib.hid h
  have hbd := h.bounds
  clear h hx
  go_enter Tryd.func20, Tryd.ntmps20
  go_wp2_with fail
  refine (rsize_ok HN.out _).mono ?_
  rintro e w1 ⟨rfl, rfl⟩
  go_wp2_with fail
  go_returns
  exact ⟨by first | rfl | (simp; done), hq⟩

set_option maxRecDepth 100000 in
set_option maxHeartbeats 1000000 in
theorem rget_long0 (s n lo hi : Int) (m : Nat) (hm : (m : Int) = n) (xs : List Int) (w : World) (h : IsSpan s n lo hi) (hx : IsBytes xs) (hl : n < (xs.length : Int)) :
    Calls Tryd.prog 20 #[i6 0, i6 s, .string (strOfNums xs)] w fun e w' => e = .returned (.tuple #[i6 0, i6 4]) ∧ Below w.heap.size w w' := by
  have hq := Below.refl w.heap.size w
  have hsz := h.size
  have hn : ¬ n = 0 := by omega
  have hlen := strOfNums_size xs
  have HX := Lib.hid hx
  have HN := Lib.hid h
  have hbd := h.bounds
  clear h hx
  have g0 : ¬ (xs.length : Int) < n := by omega
  go_enter Tryd.func20, Tryd.ntmps20
  go_wp2_with fail
  refine (rsize_ok HN.out _).mono ?_
  rintro e w1 ⟨rfl, rfl⟩
  go_wp2_with fail
  go_returns
  exact ⟨by first | rfl | (simp; done), hq⟩

set_option maxRecDepth 100000 in
set_option maxHeartbeats 1000000 in
theorem rget_big0 (s n lo hi : Int) (m : Nat) (hm : (m : Int) = n) (xs : List Int) (w : World) (h : IsSpan s n lo hi) (hx : IsBytes xs) (hl : xs.length = m) (u : Int) (hu : valLow xs = u) (hbig : hi < u) :
    Calls Tryd.prog 20 #[i6 0, i6 s, .string (strOfNums xs)] w fun e w' => e = .returned (.tuple #[i6 (u - wholeOf n), i6 0]) ∧ Below w.heap.size w w' := by
  have hq := Below.refl w.heap.size w
  have hsz := h.size
  have hn : ¬ n = 0 := by omega
  have hlen := strOfNums_size xs
  have HX := Lib.hid hx
  have HN := Lib.hid h
  have hbd := h.bounds
  clear h hx
  rw [hl] at hlen
  have g0 : ¬ (m : Int) < n := by omega
  have g1 : ¬ n < (m : Int) := by omega
  have hm4 : m ≤ 4 := by omega
  obtain ⟨ys, hys⟩ : ∃ ys, xs.reverse = ys := ⟨_, rfl⟩
  have hyl : ys.length = m := by rw [← hys]; simpa using hl
  have HB := Lib.hid (show IsBytes ys by rw [← hys]; exact HX.out.reverse)
  have HU := Lib.hid (show valLow ys.reverse = u by rw [← hys, ← hu]; rw [List.reverse_reverse])
  clear hu
  go_enter Tryd.func20, Tryd.ntmps20
  go_wp2_with fail
  refine (rsize_ok HN.out _).mono ?_
  rintro e w1 ⟨rfl, rfl⟩
  go_wp2_with fail
  refine (turned_any xs _ (by omega)).mono ?_
  rintro e w1 ⟨rfl, rfl⟩
  rw [hys]
  clear hys
  go_wp2_with fail
  have hly : (strOfNums ys).size = m := (strOfNums_size _).trans hyl
  go_loopw [9, 10] (fun a i wr => ∃ k : Nat, k ≤ m ∧ i = .int .i64 k ∧ a = i6 (valLow (ys.take k).reverse) ∧ wr = w)
    (fun _ i _ => m - (intOf i).toNat)
  case atStart => exact ⟨0, Nat.zero_le _, rfl, by first | rfl | (simp [valLow]; done), by trivial⟩
  case round =>
    obtain ⟨k, hk, rfl, rfl, rfl⟩ := hrel
    by_cases hlt : k < m
    · clear hbig
      have hA := valLow_lt (HB.out.take k).reverse (by rw [List.length_reverse, List.length_take]; omega)
      have hy := getD_byte HB.out k
      have hst := valLow_step ys k (by omega)
      have hgt : (((strOfNums ys)[k]'(by omega)).toNat : Int) = ys.getD k 0 := by
        rw [str_get HB.out k (by omega) (by omega), List.getD_eq_getElem?_getD, List.getElem?_eq_getElem (show k < ys.length by omega)]; rfl
      generalize ys.getD k 0 = y at hy hst hgt
      generalize valLow (ys.take k).reverse = A at hA hst
      have HS := Lib.hid hst
      clear hst
      have f1 : IntKind.i64.wrap (256 * A) = 256 * A := IntWalk.i64_in _ (by omega)
      have f2 : IntKind.i64.wrap (256 * A + y) = 256 * A + y := IntWalk.i64_in _ (by omega)
      have f3 : IntKind.i64.wrap y = y := IntWalk.i64_in _ (by omega)
      go_wp2_with fail
      go_roundw
      case rel => exact ⟨k + 1, by omega, by go_num, by rw [HS.out] <;> first | rfl | (simp; done), by trivial⟩
      case measure => simp [intOf]; omega
    · have hkm : k = m := by omega
      subst hkm
      have hU : valLow (ys.take k).reverse = u := by rw [← hyl, List.take_length]; exact HU.out
      rw [hU]
      have hub := valLow_lt HB.out.reverse (by rw [List.length_reverse]; omega)
      rw [HU.out] at hub
      go_wp2_with fail
      refine (rmost_ok HN.out _).mono ?_
      rintro e w2 ⟨rfl, rfl⟩
      go_wp2_with fail
      refine (whole_ok hsz _).mono ?_
      rintro e w2 ⟨rfl, rfl⟩
      have hwb := whole_alt n
      have f4 : IntKind.i64.wrap (u - wholeOf n) = u - wholeOf n := IntWalk.i64_in _ (by omega)
      clear hwb
      go_wp2_with fail
      go_returns
      exact ⟨by first | rfl | (simp; done), hq⟩

set_option maxRecDepth 100000 in
set_option maxHeartbeats 1000000 in
theorem rget_small0 (s n lo hi : Int) (m : Nat) (hm : (m : Int) = n) (xs : List Int) (w : World) (h : IsSpan s n lo hi) (hx : IsBytes xs) (hl : xs.length = m) (u : Int) (hu : valLow xs = u) (hbig : ¬ hi < u) :
    Calls Tryd.prog 20 #[i6 0, i6 s, .string (strOfNums xs)] w fun e w' => e = .returned (.tuple #[i6 u, i6 0]) ∧ Below w.heap.size w w' := by
  have hq := Below.refl w.heap.size w
  have hsz := h.size
  have hn : ¬ n = 0 := by omega
  have hlen := strOfNums_size xs
  have HX := Lib.hid hx
  have HN := Lib.hid h
  have hbd := h.bounds
  clear h hx
  rw [hl] at hlen
  have g0 : ¬ (m : Int) < n := by omega
  have g1 : ¬ n < (m : Int) := by omega
  have hm4 : m ≤ 4 := by omega
  obtain ⟨ys, hys⟩ : ∃ ys, xs.reverse = ys := ⟨_, rfl⟩
  have hyl : ys.length = m := by rw [← hys]; simpa using hl
  have HB := Lib.hid (show IsBytes ys by rw [← hys]; exact HX.out.reverse)
  have HU := Lib.hid (show valLow ys.reverse = u by rw [← hys, ← hu]; rw [List.reverse_reverse])
  clear hu
  go_enter Tryd.func20, Tryd.ntmps20
  go_wp2_with fail
  refine (rsize_ok HN.out _).mono ?_
  rintro e w1 ⟨rfl, rfl⟩
  go_wp2_with fail
  refine (turned_any xs _ (by omega)).mono ?_
  rintro e w1 ⟨rfl, rfl⟩
  rw [hys]
  clear hys
  go_wp2_with fail
  have hly : (strOfNums ys).size = m := (strOfNums_size _).trans hyl
  go_loopw [9, 10] (fun a i wr => ∃ k : Nat, k ≤ m ∧ i = .int .i64 k ∧ a = i6 (valLow (ys.take k).reverse) ∧ wr = w)
    (fun _ i _ => m - (intOf i).toNat)
  case atStart => exact ⟨0, Nat.zero_le _, rfl, by first | rfl | (simp [valLow]; done), by trivial⟩
  case round =>
    obtain ⟨k, hk, rfl, rfl, rfl⟩ := hrel
    by_cases hlt : k < m
    · clear hbig
      have hA := valLow_lt (HB.out.take k).reverse (by rw [List.length_reverse, List.length_take]; omega)
      have hy := getD_byte HB.out k
      have hst := valLow_step ys k (by omega)
      have hgt : (((strOfNums ys)[k]'(by omega)).toNat : Int) = ys.getD k 0 := by
        rw [str_get HB.out k (by omega) (by omega), List.getD_eq_getElem?_getD, List.getElem?_eq_getElem (show k < ys.length by omega)]; rfl
      generalize ys.getD k 0 = y at hy hst hgt
      generalize valLow (ys.take k).reverse = A at hA hst
      have HS := Lib.hid hst
      clear hst
      have f1 : IntKind.i64.wrap (256 * A) = 256 * A := IntWalk.i64_in _ (by omega)
      have f2 : IntKind.i64.wrap (256 * A + y) = 256 * A + y := IntWalk.i64_in _ (by omega)
      have f3 : IntKind.i64.wrap y = y := IntWalk.i64_in _ (by omega)
      go_wp2_with fail
      go_roundw
      case rel => exact ⟨k + 1, by omega, by go_num, by rw [HS.out] <;> first | rfl | (simp; done), by trivial⟩
      case measure => simp [intOf]; omega
    · have hkm : k = m := by omega
      subst hkm
      have hU : valLow (ys.take k).reverse = u := by rw [← hyl, List.take_length]; exact HU.out
      rw [hU]
      have hub := valLow_lt HB.out.reverse (by rw [List.length_reverse]; omega)
      rw [HU.out] at hub
      go_wp2_with fail
      refine (rmost_ok HN.out _).mono ?_
      rintro e w2 ⟨rfl, rfl⟩
      go_wp2_with fail
      go_returns
      exact ⟨by first | rfl | (simp; done), hq⟩

set_option maxRecDepth 100000 in
set_option maxHeartbeats 1000000 in
theorem rget_short1 (s n lo hi : Int) (m : Nat) (hm : (m : Int) = n) (xs : List Int) (w : World) (h : IsSpan s n lo hi) (hx : IsBytes xs) (hl : (xs.length : Int) < n) :
    Calls Tryd.prog 20 #[i6 1, i6 s, .string (strOfNums xs)] w fun e w' => e = .returned (.tuple #[i6 0, i6 3]) ∧ Below w.heap.size w w' := by
  have hq := Below.refl w.heap.size w
  have hsz := h.size
  have hn : ¬ n = 0 := by omega
  have hlen := strOfNums_size xs
  have HX := Lib.hid hx
  have HN := Lib.hid h
  have hbd := h.bounds
  clear h hx
  go_enter Tryd.func20, Tryd.ntmps20
  go_wp2_with fail
  refine (rsize_ok HN.out _).mono ?_
  rintro e w1 ⟨rfl, rfl⟩
  go_wp2_with fail
  go_returns
  exact ⟨by first | rfl | (simp; done), hq⟩

set_option maxRecDepth 100000 in
set_option maxHeartbeats 1000000 in
theorem rget_long1 (s n lo hi : Int) (m : Nat) (hm : (m : Int) = n) (xs : List Int) (w : World) (h : IsSpan s n lo hi) (hx : IsBytes xs) (hl : n < (xs.length : Int)) :
    Calls Tryd.prog 20 #[i6 1, i6 s, .string (strOfNums xs)] w fun e w' => e = .returned (.tuple #[i6 0, i6 4]) ∧ Below w.heap.size w w' := by
  have hq := Below.refl w.heap.size w
  have hsz := h.size
  have hn : ¬ n = 0 := by omega
  have hlen := strOfNums_size xs
  have HX := Lib.hid hx
  have HN := Lib.hid h
  have hbd := h.bounds
  clear h hx
  have g0 : ¬ (xs.length : Int) < n := by omega
  go_enter Tryd.func20, Tryd.ntmps20
  go_wp2_with fail
  refine (rsize_ok HN.out _).mono ?_
  rintro e w1 ⟨rfl, rfl⟩
  go_wp2_with fail
  go_returns
  exact ⟨by first | rfl | (simp; done), hq⟩

set_option maxRecDepth 100000 in
set_option maxHeartbeats 1000000 in
theorem rget_big1 (s n lo hi : Int) (m : Nat) (hm : (m : Int) = n) (xs : List Int) (w : World) (h : IsSpan s n lo hi) (hx : IsBytes xs) (hl : xs.length = m) (u : Int) (hu : valLow xs.reverse = u) (hbig : hi < u) :
    Calls Tryd.prog 20 #[i6 1, i6 s, .string (strOfNums xs)] w fun e w' => e = .returned (.tuple #[i6 (u - wholeOf n), i6 0]) ∧ Below w.heap.size w w' := by
  have hq := Below.refl w.heap.size w
  have hsz := h.size
  have hn : ¬ n = 0 := by omega
  have hlen := strOfNums_size xs
  have HX := Lib.hid hx
  have HN := Lib.hid h
  have hbd := h.bounds
  clear h hx
  rw [hl] at hlen
  have g0 : ¬ (m : Int) < n := by omega
  have g1 : ¬ n < (m : Int) := by omega
  have hm4 : m ≤ 4 := by omega
  have hyl : xs.length = m := hl
  have HB := HX
  have HU := Lib.hid hu
  clear hu
  go_enter Tryd.func20, Tryd.ntmps20
  go_wp2_with fail
  refine (rsize_ok HN.out _).mono ?_
  rintro e w1 ⟨rfl, rfl⟩
  go_wp2_with fail
  have hly : (strOfNums xs).size = m := (strOfNums_size _).trans hyl
  go_loopw [9, 10] (fun a i wr => ∃ k : Nat, k ≤ m ∧ i = .int .i64 k ∧ a = i6 (valLow (xs.take k).reverse) ∧ wr = w)
    (fun _ i _ => m - (intOf i).toNat)
  case atStart => exact ⟨0, Nat.zero_le _, rfl, by first | rfl | (simp [valLow]; done), by trivial⟩
  case round =>
    obtain ⟨k, hk, rfl, rfl, rfl⟩ := hrel
    by_cases hlt : k < m
    · clear hbig
      have hA := valLow_lt (HB.out.take k).reverse (by rw [List.length_reverse, List.length_take]; omega)
      have hy := getD_byte HB.out k
      have hst := valLow_step xs k (by omega)
      have hgt : (((strOfNums xs)[k]'(by omega)).toNat : Int) = xs.getD k 0 := by
        rw [str_get HB.out k (by omega) (by omega), List.getD_eq_getElem?_getD, List.getElem?_eq_getElem (show k < xs.length by omega)]; rfl
      generalize xs.getD k 0 = y at hy hst hgt
      generalize valLow (xs.take k).reverse = A at hA hst
      have HS := Lib.hid hst
      clear hst
      have f1 : IntKind.i64.wrap (256 * A) = 256 * A := IntWalk.i64_in _ (by omega)
      have f2 : IntKind.i64.wrap (256 * A + y) = 256 * A + y := IntWalk.i64_in _ (by omega)
      have f3 : IntKind.i64.wrap y = y := IntWalk.i64_in _ (by omega)
      go_wp2_with fail
      go_roundw
      case rel => exact ⟨k + 1, by omega, by go_num, by rw [HS.out] <;> first | rfl | (simp; done), by trivial⟩
      case measure => simp [intOf]; omega
    · have hkm : k = m := by omega
      subst hkm
      have hU : valLow (xs.take k).reverse = u := by rw [← hyl, List.take_length]; exact HU.out
      rw [hU]
      have hub := valLow_lt HB.out.reverse (by rw [List.length_reverse]; omega)
      rw [HU.out] at hub
      go_wp2_with fail
      refine (rmost_ok HN.out _).mono ?_
      rintro e w2 ⟨rfl, rfl⟩
      go_wp2_with fail
      refine (whole_ok hsz _).mono ?_
      rintro e w2 ⟨rfl, rfl⟩
      have hwb := whole_alt n
      have f4 : IntKind.i64.wrap (u - wholeOf n) = u - wholeOf n := IntWalk.i64_in _ (by omega)
      clear hwb
      go_wp2_with fail
      go_returns
      exact ⟨by first | rfl | (simp; done), hq⟩

set_option maxRecDepth 100000 in
set_option maxHeartbeats 1000000 in
theorem rget_small1 (s n lo hi : Int) (m : Nat) (hm : (m : Int) = n) (xs : List Int) (w : World) (h : IsSpan s n lo hi) (hx : IsBytes xs) (hl : xs.length = m) (u : Int) (hu : valLow xs.reverse = u) (hbig : ¬ hi < u) :
    Calls Tryd.prog 20 #[i6 1, i6 s, .string (strOfNums xs)] w fun e w' => e = .returned (.tuple #[i6 u, i6 0]) ∧ Below w.heap.size w w' := by
  have hq := Below.refl w.heap.size w
  have hsz := h.size
  have hn : ¬ n = 0 := by omega
  have hlen := strOfNums_size xs
  have HX := Lib.hid hx
  have HN := Lib.hid h
  have hbd := h.bounds
  clear h hx
  rw [hl] at hlen
  have g0 : ¬ (m : Int) < n := by omega
  have g1 : ¬ n < (m : Int) := by omega
  have hm4 : m ≤ 4 := by omega
  have hyl : xs.length = m := hl
  have HB := HX
  have HU := Lib.hid hu
  clear hu
  go_enter Tryd.func20, Tryd.ntmps20
  go_wp2_with fail
  refine (rsize_ok HN.out _).mono ?_
  rintro e w1 ⟨rfl, rfl⟩
  go_wp2_with fail
  have hly : (strOfNums xs).size = m := (strOfNums_size _).trans hyl
  go_loopw [9, 10] (fun a i wr => ∃ k : Nat, k ≤ m ∧ i = .int .i64 k ∧ a = i6 (valLow (xs.take k).reverse) ∧ wr = w)
    (fun _ i _ => m - (intOf i).toNat)
  case atStart => exact ⟨0, Nat.zero_le _, rfl, by first | rfl | (simp [valLow]; done), by trivial⟩
  case round =>
    obtain ⟨k, hk, rfl, rfl, rfl⟩ := hrel
    by_cases hlt : k < m
    · clear hbig
      have hA := valLow_lt (HB.out.take k).reverse (by rw [List.length_reverse, List.length_take]; omega)
      have hy := getD_byte HB.out k
      have hst := valLow_step xs k (by omega)
      have hgt : (((strOfNums xs)[k]'(by omega)).toNat : Int) = xs.getD k 0 := by
        rw [str_get HB.out k (by omega) (by omega), List.getD_eq_getElem?_getD, List.getElem?_eq_getElem (show k < xs.length by omega)]; rfl
      generalize xs.getD k 0 = y at hy hst hgt
      generalize valLow (xs.take k).reverse = A at hA hst
      have HS := Lib.hid hst
      clear hst
      have f1 : IntKind.i64.wrap (256 * A) = 256 * A := IntWalk.i64_in _ (by omega)
      have f2 : IntKind.i64.wrap (256 * A + y) = 256 * A + y := IntWalk.i64_in _ (by omega)
      have f3 : IntKind.i64.wrap y = y := IntWalk.i64_in _ (by omega)
      go_wp2_with fail
      go_roundw
      case rel => exact ⟨k + 1, by omega, by go_num, by rw [HS.out] <;> first | rfl | (simp; done), by trivial⟩
      case measure => simp [intOf]; omega
    · have hkm : k = m := by omega
      subst hkm
      have hU : valLow (xs.take k).reverse = u := by rw [← hyl, List.take_length]; exact HU.out
      rw [hU]
      have hub := valLow_lt HB.out.reverse (by rw [List.length_reverse]; omega)
      rw [HU.out] at hub
      go_wp2_with fail
      refine (rmost_ok HN.out _).mono ?_
      rintro e w2 ⟨rfl, rfl⟩
      go_wp2_with fail
      go_returns
      exact ⟨by first | rfl | (simp; done), hq⟩

theorem rget_ok (od s n lo hi : Int) (xs : List Int) (w : World) (ho : od = 0 ∨ od = 1) (h : IsSpan s n lo hi) (hx : IsBytes xs) :
    Calls Tryd.prog 20 #[i6 od, i6 s, .string (strOfNums xs)] w fun e w' => e = .returned (getRes od n lo hi xs) ∧ Below w.heap.size w w' := by
  have hsz := h.size
  obtain ⟨m, hm⟩ : ∃ m : Nat, (m : Int) = n := ⟨n.toNat, by omega⟩
  unfold getRes
  by_cases h1 : (xs.length : Int) < n
  · rw [if_pos h1]
    rcases ho with rfl | rfl
    · exact rget_short0 s n lo hi m hm xs w h hx h1
    · exact rget_short1 s n lo hi m hm xs w h hx h1
  · rw [if_neg h1]
    by_cases h2 : n < (xs.length : Int)
    · rw [if_pos h2]
      rcases ho with rfl | rfl
      · exact rget_long0 s n lo hi m hm xs w h hx h2
      · exact rget_long1 s n lo hi m hm xs w h hx h2
    · rw [if_neg h2]
      unfold dec
      simp only [hi_whole h]
      have hl : xs.length = m := by omega
      rcases ho with rfl | rfl
      · rw [if_neg (by omega : ¬ (0 : Int) = 1)]
        by_cases hb : hi < valLow xs
        · rw [if_pos hb]
          exact rget_big0 s n lo hi m hm xs w h hx hl _ rfl hb
        · rw [if_neg hb]
          exact rget_small0 s n lo hi m hm xs w h hx hl _ rfl hb
      · rw [if_pos rfl]
        by_cases hb : hi < valLow xs.reverse
        · rw [if_pos hb]
          exact rget_big1 s n lo hi m hm xs w h hx hl _ rfl hb
        · rw [if_neg hb]
          exact rget_small1 s n lo hi m hm xs w h hx hl _ rfl hb
end Go.Proofs.YtbbblopackffiaaDoor
