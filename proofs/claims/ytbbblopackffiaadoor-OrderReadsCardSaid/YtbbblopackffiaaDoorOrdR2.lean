/- Layer 1: the document's answers: a number's bytes. -/
import Derived.Test.YtbbblopackffiaaDoorOrdR
namespace Go.Proofs.YtbbblopackffiaaDoor
open Go Go.RowKit
set_option linter.unusedSimpArgs false
set_option linter.unusedVariables false

theorem whole_alt (n : Int) : wholeOf n = 256 ∨ wholeOf n = 65536 ∨ wholeOf n = 4294967296 := by
  unfold wholeOf
  split
  · simp
  · split <;> simp
theorem shifted_bounds {s n lo hi v : Int} (h : IsSpan s n lo hi) (h1 : lo ≤ v) (h2 : v ≤ hi) : 0 ≤ (if v < 0 then v + wholeOf n else v) ∧ (if v < 0 then v + wholeOf n else v) < 4294967296 := by
  rcases h with ⟨-, rfl, rfl, rfl⟩ | ⟨-, rfl, rfl, rfl⟩ | ⟨-, rfl, rfl, rfl⟩ | ⟨-, rfl, rfl, rfl⟩ | ⟨-, rfl, rfl, rfl⟩ | ⟨-, rfl, rfl, rfl⟩ <;> simp [wholeOf] <;> split <;> omega

set_option maxRecDepth 100000 in
set_option maxHeartbeats 1000000 in
theorem rput_neg0 (s n lo hi v V : Int) (m : Nat) (hm : (m : Int) = n) (w : World) (h : IsSpan s n lo hi) (h1 : lo ≤ v) (h2 : v ≤ hi) (hV0 : 0 ≤ V ∧ V < 4294967296) (hneg : v < 0) (hV : v + wholeOf n = V) :
    Calls Tryd.prog 17 #[i6 0, i6 s, i6 v] w fun e w' => e = .returned (strOk (digs V m)) ∧ Below w.heap.size w w' := by
  have hq := Below.refl w.heap.size w
  have hsz := h.size
  have hn : ¬ n = 0 := by omega
  have HN := Lib.hid h
  have g1 : ¬ v < lo := by omega
  have g2 : ¬ hi < v := by omega
  have hm4 : m ≤ 4 := by omega
  clear h
  have hwb := whole_alt n
  have hw : IntKind.i64.wrap (v + wholeOf n) = V := by rw [hV]; exact IntWalk.i64_in _ (by omega)
  clear hwb
  go_enter Tryd.func17, Tryd.ntmps17
  go_wp2_with fail
  refine (rsize_ok HN.out _).mono ?_
  rintro e w1 ⟨rfl, rfl⟩
  go_wp2_with fail
  refine (rleast_ok HN.out _).mono ?_
  rintro e w1 ⟨rfl, rfl⟩
  go_wp2_with fail
  refine (rmost_ok HN.out _).mono ?_
  rintro e w1 ⟨rfl, rfl⟩
  go_wp2_with fail
  refine (whole_ok hsz _).mono ?_
  rintro e w1 ⟨rfl, rfl⟩
  go_wp2_with fail
  generalize hT : v + wholeOf n = T at hV hw ⊢
  subst hV
  clear hT
  go_loopw [2, 9, 10] (fun x t i wr => ∃ k : Nat, k ≤ m ∧ i = .int .i64 k ∧ x = i6 (quo T k) ∧ t = .string (strOfNums (digs T k)) ∧ Below w.heap.size w wr)
    (fun _ _ i _ => m - (intOf i).toNat)
  case atStart => exact ⟨0, Nat.zero_le _, rfl, by first | rfl | (simp [quo]; done), rfl, hq⟩
  case round =>
    clear hq g1 g2 hw hneg h1 h2
    obtain ⟨k, hk, rfl, rfl, rfl, hnx⟩ := hrel
    by_cases hlt : k < m
    · have hqb := quo_bounds hV0.1 hV0.2 k
      have hlen := strOfNums_size (digs T k)
      rw [digs_length] at hlen
      have hq1 : quo T (k + 1) = quo T k / 256 := rfl
      have hd1 : digs T (k + 1) = digs T k ++ [quo T k % 256] := rfl
      generalize quo T k = q at hqb hq1 hd1
      generalize digs T k = D at hlen hd1
      have f1 : q.tmod 256 = q % 256 := by rw [Int.tmod_eq_emod_of_nonneg hqb.1]
      have f2 : q.tdiv 256 = q / 256 := by rw [Int.tdiv_eq_ediv_of_nonneg hqb.1]
      have f3 : IntKind.i64.wrap (q % 256) = q % 256 := IntWalk.i64_in _ (by omega)
      have f4 : IntKind.u8.wrap (q % 256) = q % 256 := by simp only [IntKind.wrap, IntKind.bits, IntKind.signed]; simp
      have f5 : IntKind.i64.wrap (q / 256) = q / 256 := IntWalk.i64_in _ (by omega)
      have hcv := run_convert_bytes_arg (P := Tryd.prog) (wr.alloc (.cells #[u8v (q % 256)] 5)) 50 5 und_bytes und_byte wr.heap.size 0 1 1 [q % 256] rfl (fun i hi => by
        obtain rfl : i = 0 := by omega
        exact cell_new rfl) 9 und_string
      have hz1 : (strOfNums [q % 256]).size = 1 := strOfNums_size _
      have hns : ¬ 9223372036854775807 < k + 1 := by omega
      have HA := Lib.hid (str_append D [q % 256])
      have hnx1 := q_alloc hnx (.cells #[u8v (q % 256)] 5)
      have HQ := Lib.hid hq1
      have HD := Lib.hid hd1
      clear hq1 hd1
      go_wp2_with fail
      go_roundw
      case rel => exact ⟨k + 1, by omega, by go_num, by rw [HQ.out] <;> first | rfl | (simp; done), by rw [HD.out, ← HA.out] <;> first | rfl | (simp; done), hnx1⟩
      case measure => simp [intOf]; omega
    · have hkm : k = m := by omega
      subst hkm
      go_wp2_with fail
      go_returns
      exact ⟨by first | rfl | (simp; done), hnx⟩

set_option maxRecDepth 100000 in
set_option maxHeartbeats 1000000 in
theorem rput_neg1 (s n lo hi v V : Int) (m : Nat) (hm : (m : Int) = n) (w : World) (h : IsSpan s n lo hi) (h1 : lo ≤ v) (h2 : v ≤ hi) (hV0 : 0 ≤ V ∧ V < 4294967296) (hneg : v < 0) (hV : v + wholeOf n = V) :
    Calls Tryd.prog 17 #[i6 1, i6 s, i6 v] w fun e w' => e = .returned (strOk ((digs V m).reverse)) ∧ Below w.heap.size w w' := by
  have hq := Below.refl w.heap.size w
  have hsz := h.size
  have hn : ¬ n = 0 := by omega
  have HN := Lib.hid h
  have g1 : ¬ v < lo := by omega
  have g2 : ¬ hi < v := by omega
  have hm4 : m ≤ 4 := by omega
  clear h
  have hwb := whole_alt n
  have hw : IntKind.i64.wrap (v + wholeOf n) = V := by rw [hV]; exact IntWalk.i64_in _ (by omega)
  clear hwb
  go_enter Tryd.func17, Tryd.ntmps17
  go_wp2_with fail
  refine (rsize_ok HN.out _).mono ?_
  rintro e w1 ⟨rfl, rfl⟩
  go_wp2_with fail
  refine (rleast_ok HN.out _).mono ?_
  rintro e w1 ⟨rfl, rfl⟩
  go_wp2_with fail
  refine (rmost_ok HN.out _).mono ?_
  rintro e w1 ⟨rfl, rfl⟩
  go_wp2_with fail
  refine (whole_ok hsz _).mono ?_
  rintro e w1 ⟨rfl, rfl⟩
  go_wp2_with fail
  generalize hT : v + wholeOf n = T at hV hw ⊢
  subst hV
  clear hT
  go_loopw [2, 9, 10] (fun x t i wr => ∃ k : Nat, k ≤ m ∧ i = .int .i64 k ∧ x = i6 (quo T k) ∧ t = .string (strOfNums (digs T k)) ∧ Below w.heap.size w wr)
    (fun _ _ i _ => m - (intOf i).toNat)
  case atStart => exact ⟨0, Nat.zero_le _, rfl, by first | rfl | (simp [quo]; done), rfl, hq⟩
  case round =>
    clear hq g1 g2 hw hneg h1 h2
    obtain ⟨k, hk, rfl, rfl, rfl, hnx⟩ := hrel
    by_cases hlt : k < m
    · have hqb := quo_bounds hV0.1 hV0.2 k
      have hlen := strOfNums_size (digs T k)
      rw [digs_length] at hlen
      have hq1 : quo T (k + 1) = quo T k / 256 := rfl
      have hd1 : digs T (k + 1) = digs T k ++ [quo T k % 256] := rfl
      generalize quo T k = q at hqb hq1 hd1
      generalize digs T k = D at hlen hd1
      have f1 : q.tmod 256 = q % 256 := by rw [Int.tmod_eq_emod_of_nonneg hqb.1]
      have f2 : q.tdiv 256 = q / 256 := by rw [Int.tdiv_eq_ediv_of_nonneg hqb.1]
      have f3 : IntKind.i64.wrap (q % 256) = q % 256 := IntWalk.i64_in _ (by omega)
      have f4 : IntKind.u8.wrap (q % 256) = q % 256 := by simp only [IntKind.wrap, IntKind.bits, IntKind.signed]; simp
      have f5 : IntKind.i64.wrap (q / 256) = q / 256 := IntWalk.i64_in _ (by omega)
      have hcv := run_convert_bytes_arg (P := Tryd.prog) (wr.alloc (.cells #[u8v (q % 256)] 5)) 50 5 und_bytes und_byte wr.heap.size 0 1 1 [q % 256] rfl (fun i hi => by
        obtain rfl : i = 0 := by omega
        exact cell_new rfl) 9 und_string
      have hz1 : (strOfNums [q % 256]).size = 1 := strOfNums_size _
      have hns : ¬ 9223372036854775807 < k + 1 := by omega
      have HA := Lib.hid (str_append D [q % 256])
      have hnx1 := q_alloc hnx (.cells #[u8v (q % 256)] 5)
      have HQ := Lib.hid hq1
      have HD := Lib.hid hd1
      clear hq1 hd1
      go_wp2_with fail
      go_roundw
      case rel => exact ⟨k + 1, by omega, by go_num, by rw [HQ.out] <;> first | rfl | (simp; done), by rw [HD.out, ← HA.out] <;> first | rfl | (simp; done), hnx1⟩
      case measure => simp [intOf]; omega
    · have hkm : k = m := by omega
      subst hkm
      have hlen := digs_length T k
      go_wp2_with fail
      refine (turned_any (digs T k) _ (by omega)).mono ?_
      rintro e w2 ⟨rfl, rfl⟩
      go_wp2_with fail
      go_returns
      exact ⟨by first | rfl | (simp; done), hnx⟩

set_option maxRecDepth 100000 in
set_option maxHeartbeats 1000000 in
theorem rput_pos0 (s n lo hi v V : Int) (m : Nat) (hm : (m : Int) = n) (w : World) (h : IsSpan s n lo hi) (h1 : lo ≤ v) (h2 : v ≤ hi) (hV0 : 0 ≤ V ∧ V < 4294967296) (hneg : 0 ≤ v) (hV : v = V) :
    Calls Tryd.prog 17 #[i6 0, i6 s, i6 v] w fun e w' => e = .returned (strOk (digs V m)) ∧ Below w.heap.size w w' := by
  have hq := Below.refl w.heap.size w
  have hsz := h.size
  have hn : ¬ n = 0 := by omega
  have HN := Lib.hid h
  have g1 : ¬ v < lo := by omega
  have g2 : ¬ hi < v := by omega
  have hm4 : m ≤ 4 := by omega
  clear h
  subst hV
  go_enter Tryd.func17, Tryd.ntmps17
  go_wp2_with fail
  refine (rsize_ok HN.out _).mono ?_
  rintro e w1 ⟨rfl, rfl⟩
  go_wp2_with fail
  refine (rleast_ok HN.out _).mono ?_
  rintro e w1 ⟨rfl, rfl⟩
  go_wp2_with fail
  refine (rmost_ok HN.out _).mono ?_
  rintro e w1 ⟨rfl, rfl⟩
  go_wp2_with fail
  go_loopw [2, 9, 10] (fun x t i wr => ∃ k : Nat, k ≤ m ∧ i = .int .i64 k ∧ x = i6 (quo v k) ∧ t = .string (strOfNums (digs v k)) ∧ Below w.heap.size w wr)
    (fun _ _ i _ => m - (intOf i).toNat)
  case atStart => exact ⟨0, Nat.zero_le _, rfl, by first | rfl | (simp [quo]; done), rfl, hq⟩
  case round =>
    clear hq g1 g2 hneg h1 h2
    obtain ⟨k, hk, rfl, rfl, rfl, hnx⟩ := hrel
    by_cases hlt : k < m
    · have hqb := quo_bounds hV0.1 hV0.2 k
      have hlen := strOfNums_size (digs v k)
      rw [digs_length] at hlen
      have hq1 : quo v (k + 1) = quo v k / 256 := rfl
      have hd1 : digs v (k + 1) = digs v k ++ [quo v k % 256] := rfl
      generalize quo v k = q at hqb hq1 hd1
      generalize digs v k = D at hlen hd1
      have f1 : q.tmod 256 = q % 256 := by rw [Int.tmod_eq_emod_of_nonneg hqb.1]
      have f2 : q.tdiv 256 = q / 256 := by rw [Int.tdiv_eq_ediv_of_nonneg hqb.1]
      have f3 : IntKind.i64.wrap (q % 256) = q % 256 := IntWalk.i64_in _ (by omega)
      have f4 : IntKind.u8.wrap (q % 256) = q % 256 := by simp only [IntKind.wrap, IntKind.bits, IntKind.signed]; simp
      have f5 : IntKind.i64.wrap (q / 256) = q / 256 := IntWalk.i64_in _ (by omega)
      have hcv := run_convert_bytes_arg (P := Tryd.prog) (wr.alloc (.cells #[u8v (q % 256)] 5)) 50 5 und_bytes und_byte wr.heap.size 0 1 1 [q % 256] rfl (fun i hi => by
        obtain rfl : i = 0 := by omega
        exact cell_new rfl) 9 und_string
      have hz1 : (strOfNums [q % 256]).size = 1 := strOfNums_size _
      have hns : ¬ 9223372036854775807 < k + 1 := by omega
      have HA := Lib.hid (str_append D [q % 256])
      have hnx1 := q_alloc hnx (.cells #[u8v (q % 256)] 5)
      have HQ := Lib.hid hq1
      have HD := Lib.hid hd1
      clear hq1 hd1
      go_wp2_with fail
      go_roundw
      case rel => exact ⟨k + 1, by omega, by go_num, by rw [HQ.out] <;> first | rfl | (simp; done), by rw [HD.out, ← HA.out] <;> first | rfl | (simp; done), hnx1⟩
      case measure => simp [intOf]; omega
    · have hkm : k = m := by omega
      subst hkm
      go_wp2_with fail
      go_returns
      exact ⟨by first | rfl | (simp; done), hnx⟩

set_option maxRecDepth 100000 in
set_option maxHeartbeats 1000000 in
theorem rput_pos1 (s n lo hi v V : Int) (m : Nat) (hm : (m : Int) = n) (w : World) (h : IsSpan s n lo hi) (h1 : lo ≤ v) (h2 : v ≤ hi) (hV0 : 0 ≤ V ∧ V < 4294967296) (hneg : 0 ≤ v) (hV : v = V) :
    Calls Tryd.prog 17 #[i6 1, i6 s, i6 v] w fun e w' => e = .returned (strOk ((digs V m).reverse)) ∧ Below w.heap.size w w' := by
  have hq := Below.refl w.heap.size w
  have hsz := h.size
  have hn : ¬ n = 0 := by omega
  have HN := Lib.hid h
  have g1 : ¬ v < lo := by omega
  have g2 : ¬ hi < v := by omega
  have hm4 : m ≤ 4 := by omega
  clear h
  subst hV
  go_enter Tryd.func17, Tryd.ntmps17
  go_wp2_with fail
  refine (rsize_ok HN.out _).mono ?_
  rintro e w1 ⟨rfl, rfl⟩
  go_wp2_with fail
  refine (rleast_ok HN.out _).mono ?_
  rintro e w1 ⟨rfl, rfl⟩
  go_wp2_with fail
  refine (rmost_ok HN.out _).mono ?_
  rintro e w1 ⟨rfl, rfl⟩
  go_wp2_with fail
  go_loopw [2, 9, 10] (fun x t i wr => ∃ k : Nat, k ≤ m ∧ i = .int .i64 k ∧ x = i6 (quo v k) ∧ t = .string (strOfNums (digs v k)) ∧ Below w.heap.size w wr)
    (fun _ _ i _ => m - (intOf i).toNat)
  case atStart => exact ⟨0, Nat.zero_le _, rfl, by first | rfl | (simp [quo]; done), rfl, hq⟩
  case round =>
    clear hq g1 g2 hneg h1 h2
    obtain ⟨k, hk, rfl, rfl, rfl, hnx⟩ := hrel
    by_cases hlt : k < m
    · have hqb := quo_bounds hV0.1 hV0.2 k
      have hlen := strOfNums_size (digs v k)
      rw [digs_length] at hlen
      have hq1 : quo v (k + 1) = quo v k / 256 := rfl
      have hd1 : digs v (k + 1) = digs v k ++ [quo v k % 256] := rfl
      generalize quo v k = q at hqb hq1 hd1
      generalize digs v k = D at hlen hd1
      have f1 : q.tmod 256 = q % 256 := by rw [Int.tmod_eq_emod_of_nonneg hqb.1]
      have f2 : q.tdiv 256 = q / 256 := by rw [Int.tdiv_eq_ediv_of_nonneg hqb.1]
      have f3 : IntKind.i64.wrap (q % 256) = q % 256 := IntWalk.i64_in _ (by omega)
      have f4 : IntKind.u8.wrap (q % 256) = q % 256 := by simp only [IntKind.wrap, IntKind.bits, IntKind.signed]; simp
      have f5 : IntKind.i64.wrap (q / 256) = q / 256 := IntWalk.i64_in _ (by omega)
      have hcv := run_convert_bytes_arg (P := Tryd.prog) (wr.alloc (.cells #[u8v (q % 256)] 5)) 50 5 und_bytes und_byte wr.heap.size 0 1 1 [q % 256] rfl (fun i hi => by
        obtain rfl : i = 0 := by omega
        exact cell_new rfl) 9 und_string
      have hz1 : (strOfNums [q % 256]).size = 1 := strOfNums_size _
      have hns : ¬ 9223372036854775807 < k + 1 := by omega
      have HA := Lib.hid (str_append D [q % 256])
      have hnx1 := q_alloc hnx (.cells #[u8v (q % 256)] 5)
      have HQ := Lib.hid hq1
      have HD := Lib.hid hd1
      clear hq1 hd1
      go_wp2_with fail
      go_roundw
      case rel => exact ⟨k + 1, by omega, by go_num, by rw [HQ.out] <;> first | rfl | (simp; done), by rw [HD.out, ← HA.out] <;> first | rfl | (simp; done), hnx1⟩
      case measure => simp [intOf]; omega
    · have hkm : k = m := by omega
      subst hkm
      have hlen := digs_length v k
      go_wp2_with fail
      refine (turned_any (digs v k) _ (by omega)).mono ?_
      rintro e w2 ⟨rfl, rfl⟩
      go_wp2_with fail
      go_returns
      exact ⟨by first | rfl | (simp; done), hnx⟩

theorem rput_ok (od s n lo hi v : Int) (w : World) (ho : od = 0 ∨ od = 1) (h : IsSpan s n lo hi) (h1 : lo ≤ v) (h2 : v ≤ hi) :
    Calls Tryd.prog 17 #[i6 od, i6 s, i6 v] w fun e w' => e = .returned (strOk (enc od n v)) ∧ Below w.heap.size w w' := by
  have hsz := h.size
  obtain ⟨m, hm⟩ : ∃ m : Nat, (m : Int) = n := ⟨n.toNat, by omega⟩
  have hm' : n.toNat = m := by omega
  have hD := digs_low h h1 h2
  have hb := shifted_bounds h h1 h2
  rw [hm'] at hD
  by_cases hneg : v < 0
  · rw [if_pos hneg] at hD hb
    rcases ho with rfl | rfl
    · have := rput_neg0 s n lo hi v _ m hm w h h1 h2 hb hneg rfl
      rwa [hD] at this
    · have := rput_neg1 s n lo hi v _ m hm w h h1 h2 hb hneg rfl
      rwa [hD] at this
  · rw [if_neg hneg] at hD hb
    rcases ho with rfl | rfl
    · have := rput_pos0 s n lo hi v _ m hm w h h1 h2 hb (by omega) rfl
      rwa [hD] at this
    · have := rput_pos1 s n lo hi v _ m hm w h h1 h2 hb (by omega) rfl
      rwa [hD] at this
end Go.Proofs.YtbbblopackffiaaDoor
