/- Layer 1: the walk of OrderPads. -/
import Derived.Test.YtbbblopackffiaaDoorOrd10
namespace Go.Proofs.YtbbblopackffiaaDoor
open Go Go.RowKit
set_option linter.unusedSimpArgs false
set_option linter.unusedVariables false

theorem span1 : IsSpan 1 1 0 255 := by simp [IsSpan]
theorem span4 : IsSpan 4 4 0 4294967295 := by simp [IsSpan]
theorem rowRes_zeros (K : Nat) : rowRes 0 1 0 255 (List.replicate K 0) = .tuple #[.string (strOfNums (encRow 0 1 (List.replicate K 0))), i6 0] := by
  unfold rowRes
  rw [if_pos]
  unfold allIn
  rw [List.all_eq_true]
  intro u hu
  rw [List.mem_replicate] at hu
  rw [hu.2]
  rfl
theorem zeros_bytes (K : Nat) : IsBytes (List.replicate K 0) := fun x hx => by
  rw [List.mem_replicate] at hx
  omega
theorem bool_both (k : Int) : True := trivial

set_option maxRecDepth 100000 in
theorem lpads_neg (n x : Int) (w : World) (hs : RowAt 0 spanCells w) (hn : n < 0) :
    Calls Tryd.prog 9 #[i6 n, .int .u8 x] w fun e w' => e = .returned (.bool true) ∧ Below w.heap.size w w' := by
  go_enter Tryd.func9, Tryd.ntmps9
  go_wp2_with fail
  refine (pad_neg n _ hn).mono ?_
  rintro e w1 ⟨rfl, rfl⟩
  go_wp2_with fail
  refine (awake_any _ hs).mono ?_
  rintro e w2 ⟨rfl, hq⟩
  go_wp2_with fail
  go_returns
  exact ⟨by first | rfl | (simp; done), hq⟩

set_option maxRecDepth 100000 in
set_option maxHeartbeats 2000000 in
theorem lpads_pos (n x : Int) (w : World) (hs : RowAt 0 spanCells w) (hn : 0 ≤ n) (b0 : 0 ≤ x) (b1 : x < 256) :
    Calls Tryd.prog 9 #[i6 n, .int .u8 x] w fun e w' => e = .returned (.bool true) ∧ Below w.heap.size w w' := by
  obtain ⟨i0, hi0, hz0, hz1, hz2⟩ := info_parts' info_i64
  obtain ⟨j0, hj0, hy0, hy1, hy2⟩ := info_parts' info_byte
  obtain ⟨K, hK⟩ : ∃ K : Nat, (K : Int) = 65530 + x % 12 := ⟨(65530 + x % 12).toNat, by omega⟩
  have hKb : 65530 ≤ K ∧ K ≤ 65541 := by omega
  have f1 : x.tmod 12 = x % 12 := by rw [Int.tmod_eq_emod_of_nonneg b0]
  have f2 : IntKind.u8.wrap (x % 12) = x % 12 := by simp only [IntKind.wrap, IntKind.bits, IntKind.signed]; simp; omega
  have f3 : IntKind.i64.wrap (x % 12) = x % 12 := IntWalk.i64_in _ (by omega)
  have f4 : IntKind.i64.wrap (65530 + x % 12) = (K : Int) := by rw [← hK]; exact IntWalk.i64_in _ (by omega)
  have f4' : 65530 + x % 12 = (K : Int) := hK.symm
  obtain ⟨p, hp⟩ : ∃ p, (4 - n % 4) % 4 = p := ⟨_, rfl⟩
  have hp0 : 0 ≤ p ∧ p ≤ 3 := by omega
  have f5 : n.tmod 4 = n % 4 := by rw [Int.tmod_eq_emod_of_nonneg hn]
  have f6 : (n % 4 + p).tmod 4 = 0 := by rw [Int.tmod_eq_emod_of_nonneg (by omega)]; omega
  have f7 : IntKind.i64.wrap (n % 4) = n % 4 := IntWalk.i64_in _ (by omega)
  have f8 : IntKind.i64.wrap (n % 4 + p) = n % 4 + p := IntWalk.i64_in _ (by omega)
  have f9 : IntKind.i64.wrap (4 * (K : Int)) = 4 * (K : Int) := IntWalk.i64_in _ (by omega)
  obtain ⟨N, hN⟩ : ∃ N : Nat, N = K * 4 := ⟨_, rfl⟩
  have HK4 := Lib.hid (show 4 * (K : Int) = (N : Int) by omega)
  have HN := Lib.hid hN
  clear hN
  have HP := Lib.hid (pad_pos n w hn)
  rw [hp] at HP
  clear hK hp
  by_cases hbig : K ≤ 65536
  · have g1 : decide ((K : Int) ≤ 65536) = true := decide_eq_true (by omega)
    go_enter Tryd.func9, Tryd.ntmps9
    go_wp2_with fail
    refine HP.out.mono ?_
    rintro e w1 ⟨rfl, rfl⟩
    go_wp2_with (first
      | (at_make; refine wpList_make_row _ rfl _ _ 36 rfl 2 i0 (i6 0) und_i64s hi0 hz0 hz1 rfl .i64 .i64 K rfl rfl ?cb ?cm ?_)
      | fail)
    case cb => rw [hz2]; omega
    case cm => omega
    have hown := OwnI.made w K 2
    have hq1 : Below w.heap.size w (w.alloc (.cells (madeCells #[i6 0] K) 2)) := q_alloc (Below.refl _ _) _
    have HROW := row_some 0 1 1 0 255 w.heap.size 0 K (List.replicate K 0) (w.alloc (.cells (madeCells #[i6 0] K) 2)) (hs.alloc _) (by omega) span1 (by rw [List.length_replicate]; omega) (by rw [List.length_replicate]; omega) hown.is
    rw [List.length_replicate, rowRes_zeros] at HROW
    refine HROW.mono ?_
    clear HROW hown
    rintro e w2 ⟨rfl, hb2⟩
    have hq2 := q_step hq1 hb2
    go_wp2_with (first
      | (at_make; refine wpList_make_row _ rfl _ _ 50 rfl 5 j0 (u8v 0) und_bytes hj0 hy0 hy1 rfl .i64 .i64 N (congrArg (Value.int .i64) HK4.out) (congrArg (Value.int .i64) HK4.out) ?cb ?cm ?_)
      | fail)
    case cb => rw [hy2]; have := HN.out; omega
    case cm => have := HN.out; omega
    have hown := OwnB.made w2 N 5
    have hcv := run_convert_bytes_arg (P := Tryd.prog) (w2.alloc (.cells (madeCells #[u8v 0] N) 5)) 50 5 und_bytes und_byte w2.heap.size 0 N N (List.replicate N 0) (List.length_replicate) (fun i hi => by
        rw [Nat.zero_add]; exact (hown.at_ i (by rw [List.length_replicate]; omega)).1) 9 und_string
    have hq3 : Below w.heap.size w (w2.alloc (.cells (madeCells #[u8v 0] N) 5)) := q_alloc hq2 _
    clear hown
    generalize w2.alloc (.cells (madeCells #[u8v 0] N) 5) = w3 at hcv hq3 ⊢
    go_wp2_with fail
    rw [hcv]
    go_wp2_with fail
    refine (rows_ok 0 4 4 0 4294967295 4 K (List.replicate N 0) _ (hs.below hq3) (by omega) span4 (zeros_bytes _) rfl (by rw [List.length_replicate]; exact HN.out) (by rw [List.length_replicate]; have := HN.out; omega)).mono ?_
    rintro e w4 ⟨G, rfl, hG, hO, hb4⟩
    clear hO hG
    have hq4 := q_step hq3 hb4
    go_wp2_with fail
    refine (awake_any _ (hs.below hq4)).mono ?_
    rintro e w5 ⟨rfl, hb5⟩
    have hq5 := q_step hq4 hb5
    go_wp2_with fail
    go_returns
    exact ⟨by first | rfl | (simp; done) | (simp; omega), hq5⟩
  · have g1 : decide ((K : Int) ≤ 65536) = false := decide_eq_false (by omega)
    go_enter Tryd.func9, Tryd.ntmps9
    go_wp2_with fail
    refine HP.out.mono ?_
    rintro e w1 ⟨rfl, rfl⟩
    go_wp2_with (first
      | (at_make; refine wpList_make_row _ rfl _ _ 36 rfl 2 i0 (i6 0) und_i64s hi0 hz0 hz1 rfl .i64 .i64 K rfl rfl ?cb ?cm ?_)
      | fail)
    case cb => rw [hz2]; omega
    case cm => omega
    have hown := OwnI.made w K 2
    have hq1 : Below w.heap.size w (w.alloc (.cells (madeCells #[i6 0] K) 2)) := q_alloc (Below.refl _ _) _
    have HROW := row_many 0 1 1 0 255 (some ⟨w.heap.size, 0, none⟩) K K (w.alloc (.cells (madeCells #[i6 0] K) 2)) (hs.alloc _) (by omega) span1 (by omega)
    refine HROW.mono ?_
    clear HROW hown
    rintro e w2 ⟨rfl, hb2⟩
    have hq2 := q_step hq1 hb2
    go_wp2_with (first
      | (at_make; refine wpList_make_row _ rfl _ _ 50 rfl 5 j0 (u8v 0) und_bytes hj0 hy0 hy1 rfl .i64 .i64 N (congrArg (Value.int .i64) HK4.out) (congrArg (Value.int .i64) HK4.out) ?cb ?cm ?_)
      | fail)
    case cb => rw [hy2]; have := HN.out; omega
    case cm => have := HN.out; omega
    have hown := OwnB.made w2 N 5
    have hcv := run_convert_bytes_arg (P := Tryd.prog) (w2.alloc (.cells (madeCells #[u8v 0] N) 5)) 50 5 und_bytes und_byte w2.heap.size 0 N N (List.replicate N 0) (List.length_replicate) (fun i hi => by
        rw [Nat.zero_add]; exact (hown.at_ i (by rw [List.length_replicate]; omega)).1) 9 und_string
    have hq3 : Below w.heap.size w (w2.alloc (.cells (madeCells #[u8v 0] N) 5)) := q_alloc hq2 _
    clear hown
    generalize w2.alloc (.cells (madeCells #[u8v 0] N) 5) = w3 at hcv hq3 ⊢
    go_wp2_with fail
    rw [hcv]
    go_wp2_with fail
    refine (rows_long 0 4 4 0 4294967295 (strOfNums (List.replicate N 0)) _ (hs.below hq3) (by omega) span4 (by rw [strOfNums_size, List.length_replicate]; have := HN.out; omega)).mono ?_
    rintro e w4 ⟨rfl, hb4⟩
    have hq4 := q_step hq3 hb4
    go_wp2_with fail
    refine (awake_any _ (hs.below hq4)).mono ?_
    rintro e w5 ⟨rfl, hb5⟩
    have hq5 := q_step hq4 hb5
    go_wp2_with fail
    go_returns
    exact ⟨by first | rfl | (simp; done) | (simp; omega), hq5⟩

theorem lpads_any (n x : Int) (w : World) (hs : RowAt 0 spanCells w) (b0 : 0 ≤ x) (b1 : x < 256) :
    Calls Tryd.prog 9 #[i6 n, .int .u8 x] w fun e w' => e = .returned (.bool true) ∧ Below w.heap.size w w' := by
  by_cases hn : n < 0
  · exact lpads_neg n x w hs hn
  · exact lpads_pos n x w hs (by omega) b0 b1
end Go.Proofs.YtbbblopackffiaaDoor
