/- Layer 1: the numbers of a row of bytes: the loop. -/
import Derived.Test.YtbbblopackffiaaDoorOrd9
namespace Go.Proofs.YtbbblopackffiaaDoor
open Go Go.RowKit
set_option linter.unusedSimpArgs false
set_option linter.unusedVariables false

theorem below_drew {w w' : World} (h : Below w.drew.heap.size w.drew w') : Below w.heap.size w w' := (Below.refl _ _).drew.trans h
set_option maxRecDepth 100000 in
set_option maxHeartbeats 2000000 in
theorem rows_ok (od s n lo hi : Int) (m c : Nat) (xs : List Int) (w : World) (hs : RowAt 0 spanCells w) (ho : od = 0 ∨ od = 1) (h : IsSpan s n lo hi) (hx : IsBytes xs) (hm : (m : Int) = n) (hc : xs.length = c * m) (hl : xs.length ≤ 262144) :
    Calls Tryd.prog 23 #[i6 od, i6 s, .string (strOfNums xs)] w fun e w' => ∃ G, e = .returned (.tuple #[.slice (some ⟨G, 0, none⟩) c c, i6 0]) ∧ w.heap.size ≤ G ∧ OwnI w' G (decRow od lo hi m xs c) ∧ Below w.heap.size w w' := by
  obtain ⟨i0, hi0, hz0, hz1, hz2⟩ := info_parts' info_i64
  have hsz : (strOfNums xs).size = c * m := by rw [strOfNums_size, hc]
  have hn := h.size
  have hn0 : ¬ n = 0 := by omega
  have hm0 : 0 < m := by omega
  obtain ⟨L, hL⟩ : ∃ L, c * m = L := ⟨_, rfl⟩
  rw [hL] at hsz hc
  have hcL : c ≤ L := by rw [← hL]; exact Nat.le_mul_of_pos_right c hm0
  have hlL : L ≤ 262144 := by omega
  have hLn : (L : Int) = (c : Int) * n := by rw [← hm, ← hL, Int.natCast_mul]
  have f1 : (L : Int).tmod n = 0 := by rw [Int.tmod_eq_emod_of_nonneg (by omega), hLn]; exact Int.mul_emod_left _ _
  have f2 : (L : Int).tdiv n = (c : Int) := by rw [Int.tdiv_eq_ediv_of_nonneg (by omega), hLn]; exact Int.mul_ediv_cancel _ hn0
  have f3 : IntKind.i64.wrap (c : Int) = (c : Int) := IntWalk.i64_in _ (by omega)
  have hb : decide ((262144 : Int) < (L : Int)) = false := decide_eq_false (by omega)
  have HX := Lib.hid hx
  have HN := Lib.hid h
  have HC := Lib.hid hc
  have HLn := Lib.hid hLn
  have HL := Lib.hid hL
  clear h hx hc hLn hL
  go_enter Tryd.func23, Tryd.ntmps23
  go_wp2_with fail
  refine (find_ok od s n lo hi _ hs ho HN.out).mono ?_
  rintro e w1 ⟨rfl, hq⟩
  go_wp2_with (first
    | (at_make; refine wpList_make_row _ rfl _ _ 36 rfl 2 i0 (i6 0) und_i64s hi0 hz0 hz1 rfl .i64 .i64 c rfl rfl ?cb ?cm ?_)
    | go_in)
  case cb => rw [hz2]; omega
  case cm => omega
  have hq1 : Below w.heap.size w ((w1.alloc (.cells #[i6 s, i6 n, i6 lo, i6 hi] 79)).alloc (.cells (madeCells #[i6 0] c) 2)) := q_alloc (q_alloc hq _) _
  have hown : OwnI ((w1.alloc (.cells #[i6 s, i6 n, i6 lo, i6 hi] 79)).alloc (.cells (madeCells #[i6 0] c) 2)) (w1.heap.size + 1) (List.replicate c 0) := by
    have := OwnI.made (w1.alloc (.cells #[i6 s, i6 n, i6 lo, i6 hi] 79)) c 2
    rwa [World.size_alloc] at this
  have hb0 : ((w1.alloc (.cells #[i6 s, i6 n, i6 lo, i6 hi] 79)).alloc (.cells (madeCells #[i6 0] c) 2)).cell? ⟨w1.heap.size, 0, none⟩ = some (i6 s) := cell_old (cell_new rfl)
  have hb1 : ((w1.alloc (.cells #[i6 s, i6 n, i6 lo, i6 hi] 79)).alloc (.cells (madeCells #[i6 0] c) 2)).cell? ⟨w1.heap.size, 1, none⟩ = some (i6 n) := cell_old (cell_new rfl)
  have hb2 : ((w1.alloc (.cells #[i6 s, i6 n, i6 lo, i6 hi] 79)).alloc (.cells (madeCells #[i6 0] c) 2)).cell? ⟨w1.heap.size, 2, none⟩ = some (i6 lo) := cell_old (cell_new rfl)
  have hb3 : ((w1.alloc (.cells #[i6 s, i6 n, i6 lo, i6 hi] 79)).alloc (.cells (madeCells #[i6 0] c) 2)).cell? ⟨w1.heap.size, 3, none⟩ = some (i6 hi) := cell_old (cell_new rfl)
  generalize ((w1.alloc (.cells #[i6 s, i6 n, i6 lo, i6 hi] 79)).alloc (.cells (madeCells #[i6 0] c) 2)) = W2 at hq1 hown hb0 hb1 hb2 hb3 ⊢
  go_wp2_with fail
  go_loopw [41] (fun i wr => ∃ k : Nat, k ≤ c ∧ i = .int .i64 k ∧ OwnI wr (w1.heap.size + 1) (decRow od lo hi m xs k ++ List.replicate (c - k) 0) ∧ wr.cell? ⟨w1.heap.size, 0, none⟩ = some (i6 s) ∧ wr.cell? ⟨w1.heap.size, 1, none⟩ = some (i6 n) ∧ wr.cell? ⟨w1.heap.size, 2, none⟩ = some (i6 lo) ∧ wr.cell? ⟨w1.heap.size, 3, none⟩ = some (i6 hi) ∧ Below w.heap.size w wr)
    (fun i _ => c - (intOf i).toNat)
  case atStart => exact ⟨0, Nat.zero_le _, rfl, by simpa [decRow] using hown, hb0, hb1, hb2, hb3, hq1⟩
  case round =>
    clear hown hb0 hb1 hb2 hb3 hq1 f1 f2 hb
    obtain ⟨k, hk, rfl, hown, hb0, hb1, hb2, hb3, hnx⟩ := hrel
    by_cases hlt : k < c
    · obtain ⟨P, hP⟩ : ∃ P : Nat, k * m = P := ⟨_, rfl⟩
      have hPL : P + m ≤ L := by
        have : (k + 1) * m ≤ c * m := Nat.mul_le_mul_right m hlt
        rw [Nat.add_mul, Nat.one_mul, HL.out] at this
        omega
      have hPn : (k : Int) * n = (P : Int) := by rw [← hm, ← hP, Int.natCast_mul]
      have hw2 : IntKind.i64.wrap ((k : Int) * n) = (P : Int) := by rw [hPn]; exact IntWalk.i64_in _ (by omega)
      have hw3 : IntKind.i64.wrap ((k : Int) + 1) = (k : Int) + 1 := IntWalk.i64_in _ (by omega)
      have hw4 : IntKind.i64.wrap (((k : Int) + 1) * n) = (P : Int) + n := by rw [Int.add_mul, hPn, Int.one_mul]; exact IntWalk.i64_in _ (by omega)
      have hsl := fun ww => run_slice_string (P := Tryd.prog) ww 9 (strOfNums xs) .i64 .i64 (P : Int) ((P : Int) + n) und_string (by omega) (by omega) (by rw [hsz]; omega)
      have hto : ((P : Int) + n).toNat - P = m := by omega
      have hpc : ((xs.drop P).take m).length = m := by rw [List.length_take, List.length_drop, HC.out]; omega
      rw [str_extract, Int.toNat_natCast, hto] at hsl
      have hstep := decRow_step od lo hi m xs k
      rw [hP] at hstep
      have hpb : IsBytes ((xs.drop P).take m) := (HX.out.drop P).take m
      generalize (xs.drop P).take m = ys at hsl hpc hstep hpb
      have HB := Lib.hid hpb
      have HT := Lib.hid hstep
      have hlen0 := decRow_length od lo hi m xs k
      have s7 : IntKind.i64.wrap (P : Int) = (P : Int) := IntWalk.i64_in _ (by omega)
      clear hpb hstep hPn hto
      have hgk := hown.at_ k (by rw [List.length_append, hlen0, List.length_replicate]; omega)
      have hG1 : w1.heap.size + 1 ≠ w1.heap.size := Nat.succ_ne_self _
      go_wp2_with fail
      go_region_held3 (fun w' => w'.cell? ⟨w1.heap.size, 0, none⟩ = some (i6 s) ∧ w'.cell? ⟨w1.heap.size, 1, none⟩ = some (i6 n) ∧ w'.cell? ⟨w1.heap.size, 2, none⟩ = some (i6 lo) ∧ w'.cell? ⟨w1.heap.size, 3, none⟩ = some (i6 hi))
        (first | exact ⟨hb0, hb1, hb2, hb3⟩ | exact ⟨c0, c1, c2, c3⟩ | exact ⟨(World.cell?_setCell_far _ _ _ _ hG1).trans c0, (World.cell?_setCell_far _ _ _ _ hG1).trans c1, (World.cell?_setCell_far _ _ _ _ hG1).trans c2, (World.cell?_setCell_far _ _ _ _ hG1).trans c3⟩)
        (first | (go_at_call 46; refine (read_any HN.out ho HB.out (by rw [hpc]; exact hm)).mono ?_; rintro e w4 ⟨rfl, hq4⟩; have c0 := cell_below (below_drew hq4) hb0; have c1 := cell_below (below_drew hq4) hb1; have c2 := cell_below (below_drew hq4) hb2; have c3 := cell_below (below_drew hq4) hb3; have hown4 := hown.below (below_drew hq4); have hg4 := hown4.at_ k (by rw [List.length_append, hlen0, List.length_replicate]; omega)))
      have hown5 := hown4.set (j := k) (by rw [List.length_append, hlen0, List.length_replicate]; omega) (dec od lo hi ys)
      have hlist : (decRow od lo hi m xs k ++ List.replicate (c - k) 0).set k (dec od lo hi ys) = decRow od lo hi m xs (k + 1) ++ List.replicate (c - (k + 1)) 0 := by
        have := put_room [dec od lo hi ys] (decRow od lo hi m xs k) (c - k) k hlen0.symm (by simp; omega)
        rw [HT.out]
        exact this
      rw [hlist] at hown5
      have hq5 : Below w.heap.size w (w4.setCell ⟨w1.heap.size + 1, k, none⟩ (i6 (dec od lo hi ys))) := (q_step hnx (below_drew hq4)).setCell (by have := hq.size; show w.heap.size ≤ w1.heap.size + 1; omega) _
      have e0 := (World.cell?_setCell_far w4 ⟨w1.heap.size + 1, k, none⟩ ⟨w1.heap.size, 0, none⟩ (i6 (dec od lo hi ys)) hG1).trans c0
      have e1 := (World.cell?_setCell_far w4 ⟨w1.heap.size + 1, k, none⟩ ⟨w1.heap.size, 1, none⟩ (i6 (dec od lo hi ys)) hG1).trans c1
      have e2 := (World.cell?_setCell_far w4 ⟨w1.heap.size + 1, k, none⟩ ⟨w1.heap.size, 2, none⟩ (i6 (dec od lo hi ys)) hG1).trans c2
      have e3 := (World.cell?_setCell_far w4 ⟨w1.heap.size + 1, k, none⟩ ⟨w1.heap.size, 3, none⟩ (i6 (dec od lo hi ys)) hG1).trans c3
      clear hown4 c0 c1 c2 c3 hq4 hown hb0 hb1 hb2 hb3 hnx
      generalize w4.setCell ⟨w1.heap.size + 1, k, none⟩ (i6 (dec od lo hi ys)) = w5 at hown5 hq5 e0 e1 e2 e3 ⊢
      go_wp2_with fail
      go_roundw
      case rel => exact ⟨k + 1, by omega, by go_num, hown5, e0, e1, e2, e3, hq5⟩
      case measure => simp [intOf]; omega
    · have hkc : k = c := by omega
      subst hkc
      rw [Nat.sub_self, List.replicate_zero, List.append_nil] at hown
      have hge : w.heap.size ≤ w1.heap.size + 1 := by have := hq.size; omega
      go_wp2_with fail
      go_returns
      exact ⟨_, by first | rfl | (simp; done), hge, hown, hnx⟩
end Go.Proofs.YtbbblopackffiaaDoor
