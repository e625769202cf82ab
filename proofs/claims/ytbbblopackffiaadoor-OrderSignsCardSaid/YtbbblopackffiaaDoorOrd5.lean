/- Layer 1: a row of numbers as bytes. -/
import Derived.Test.YtbbblopackffiaaDoorOrd4
import Derived.StillTailTactics
import Derived.OwnWalk
import Derived.Deep.OwnRows
import Derived.Laws.OwnMore
namespace Go.Proofs.YtbbblopackffiaaDoor
open Go Go.RowKit
set_option linter.unusedSimpArgs false
set_option linter.unusedVariables false

theorem OwnB.made (w : World) (N : Nat) (t : TypeId) : OwnB (w.alloc (.cells (madeCells #[u8v 0] N) t)) w.heap.size (List.replicate N 0) := by
  refine ⟨by simp [World.size_alloc], fun j hj => ?_⟩
  rw [List.length_replicate] at hj
  refine ⟨cell_new ?_, World.frozen?_alloc_new _ _ _ _⟩
  rw [← Array.getElem?_toList, toList_madeCells_one, List.getElem?_replicate, if_pos hj]
  simp [List.getD_eq_getElem?_getD, List.getElem?_replicate, hj]

theorem info_parts' {P : Program} {e : TypeId} {r : Option Value × Nat × Nat} (h : (P.info? e).map (fun i => (i.zero, i.size, i.bytes)) = some r) : ∃ i, P.info? e = some i ∧ i.zero = r.1 ∧ i.size = r.2.1 ∧ i.bytes = r.2.2 := by
  obtain ⟨i, hi, he⟩ := Option.map_eq_some_iff.1 h
  subst he
  exact ⟨i, hi, rfl, rfl, rfl⟩
theorem info_byte : (Tryd.prog.info? 5).map (fun i => (i.zero, i.size, i.bytes)) = some (some (u8v 0), 1, 1) := by kernel_rfl
theorem und_bytes : Tryd.prog.underlying 50 = some (.slice 5) := by kernel_rfl
theorem und_byte : Tryd.prog.underlying 5 = some (.int .u8) := by kernel_rfl
theorem und_string : Tryd.prog.underlying 9 = some .string := by kernel_rfl

/-- Are all within? -/
def allIn (lo hi : Int) (us : List Int) : Bool := us.all (inB lo hi)
theorem allIn_no {lo hi : Int} {us : List Int} {i : Nat} (hi' : i < us.length) (h : inB lo hi (us.getD i 0) = false) : allIn lo hi us = false := by
  unfold allIn
  rw [List.all_eq_false]
  refine ⟨us.getD i 0, ?_, by rw [h]; simp⟩
  rw [List.getD_eq_getElem?_getD, List.getElem?_eq_getElem hi']
  exact List.getElem_mem hi'
theorem allIn_yes {lo hi : Int} {us : List Int} (h : ∀ i, i < us.length → inB lo hi (us.getD i 0) = true) : allIn lo hi us = true := by
  unfold allIn
  rw [List.all_eq_true]
  intro u hu
  obtain ⟨i, hi', rfl⟩ := List.getElem_of_mem hu
  have := h i hi'
  rwa [List.getD_eq_getElem?_getD, List.getElem?_eq_getElem hi'] at this
/-- What Row tells, of a right order and size, of at most so many numbers. -/
def rowRes (od n lo hi : Int) (us : List Int) : Value :=
  if allIn lo hi us then .tuple #[.string (strOfNums (encRow od n us)), i6 0] else .tuple #[.string ⟨#[]⟩, i6 1]

/-- The elements of a slice, in memory. -/
abbrev I6At (w : World) (b off : Nat) (us : List Int) : Prop := b < w.heap.size ∧ ∀ j, j < us.length → w.cell? ⟨b, off + j, none⟩ = some (i6 (us.getD j 0))

set_option maxRecDepth 100000 in
set_option maxHeartbeats 2000000 in
theorem row_some (od s n lo hi : Int) (b off cap : Nat) (us : List Int) (w : World) (hs : RowAt 0 spanCells w) (ho : od = 0 ∨ od = 1) (h : IsSpan s n lo hi) (hlen : us.length ≤ 65536) (hne : 0 < us.length) (hc : I6At w b off us) :
    Calls Tryd.prog 21 #[i6 od, i6 s, .slice (some ⟨b, off, none⟩) us.length cap] w fun e w' => e = .returned (rowRes od n lo hi us) ∧ Below w.heap.size w w' := by
  obtain ⟨i0, hi0, hz0, hz1, hz2⟩ := info_parts' info_byte
  have HC := Lib.hid hc
  have HN := Lib.hid h
  have hsz := h.size
  obtain ⟨m, hm⟩ : ∃ m : Nat, (m : Int) = n := ⟨n.toNat, by omega⟩
  have hm4 : m ≤ 4 := by omega
  have hmN : us.length * m ≤ 262144 := by
    have := Nat.mul_le_mul hlen hm4
    omega
  have hN : IntKind.i64.wrap ((us.length : Int) * n) = ((us.length * m : Nat) : Int) := by
    rw [← hm, ← Int.natCast_mul]
    exact IntWalk.i64_in _ (by omega)
  have HN2 := Lib.hid (show (us.length : Int) * n = ((us.length * m : Nat) : Int) by rw [← hm, ← Int.natCast_mul])
  clear hc h
  go_enter Tryd.func21, Tryd.ntmps21
  go_wp2_with fail
  refine (find_ok od s n lo hi _ hs ho HN.out).mono ?_
  rintro e w1 ⟨rfl, hq⟩
  go_wp2_with (first
    | (at_make; refine wpList_make_row _ rfl _ _ 50 rfl 5 i0 (u8v 0) und_bytes hi0 hz0 hz1 rfl .i64 .i64 (us.length * m) (congrArg (Value.int .i64) HN2.out) (congrArg (Value.int .i64) HN2.out) ?cb ?cm ?_)
    | go_in)
  case cb => rw [hz2]; omega
  case cm => omega
  have hw1 : w1.heap.size < (w1.alloc (.cells #[i6 s, i6 n, i6 lo, i6 hi] 79)).heap.size := by simp [World.size_alloc]
  have hq1 : Below w.heap.size w ((w1.alloc (.cells #[i6 s, i6 n, i6 lo, i6 hi] 79)).alloc (.cells (madeCells #[u8v 0] (us.length * m)) 5)) := q_alloc (q_alloc hq _) _
  have hown : OwnB ((w1.alloc (.cells #[i6 s, i6 n, i6 lo, i6 hi] 79)).alloc (.cells (madeCells #[u8v 0] (us.length * m)) 5)) (w1.heap.size + 1) (List.replicate (us.length * m) 0) := by
    have := OwnB.made (w1.alloc (.cells #[i6 s, i6 n, i6 lo, i6 hi] 79)) (us.length * m) 5
    rwa [World.size_alloc] at this
  have hb0 : ((w1.alloc (.cells #[i6 s, i6 n, i6 lo, i6 hi] 79)).alloc (.cells (madeCells #[u8v 0] (us.length * m)) 5)).cell? ⟨w1.heap.size, 0, none⟩ = some (i6 s) := cell_old (cell_new rfl)
  have hb1 : ((w1.alloc (.cells #[i6 s, i6 n, i6 lo, i6 hi] 79)).alloc (.cells (madeCells #[u8v 0] (us.length * m)) 5)).cell? ⟨w1.heap.size, 1, none⟩ = some (i6 n) := cell_old (cell_new rfl)
  have hb2 : ((w1.alloc (.cells #[i6 s, i6 n, i6 lo, i6 hi] 79)).alloc (.cells (madeCells #[u8v 0] (us.length * m)) 5)).cell? ⟨w1.heap.size, 2, none⟩ = some (i6 lo) := cell_old (cell_new rfl)
  have hb3 : ((w1.alloc (.cells #[i6 s, i6 n, i6 lo, i6 hi] 79)).alloc (.cells (madeCells #[u8v 0] (us.length * m)) 5)).cell? ⟨w1.heap.size, 3, none⟩ = some (i6 hi) := cell_old (cell_new rfl)
  generalize ((w1.alloc (.cells #[i6 s, i6 n, i6 lo, i6 hi] 79)).alloc (.cells (madeCells #[u8v 0] (us.length * m)) 5)) = W2 at hq1 hown hb0 hb1 hb2 hb3 ⊢
  go_wp2_with fail
  go_loopw [33] (fun i wr => ∃ k : Nat, k ≤ us.length ∧ i = .int .i64 k ∧ Hid (∀ j, j < k → inB lo hi (us.getD j 0) = true) ∧ OwnB wr (w1.heap.size + 1) (encRow od n (us.take k) ++ List.replicate ((us.length - k) * m) 0) ∧ wr.cell? ⟨w1.heap.size, 0, none⟩ = some (i6 s) ∧ wr.cell? ⟨w1.heap.size, 1, none⟩ = some (i6 n) ∧ wr.cell? ⟨w1.heap.size, 2, none⟩ = some (i6 lo) ∧ wr.cell? ⟨w1.heap.size, 3, none⟩ = some (i6 hi) ∧ Below w.heap.size w wr)
    (fun i _ => us.length - (intOf i).toNat)
  case atStart => exact ⟨0, Nat.zero_le _, rfl, Lib.hid (fun j hj => absurd hj (Nat.not_lt_zero _)), by simpa [encRow] using hown, hb0, hb1, hb2, hb3, hq1⟩
  case round =>
    clear hown hb0 hb1 hb2 hb3 hq1
    obtain ⟨k, hk, rfl, hall, hown, hb0, hb1, hb2, hb3, hnx⟩ := hrel
    by_cases hlt : k < us.length
    · have hcx : wr.cell? ⟨b, off + k, none⟩ = some (i6 (us.getD k 0)) := (hnx.cell (p := ⟨b, off + k, none⟩) HC.out.1).trans (HC.out.2 k hlt)
      by_cases hin : inB lo hi (us.getD k 0) = true
      · have hst := encRow_step od n us k hlt
        have hall' : Hid (∀ j, j < k + 1 → inB lo hi (us.getD j 0) = true) := Lib.hid (fun j hj => by
          by_cases e : j = k
          · rw [e]; exact hin
          · exact hall.out j (by omega))
        generalize us.getD k 0 = u at hcx hin hst
        clear hall
        obtain ⟨P, hP⟩ : ∃ P : Nat, k * m = P := ⟨_, rfl⟩
        obtain ⟨L, hL⟩ : ∃ L : Nat, us.length * m = L := ⟨_, rfl⟩
        have hPL : P + m ≤ L := by
          have : (k + 1) * m ≤ us.length * m := Nat.mul_le_mul_right m hlt
          rw [Nat.add_mul, Nat.one_mul] at this
          omega
        have hlenE : (encRow od n (us.take k)).length = P := by
          rw [encRow_length _ _ hsz, List.length_take, Nat.min_eq_left hk, ← hP, ← hm, Int.toNat_natCast]
        have hlenR : (us.length - k) * m = L - P := by rw [Nat.sub_mul, hP, hL]
        have hPn : (k : Int) * n = (P : Int) := by rw [← hm, ← hP, Int.natCast_mul]
        have hw2 : IntKind.i64.wrap ((k : Int) * n) = (P : Int) := by rw [hPn]; exact IntWalk.i64_in _ (by omega)
        have hw3 : IntKind.i64.wrap ((k : Int) + 1) = (k : Int) + 1 := IntWalk.i64_in _ (by omega)
        have hw4 : IntKind.i64.wrap (((k : Int) + 1) * n) = (P : Int) + n := by rw [Int.add_mul, hPn, Int.one_mul]; exact IntWalk.i64_in _ (by omega)
        clear hPn
        rw [hlenR] at hown
        rw [hL]
        go_wp2_with fail
        refine (has_any s n lo hi u _).mono ?_
        rintro e w3 ⟨rfl, hq3⟩
        rw [hin]
        have hq4 := q_step hnx hq3
        have hown3 := hown.below hq3
        have c0 := cell_below hq3 hb0
        have c1 := cell_below hq3 hb1
        have c2 := cell_below hq3 hb2
        have c3 := cell_below hq3 hb3
        clear hown hb0 hb1 hb2 hb3 hcx hnx hq3
        go_wp2_with fail
        go_still_tail 14, (by kernel_rfl)
        have e0 : ({ heap := w3.heap, tape := w3.tape, drawn := w3.drawn + 1, os := w3.os, output := w3.output } : World).cell? ⟨w1.heap.size, 0, none⟩ = some (i6 s) := c0
        have e1 : ({ heap := w3.heap, tape := w3.tape, drawn := w3.drawn + 1, os := w3.os, output := w3.output } : World).cell? ⟨w1.heap.size, 1, none⟩ = some (i6 n) := c1
        have e2 : ({ heap := w3.heap, tape := w3.tape, drawn := w3.drawn + 1, os := w3.os, output := w3.output } : World).cell? ⟨w1.heap.size, 2, none⟩ = some (i6 lo) := c2
        have e3 : ({ heap := w3.heap, tape := w3.tape, drawn := w3.drawn + 1, os := w3.os, output := w3.output } : World).cell? ⟨w1.heap.size, 3, none⟩ = some (i6 hi) := c3
        have s1 : 0 ≤ (P : Int) + n := by omega
        have s2 : (P : Int) + n ≤ (L : Int) := by omega
        have s3 : 0 ≤ n := by omega
        have s8 : (P : Int) ≤ (P : Int) + n := by omega
        have s4 : max ((P : Int) + n) 0 = (P : Int) + n := by omega
        have s5 : ¬ L = P := by omega
        have s6 : ((P : Int) + n).toNat - P = m := by omega
        have s7 : IntKind.i64.wrap (P : Int) = (P : Int) := IntWalk.i64_in _ (by omega)
        repeat still_step
        refine wpStill_nil ?_
        change wpList _ _ _ _ _ w3.drew
        have hq5 : Below w.heap.size w w3.drew := q_drew hq4
        have hown4 := hown3.drew
        have d0 : w3.drew.cell? ⟨w1.heap.size, 0, none⟩ = some (i6 s) := c0
        have d1 : w3.drew.cell? ⟨w1.heap.size, 1, none⟩ = some (i6 n) := c1
        have d2 : w3.drew.cell? ⟨w1.heap.size, 2, none⟩ = some (i6 lo) := c2
        have d3 : w3.drew.cell? ⟨w1.heap.size, 3, none⟩ = some (i6 hi) := c3
        clear e0 e1 e2 e3 c0 c1 c2 c3 hown3 hq4
        generalize w3.drew = w4 at hq5 hown4 d0 d1 d2 d3 ⊢
        go_wp2_with fail
        refine (lay_any (bs := encRow od n (us.take k) ++ List.replicate (L - P) 0) hsz ho hm hown4 (by rw [List.length_append, hlenE, List.length_replicate]; omega)).mono ?_
        rintro e w5 ⟨rfl, hown5, hbut⟩
        have hlE : (enc od n u).length = m := by rw [enc_length _ _ hsz]; omega
        rw [put_room _ _ _ _ hlenE.symm (by rw [hlE]; omega), hlE, ← hst, show L - P - m = (us.length - (k + 1)) * m by rw [Nat.sub_mul, hL, Nat.add_mul, hP, Nat.one_mul]; omega] at hown5
        have hbz : w1.heap.size < w4.heap.size := block_lt_of_cell d0
        have hwz : w.heap.size ≤ w1.heap.size := hq.size
        have q0 := (hbut.cell ⟨w1.heap.size, 0, none⟩ (by show w1.heap.size ≠ _; omega) hbz).trans d0
        have q1 := (hbut.cell ⟨w1.heap.size, 1, none⟩ (by show w1.heap.size ≠ _; omega) hbz).trans d1
        have q2 := (hbut.cell ⟨w1.heap.size, 2, none⟩ (by show w1.heap.size ≠ _; omega) hbz).trans d2
        have q3 := (hbut.cell ⟨w1.heap.size, 3, none⟩ (by show w1.heap.size ≠ _; omega) hbz).trans d3
        have hq6 : Below w.heap.size w w5 := hq5.trans (hbut.below _ (by omega) hq5.size)
        clear hown4 d0 d1 d2 d3 hbut
        go_wp2_with fail
        go_roundw
        case rel => exact ⟨k + 1, by omega, by go_num, hall', hown5, q0, q1, q2, q3, hq6⟩
        case measure => simp [intOf]; omega
      · have hin' : inB lo hi (us.getD k 0) = false := by simpa using hin
        have hR := Lib.hid (show rowRes od n lo hi us = .tuple #[.string ⟨#[]⟩, i6 1] by unfold rowRes; rw [allIn_no hlt hin']; rfl)
        generalize us.getD k 0 = u at hcx hin'
        clear hin
        go_wp2_with fail
        refine (has_any s n lo hi u _).mono ?_
        rintro e w3 ⟨rfl, hq3⟩
        rw [hin']
        have hq4 := q_step hnx hq3
        go_wp2_with fail
        go_returns
        exact ⟨by rw [hR.out]; first | rfl | (simp; done), hq4⟩
    · have hkl : k = us.length := by omega
      subst hkl
      have hR := Lib.hid (show rowRes od n lo hi us = .tuple #[.string (strOfNums (encRow od n us)), i6 0] by unfold rowRes; rw [allIn_yes hall.out]; rfl)
      rw [List.take_length, Nat.sub_self, Nat.zero_mul, List.replicate_zero, List.append_nil] at hown
      have hL : (encRow od n us).length = us.length * m := by rw [encRow_length _ _ hsz, ← hm, Int.toNat_natCast]
      have hcv := run_convert_bytes_arg (P := Tryd.prog) wr 50 5 und_bytes und_byte (w1.heap.size + 1) 0 (us.length * m) (us.length * m) (encRow od n us) hL (fun i hi => by
        rw [Nat.zero_add]; exact (hown.at_ i (by omega)).1) 9 und_string
      clear hown hall
      go_wp2_with fail
      go_returns
      exact ⟨by rw [hR.out]; first | rfl | (simp; done), hnx⟩
end Go.Proofs.YtbbblopackffiaaDoor
