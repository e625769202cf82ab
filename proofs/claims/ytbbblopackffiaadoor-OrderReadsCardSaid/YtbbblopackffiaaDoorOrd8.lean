/- Layer 1: the walks of OrderTurns and OrderSigns. -/
import Derived.Test.YtbbblopackffiaaDoorOrd7
import Derived.Lib.SlicesS
namespace Go.Proofs.YtbbblopackffiaaDoor
open Go Go.RowKit
set_option linter.unusedSimpArgs false
set_option linter.unusedVariables false

theorem rowRes_in {od n lo hi v : Int} (h1 : lo ≤ v) (h2 : v ≤ hi) : rowRes od n lo hi [v] = strOk (enc od n v) := by
  unfold rowRes allIn inB
  rw [if_pos (by simp [h1, h2]), encRow_one]
theorem rowRes_out {od n lo hi v : Int} (h : ¬ (lo ≤ v ∧ v ≤ hi)) : rowRes od n lo hi [v] = strErr 1 := by
  unfold rowRes allIn inB
  rw [if_neg (by simpa using h)]
theorem put_in {od s n lo hi v : Int} (w : World) (hs : RowAt 0 spanCells w) (ho : od = 0 ∨ od = 1) (h : IsSpan s n lo hi) (h1 : lo ≤ v) (h2 : v ≤ hi) :
    Calls Tryd.prog 16 #[i6 od, i6 s, i6 v] w fun e w' => e = .returned (strOk (enc od n v)) ∧ Below w.heap.size w w' := by
  rw [← rowRes_in h1 h2]; exact put_ok od s n lo hi v w hs ho h
theorem put_in' {od s n lo hi v : Int} {xs : List Int} (w : World) (hs : RowAt 0 spanCells w) (ho : od = 0 ∨ od = 1) (h : IsSpan s n lo hi) (h1 : lo ≤ v) (h2 : v ≤ hi) (hx : enc od n v = xs) :
    Calls Tryd.prog 16 #[i6 od, i6 s, i6 v] w fun e w' => e = .returned (strOk xs) ∧ Below w.heap.size w w' := hx ▸ put_in w hs ho h h1 h2
theorem put_out {od s n lo hi v : Int} (w : World) (hs : RowAt 0 spanCells w) (ho : od = 0 ∨ od = 1) (h : IsSpan s n lo hi) (h1 : ¬ (lo ≤ v ∧ v ≤ hi)) :
    Calls Tryd.prog 16 #[i6 od, i6 s, i6 v] w fun e w' => e = .returned (strErr 1) ∧ Below w.heap.size w w' := by
  rw [← rowRes_out h1]; exact put_ok od s n lo hi v w hs ho h
theorem turned_nil (w : World) : Calls Tryd.prog 26 #[.string ⟨#[]⟩] w fun e w' => e = .returned (.string ⟨#[]⟩) ∧ w = w' := turned_any [] w (by simp)

set_option maxRecDepth 100000 in
theorem lturns_size (size v u : Int) (w : World) (hs : RowAt 0 spanCells w) (hk : BadSize size) :
    Calls Tryd.prog 7 #[i6 size, i6 v, i6 u] w fun e w' => e = .returned (.bool true) ∧ Below w.heap.size w w' := by
  go_enter Tryd.func7, Tryd.ntmps7
  go_wp2_with fail
  refine (put_size 0 size v _ hs (by omega) hk).mono ?_
  rintro e w1 ⟨rfl, hb1⟩
  have hq1 := hb1
  go_wp2_with fail
  refine (put_size 1 size v _ (hs.below hq1) (by omega) hk).mono ?_
  rintro e w2 ⟨rfl, hb2⟩
  have hq2 := q_step hq1 hb2
  clear hb2
  go_wp2_with fail
  refine (put_size 1 size u _ (hs.below hq2) (by omega) hk).mono ?_
  rintro e w3 ⟨rfl, hb3⟩
  have hq3 := q_step hq2 hb3
  clear hb3
  go_wp2_with fail
  refine (turned_nil _).mono ?_
  rintro e w4 ⟨rfl, rfl⟩
  go_wp2_with fail
  refine (awake_any _ (hs.below hq3)).mono ?_
  rintro e w5 ⟨rfl, hb5⟩
  have hq5 := q_step hq3 hb5
  go_wp2_with fail
  go_returns
  exact ⟨by first | rfl | (simp; done) | (simp; omega), hq5⟩

set_option maxRecDepth 100000 in
theorem lturns_out1 (size v u : Int) (w : World) (hs : RowAt 0 spanCells w) (n lo hi : Int) (h : IsSpan size n lo hi) (hv : ¬ (lo ≤ v ∧ v ≤ hi)) (hu : ¬ (lo ≤ u ∧ u ≤ hi)) :
    Calls Tryd.prog 7 #[i6 size, i6 v, i6 u] w fun e w' => e = .returned (.bool true) ∧ Below w.heap.size w w' := by
  go_enter Tryd.func7, Tryd.ntmps7
  go_wp2_with fail
  refine (put_out _ hs (by omega) h hv).mono ?_
  rintro e w1 ⟨rfl, hb1⟩
  have hq1 := hb1
  go_wp2_with fail
  refine (put_out _ (hs.below hq1) (by omega) h hv).mono ?_
  rintro e w2 ⟨rfl, hb2⟩
  have hq2 := q_step hq1 hb2
  clear hb2
  go_wp2_with fail
  refine (put_out _ (hs.below hq2) (by omega) h hu).mono ?_
  rintro e w3 ⟨rfl, hb3⟩
  have hq3 := q_step hq2 hb3
  clear hb3
  go_wp2_with fail
  refine (turned_nil _).mono ?_
  rintro e w4 ⟨rfl, rfl⟩
  go_wp2_with fail
  refine (awake_any _ (hs.below hq3)).mono ?_
  rintro e w5 ⟨rfl, hb5⟩
  have hq5 := q_step hq3 hb5
  go_wp2_with fail
  go_returns
  exact ⟨by first | rfl | (simp; done) | (simp; omega), hq5⟩

set_option maxRecDepth 100000 in
theorem lturns_out2 (size v u : Int) (w : World) (hs : RowAt 0 spanCells w) (n lo hi : Int) (h : IsSpan size n lo hi) (hv : ¬ (lo ≤ v ∧ v ≤ hi)) (hu : lo ≤ u ∧ u ≤ hi) :
    Calls Tryd.prog 7 #[i6 size, i6 v, i6 u] w fun e w' => e = .returned (.bool true) ∧ Below w.heap.size w w' := by
  go_enter Tryd.func7, Tryd.ntmps7
  go_wp2_with fail
  refine (put_out _ hs (by omega) h hv).mono ?_
  rintro e w1 ⟨rfl, hb1⟩
  have hq1 := hb1
  go_wp2_with fail
  refine (put_out _ (hs.below hq1) (by omega) h hv).mono ?_
  rintro e w2 ⟨rfl, hb2⟩
  have hq2 := q_step hq1 hb2
  clear hb2
  go_wp2_with fail
  refine (put_in _ (hs.below hq2) (by omega) h hu.1 hu.2).mono ?_
  rintro e w3 ⟨rfl, hb3⟩
  have hq3 := q_step hq2 hb3
  clear hb3
  go_wp2_with fail
  refine (turned_nil _).mono ?_
  rintro e w4 ⟨rfl, rfl⟩
  go_wp2_with fail
  refine (awake_any _ (hs.below hq3)).mono ?_
  rintro e w5 ⟨rfl, hb5⟩
  have hq5 := q_step hq3 hb5
  go_wp2_with fail
  go_returns
  exact ⟨by first | rfl | (simp; done) | (simp; omega), hq5⟩

set_option maxRecDepth 100000 in
theorem lturns_in1 (size v u : Int) (w : World) (hs : RowAt 0 spanCells w) (n lo hi : Int) (h : IsSpan size n lo hi) (hv : lo ≤ v ∧ v ≤ hi) (hu : ¬ (lo ≤ u ∧ u ≤ hi)) :
    Calls Tryd.prog 7 #[i6 size, i6 v, i6 u] w fun e w' => e = .returned (.bool true) ∧ Below w.heap.size w w' := by
  have hE0 := Lib.hid (enc_turned n v)
  have hA := enc_length 1 v h.size
  have hA1 := h.size
  go_enter Tryd.func7, Tryd.ntmps7
  go_wp2_with fail
  refine (put_in' _ hs (by omega) h hv.1 hv.2 hE0.out).mono ?_
  rintro e w1 ⟨rfl, hb1⟩
  have hq1 := hb1
  go_wp2_with fail
  refine (put_in _ (hs.below hq1) (by omega) h hv.1 hv.2).mono ?_
  rintro e w2 ⟨rfl, hb2⟩
  have hq2 := q_step hq1 hb2
  clear hb2
  go_wp2_with fail
  refine (put_out _ (hs.below hq2) (by omega) h hu).mono ?_
  rintro e w3 ⟨rfl, hb3⟩
  have hq3 := q_step hq2 hb3
  clear hb3
  go_wp2_with fail
  refine (turned_any _ _ (by omega)).mono ?_
  rintro e w4 ⟨rfl, rfl⟩
  go_wp2_with fail
  refine (awake_any _ (hs.below hq3)).mono ?_
  rintro e w5 ⟨rfl, hb5⟩
  have hq5 := q_step hq3 hb5
  go_wp2_with fail
  go_returns
  exact ⟨by first | rfl | (simp; done) | (simp; omega), hq5⟩

set_option maxRecDepth 100000 in
theorem lturns_same (size u v : Int) (w : World) (hs : RowAt 0 spanCells w) (n lo hi : Int) (h : IsSpan size n lo hi) (hv : lo ≤ v ∧ v ≤ hi) (hu : u = v) :
    Calls Tryd.prog 7 #[i6 size, i6 v, i6 u] w fun e w' => e = .returned (.bool true) ∧ Below w.heap.size w w' := by
  subst hu
  have hE0 := Lib.hid (enc_turned n u)
  have hA := enc_length 1 u h.size
  have hA1 := h.size
  go_enter Tryd.func7, Tryd.ntmps7
  go_wp2_with fail
  refine (put_in' _ hs (by omega) h hv.1 hv.2 hE0.out).mono ?_
  rintro e w1 ⟨rfl, hb1⟩
  have hq1 := hb1
  go_wp2_with fail
  refine (put_in _ (hs.below hq1) (by omega) h hv.1 hv.2).mono ?_
  rintro e w2 ⟨rfl, hb2⟩
  have hq2 := q_step hq1 hb2
  clear hb2
  go_wp2_with fail
  refine (put_in _ (hs.below hq2) (by omega) h hv.1 hv.2).mono ?_
  rintro e w3 ⟨rfl, hb3⟩
  have hq3 := q_step hq2 hb3
  clear hb3
  go_wp2_with fail
  refine (turned_any _ _ (by omega)).mono ?_
  rintro e w4 ⟨rfl, rfl⟩
  go_wp2_with fail
  refine (awake_any _ (hs.below hq3)).mono ?_
  rintro e w5 ⟨rfl, hb5⟩
  have hq5 := q_step hq3 hb5
  go_wp2_with fail
  go_returns
  exact ⟨by first | rfl | (simp; done) | (simp; omega), hq5⟩

set_option maxRecDepth 100000 in
theorem lturns_other (size v u : Int) (w : World) (hs : RowAt 0 spanCells w) (n lo hi : Int) (h : IsSpan size n lo hi) (hv : lo ≤ v ∧ v ≤ hi) (hu : lo ≤ u ∧ u ≤ hi) (hne : ¬ v = u) :
    Calls Tryd.prog 7 #[i6 size, i6 v, i6 u] w fun e w' => e = .returned (.bool true) ∧ Below w.heap.size w w' := by
  have hE0 := Lib.hid (enc_turned n v)
  have hA := enc_length 1 v h.size
  have hA1 := h.size
  have hB : ((strOfNums (enc 1 n v)).toList == (strOfNums (enc 1 n u)).toList) = false := (Lib.bytes_beq_false_iff _ _).2 fun e => hne (enc_inj h hu.1 hu.2 hv.1 hv.2 (str_inj (enc_bytes _ _ _) (enc_bytes _ _ _) e))
  have hne' : ¬ u = v := fun e => hne e.symm
  go_enter Tryd.func7, Tryd.ntmps7
  go_wp2_with fail
  refine (put_in' _ hs (by omega) h hv.1 hv.2 hE0.out).mono ?_
  rintro e w1 ⟨rfl, hb1⟩
  have hq1 := hb1
  go_wp2_with fail
  refine (put_in _ (hs.below hq1) (by omega) h hv.1 hv.2).mono ?_
  rintro e w2 ⟨rfl, hb2⟩
  have hq2 := q_step hq1 hb2
  clear hb2
  go_wp2_with fail
  refine (put_in _ (hs.below hq2) (by omega) h hu.1 hu.2).mono ?_
  rintro e w3 ⟨rfl, hb3⟩
  have hq3 := q_step hq2 hb3
  clear hb3
  go_wp2_with fail
  refine (turned_any _ _ (by omega)).mono ?_
  rintro e w4 ⟨rfl, rfl⟩
  go_wp2_with fail
  refine (awake_any _ (hs.below hq3)).mono ?_
  rintro e w5 ⟨rfl, hb5⟩
  have hq5 := q_step hq3 hb5
  go_wp2_with fail
  go_returns
  exact ⟨by first | rfl | (simp; done) | (simp; omega), hq5⟩

theorem lturns_any (size v u : Int) (w : World) (hs : RowAt 0 spanCells w) :
    Calls Tryd.prog 7 #[i6 size, i6 v, i6 u] w fun e w' => e = .returned (.bool true) ∧ Below w.heap.size w w' := by
  by_cases hk : BadSize size
  · exact lturns_size size v u w hs hk
  · obtain ⟨n, lo, hi, h⟩ := isSpan_ex (Classical.not_not.1 hk)
    by_cases hv : lo ≤ v ∧ v ≤ hi
    · by_cases hu : lo ≤ u ∧ u ≤ hi
      · by_cases e : v = u
        · subst e; exact lturns_same size v v w hs n lo hi h hv rfl
        · exact lturns_other size v u w hs n lo hi h hv hu e
      · exact lturns_in1 size v u w hs n lo hi h hv hu
    · by_cases hu : lo ≤ u ∧ u ≤ hi
      · exact lturns_out2 size v u w hs n lo hi h hv hu
      · exact lturns_out1 size v u w hs n lo hi h hv hu

theorem dec_low {n lo hi s v : Int} (h : IsSpan s n lo hi) (od : Int) (h0 : 0 ≤ v) (h1 : v < (if n = 1 then 256 else if n = 2 then 65536 else 4294967296)) : dec od lo hi (enc od n v) = if hi < v then v - (hi - lo + 1) else v := by
  have key : valLow (lowFirst n v) = v := by
    rcases h.size with rfl | rfl | rfl <;> simp [lowFirst, valLow, digit] at h1 ⊢ <;> omega
  unfold dec enc
  by_cases ho : od = 1
  · simp only [ho, if_true, List.reverse_reverse, key]
  · simp only [ho, if_false, key]
theorem get_at {od s n lo hi R : Int} {xs : List Int} (w : World) (hs : RowAt 0 spanCells w) (ho : od = 0 ∨ od = 1) (h : IsSpan s n lo hi) (hx : IsBytes xs) (hl : (xs.length : Int) = n) (hR : dec od lo hi xs = R) :
    Calls Tryd.prog 19 #[i6 od, i6 s, .string (strOfNums xs)] w fun e w' => e = .returned (.tuple #[i6 R, i6 0]) ∧ Below w.heap.size w w' := by
  have := get_ok od s n lo hi xs w hs ho h hx
  unfold getRes at this
  rw [if_neg (by omega), if_neg (by omega), hR] at this
  exact this

set_option maxRecDepth 100000 in
set_option maxHeartbeats 1000000 in
theorem lsigns0_neg (x v : Int) (w : World) (hs : RowAt 0 spanCells w) (b1 : 0 ≤ x) (b2 : x < 256) (hk : x % 3 = 0) (hv : v < 0) :
    Calls Tryd.prog 8 #[.int .u8 x, i6 v] w fun e w' => e = .returned (.bool true) ∧ Below w.heap.size w w' := by
  obtain ⟨od, hod⟩ : ∃ od, x / 3 % 2 = od := ⟨_, rfl⟩
  have hod' : od = 0 ∨ od = 1 := by omega
  have f1 : x.tmod 3 = 0 := by rw [Int.tmod_eq_emod_of_nonneg b1]; exact hk
  have f2 : x.tdiv 3 = x / 3 := by rw [Int.tdiv_eq_ediv_of_nonneg b1]
  have f3 : (x / 3).tmod 2 = od := by rw [Int.tmod_eq_emod_of_nonneg (by omega)]; exact hod
  have f4 : IntKind.u8.wrap (x / 3) = x / 3 := by simp only [IntKind.wrap, IntKind.bits, IntKind.signed]; simp; omega
  have f5 : IntKind.u8.wrap od = od := by simp only [IntKind.wrap, IntKind.bits, IntKind.signed]; simp; omega
  have f6 : IntKind.i64.wrap od = od := IntWalk.i64_in _ (by omega)
  have hspan : IsSpan 1 1 0 255 := by simp [IsSpan]
  have hspan' : IsSpan (-1) 1 (-128) 127 := by simp [IsSpan]
  have HS1 := Lib.hid hspan
  have HS2 := Lib.hid hspan'
  clear hspan hspan' hod
  go_enter Tryd.func8, Tryd.ntmps8
  go_wp2_with fail
  have hq0 : Below w.heap.size w ((w.alloc (.cells #[i6 1, i6 2, i6 4] 3)).alloc (.cells #[i6 256, i6 65536, i6 4294967296] 2)) := q_alloc (q_alloc (Below.refl _ _) _) _
  have hs0 : RowAt 0 spanCells ((w.alloc (.cells #[i6 1, i6 2, i6 4] 3)).alloc (.cells #[i6 256, i6 65536, i6 4294967296] 2)) := hs.below hq0
  have c0 : ((w.alloc (.cells #[i6 1, i6 2, i6 4] 3)).alloc (.cells #[i6 256, i6 65536, i6 4294967296] 2)).cell? ⟨w.heap.size, 0, none⟩ = some (i6 1) := cell_old (cell_new rfl)
  have c1 : ((w.alloc (.cells #[i6 1, i6 2, i6 4] 3)).alloc (.cells #[i6 256, i6 65536, i6 4294967296] 2)).cell? ⟨w.heap.size + 1, 0, none⟩ = some (i6 256) := cell_new1 rfl
  generalize ((w.alloc (.cells #[i6 1, i6 2, i6 4] 3)).alloc (.cells #[i6 256, i6 65536, i6 4294967296] 2)) = W2 at hq0 hs0 c0 c1 ⊢
  refine (put_out _ hs0 hod' HS1.out (by omega)).mono ?_
  rintro e w1 ⟨rfl, hb1⟩
  have hq1 := q_step hq0 hb1
  have d0 := cell_below hb1 c0
  have d1 := cell_below hb1 c1
  have hs1 := hs.below hq1
  clear hb1 c0 c1 hs0 hq0
  go_wp2_with fail
  refine (awake_any _ hs1).mono ?_
  rintro e w5 ⟨rfl, hb5⟩
  have hq5 := q_step hq1 hb5
  go_wp2_with fail
  go_returns
  exact ⟨by first | rfl | (simp; done) | (simp; omega), hq5⟩

set_option maxRecDepth 100000 in
set_option maxHeartbeats 1000000 in
theorem lsigns0_big (x v : Int) (w : World) (hs : RowAt 0 spanCells w) (b1 : 0 ≤ x) (b2 : x < 256) (hk : x % 3 = 0) (hv : 256 ≤ v) :
    Calls Tryd.prog 8 #[.int .u8 x, i6 v] w fun e w' => e = .returned (.bool true) ∧ Below w.heap.size w w' := by
  obtain ⟨od, hod⟩ : ∃ od, x / 3 % 2 = od := ⟨_, rfl⟩
  have hod' : od = 0 ∨ od = 1 := by omega
  have f1 : x.tmod 3 = 0 := by rw [Int.tmod_eq_emod_of_nonneg b1]; exact hk
  have f2 : x.tdiv 3 = x / 3 := by rw [Int.tdiv_eq_ediv_of_nonneg b1]
  have f3 : (x / 3).tmod 2 = od := by rw [Int.tmod_eq_emod_of_nonneg (by omega)]; exact hod
  have f4 : IntKind.u8.wrap (x / 3) = x / 3 := by simp only [IntKind.wrap, IntKind.bits, IntKind.signed]; simp; omega
  have f5 : IntKind.u8.wrap od = od := by simp only [IntKind.wrap, IntKind.bits, IntKind.signed]; simp; omega
  have f6 : IntKind.i64.wrap od = od := IntWalk.i64_in _ (by omega)
  have hspan : IsSpan 1 1 0 255 := by simp [IsSpan]
  have hspan' : IsSpan (-1) 1 (-128) 127 := by simp [IsSpan]
  have HS1 := Lib.hid hspan
  have HS2 := Lib.hid hspan'
  clear hspan hspan' hod
  go_enter Tryd.func8, Tryd.ntmps8
  go_wp2_with fail
  have hq0 : Below w.heap.size w ((w.alloc (.cells #[i6 1, i6 2, i6 4] 3)).alloc (.cells #[i6 256, i6 65536, i6 4294967296] 2)) := q_alloc (q_alloc (Below.refl _ _) _) _
  have hs0 : RowAt 0 spanCells ((w.alloc (.cells #[i6 1, i6 2, i6 4] 3)).alloc (.cells #[i6 256, i6 65536, i6 4294967296] 2)) := hs.below hq0
  have c0 : ((w.alloc (.cells #[i6 1, i6 2, i6 4] 3)).alloc (.cells #[i6 256, i6 65536, i6 4294967296] 2)).cell? ⟨w.heap.size, 0, none⟩ = some (i6 1) := cell_old (cell_new rfl)
  have c1 : ((w.alloc (.cells #[i6 1, i6 2, i6 4] 3)).alloc (.cells #[i6 256, i6 65536, i6 4294967296] 2)).cell? ⟨w.heap.size + 1, 0, none⟩ = some (i6 256) := cell_new1 rfl
  generalize ((w.alloc (.cells #[i6 1, i6 2, i6 4] 3)).alloc (.cells #[i6 256, i6 65536, i6 4294967296] 2)) = W2 at hq0 hs0 c0 c1 ⊢
  refine (put_out _ hs0 hod' HS1.out (by omega)).mono ?_
  rintro e w1 ⟨rfl, hb1⟩
  have hq1 := q_step hq0 hb1
  have d0 := cell_below hb1 c0
  have d1 := cell_below hb1 c1
  have hs1 := hs.below hq1
  clear hb1 c0 c1 hs0 hq0
  go_wp2_with fail
  refine (awake_any _ hs1).mono ?_
  rintro e w5 ⟨rfl, hb5⟩
  have hq5 := q_step hq1 hb5
  go_wp2_with fail
  go_returns
  exact ⟨by first | rfl | (simp; done) | (simp; omega), hq5⟩

set_option maxRecDepth 100000 in
set_option maxHeartbeats 1000000 in
theorem lsigns0_low (x v : Int) (w : World) (hs : RowAt 0 spanCells w) (b1 : 0 ≤ x) (b2 : x < 256) (hk : x % 3 = 0) (hv : 0 ≤ v ∧ v < 128) :
    Calls Tryd.prog 8 #[.int .u8 x, i6 v] w fun e w' => e = .returned (.bool true) ∧ Below w.heap.size w w' := by
  obtain ⟨od, hod⟩ : ∃ od, x / 3 % 2 = od := ⟨_, rfl⟩
  have hod' : od = 0 ∨ od = 1 := by omega
  have f1 : x.tmod 3 = 0 := by rw [Int.tmod_eq_emod_of_nonneg b1]; exact hk
  have f2 : x.tdiv 3 = x / 3 := by rw [Int.tdiv_eq_ediv_of_nonneg b1]
  have f3 : (x / 3).tmod 2 = od := by rw [Int.tmod_eq_emod_of_nonneg (by omega)]; exact hod
  have f4 : IntKind.u8.wrap (x / 3) = x / 3 := by simp only [IntKind.wrap, IntKind.bits, IntKind.signed]; simp; omega
  have f5 : IntKind.u8.wrap od = od := by simp only [IntKind.wrap, IntKind.bits, IntKind.signed]; simp; omega
  have f6 : IntKind.i64.wrap od = od := IntWalk.i64_in _ (by omega)
  have hspan : IsSpan 1 1 0 255 := by simp [IsSpan]
  have hspan' : IsSpan (-1) 1 (-128) 127 := by simp [IsSpan]
  have HS1 := Lib.hid hspan
  have HS2 := Lib.hid hspan'
  clear hspan hspan' hod
  have hD := Lib.hid (show dec od (-128) 127 (enc od 1 v) = v by rw [dec_low HS2.out od (by omega) (by simp; omega)]; split <;> omega)
  have hE := enc_length od v HS1.out.size
  go_enter Tryd.func8, Tryd.ntmps8
  go_wp2_with fail
  have hq0 : Below w.heap.size w ((w.alloc (.cells #[i6 1, i6 2, i6 4] 3)).alloc (.cells #[i6 256, i6 65536, i6 4294967296] 2)) := q_alloc (q_alloc (Below.refl _ _) _) _
  have hs0 : RowAt 0 spanCells ((w.alloc (.cells #[i6 1, i6 2, i6 4] 3)).alloc (.cells #[i6 256, i6 65536, i6 4294967296] 2)) := hs.below hq0
  have c0 : ((w.alloc (.cells #[i6 1, i6 2, i6 4] 3)).alloc (.cells #[i6 256, i6 65536, i6 4294967296] 2)).cell? ⟨w.heap.size, 0, none⟩ = some (i6 1) := cell_old (cell_new rfl)
  have c1 : ((w.alloc (.cells #[i6 1, i6 2, i6 4] 3)).alloc (.cells #[i6 256, i6 65536, i6 4294967296] 2)).cell? ⟨w.heap.size + 1, 0, none⟩ = some (i6 256) := cell_new1 rfl
  generalize ((w.alloc (.cells #[i6 1, i6 2, i6 4] 3)).alloc (.cells #[i6 256, i6 65536, i6 4294967296] 2)) = W2 at hq0 hs0 c0 c1 ⊢
  refine (put_in _ hs0 hod' HS1.out (by omega) (by omega)).mono ?_
  rintro e w1 ⟨rfl, hb1⟩
  have hq1 := q_step hq0 hb1
  have d0 := cell_below hb1 c0
  have d1 := cell_below hb1 c1
  have hs1 := hs.below hq1
  clear hb1 c0 c1 hs0 hq0
  go_wp2_with fail
  refine (get_at _ hs1 hod' HS2.out (enc_bytes _ _ _) (by rw [hE]; rfl) hD.out).mono ?_
  rintro e w2 ⟨rfl, hb2⟩
  have hq2 := q_step hq1 hb2
  have e1 := cell_below hb2 d1
  have hs2 := hs.below hq2
  clear hb2 d0 d1 hs1
  go_wp2_with fail
  refine (awake_any _ hs2).mono ?_
  rintro e w5 ⟨rfl, hb5⟩
  have hq5 := q_step hq2 hb5
  go_wp2_with fail
  go_returns
  exact ⟨by first | rfl | (simp; done) | (simp; omega), hq5⟩

set_option maxRecDepth 100000 in
set_option maxHeartbeats 1000000 in
theorem lsigns0_top (x v : Int) (w : World) (hs : RowAt 0 spanCells w) (b1 : 0 ≤ x) (b2 : x < 256) (hk : x % 3 = 0) (hv : 128 ≤ v ∧ v < 256) :
    Calls Tryd.prog 8 #[.int .u8 x, i6 v] w fun e w' => e = .returned (.bool true) ∧ Below w.heap.size w w' := by
  obtain ⟨od, hod⟩ : ∃ od, x / 3 % 2 = od := ⟨_, rfl⟩
  have hod' : od = 0 ∨ od = 1 := by omega
  have f1 : x.tmod 3 = 0 := by rw [Int.tmod_eq_emod_of_nonneg b1]; exact hk
  have f2 : x.tdiv 3 = x / 3 := by rw [Int.tdiv_eq_ediv_of_nonneg b1]
  have f3 : (x / 3).tmod 2 = od := by rw [Int.tmod_eq_emod_of_nonneg (by omega)]; exact hod
  have f4 : IntKind.u8.wrap (x / 3) = x / 3 := by simp only [IntKind.wrap, IntKind.bits, IntKind.signed]; simp; omega
  have f5 : IntKind.u8.wrap od = od := by simp only [IntKind.wrap, IntKind.bits, IntKind.signed]; simp; omega
  have f6 : IntKind.i64.wrap od = od := IntWalk.i64_in _ (by omega)
  have hspan : IsSpan 1 1 0 255 := by simp [IsSpan]
  have hspan' : IsSpan (-1) 1 (-128) 127 := by simp [IsSpan]
  have HS1 := Lib.hid hspan
  have HS2 := Lib.hid hspan'
  clear hspan hspan' hod
  have hD := Lib.hid (show dec od (-128) 127 (enc od 1 v) = v - 256 by rw [dec_low HS2.out od (by omega) (by simp; omega)]; split <;> omega)
  have hE := enc_length od v HS1.out.size
  have hw : IntKind.i64.wrap (v - 256) = v - 256 := IntWalk.i64_in _ (by omega)
  go_enter Tryd.func8, Tryd.ntmps8
  go_wp2_with fail
  have hq0 : Below w.heap.size w ((w.alloc (.cells #[i6 1, i6 2, i6 4] 3)).alloc (.cells #[i6 256, i6 65536, i6 4294967296] 2)) := q_alloc (q_alloc (Below.refl _ _) _) _
  have hs0 : RowAt 0 spanCells ((w.alloc (.cells #[i6 1, i6 2, i6 4] 3)).alloc (.cells #[i6 256, i6 65536, i6 4294967296] 2)) := hs.below hq0
  have c0 : ((w.alloc (.cells #[i6 1, i6 2, i6 4] 3)).alloc (.cells #[i6 256, i6 65536, i6 4294967296] 2)).cell? ⟨w.heap.size, 0, none⟩ = some (i6 1) := cell_old (cell_new rfl)
  have c1 : ((w.alloc (.cells #[i6 1, i6 2, i6 4] 3)).alloc (.cells #[i6 256, i6 65536, i6 4294967296] 2)).cell? ⟨w.heap.size + 1, 0, none⟩ = some (i6 256) := cell_new1 rfl
  generalize ((w.alloc (.cells #[i6 1, i6 2, i6 4] 3)).alloc (.cells #[i6 256, i6 65536, i6 4294967296] 2)) = W2 at hq0 hs0 c0 c1 ⊢
  refine (put_in _ hs0 hod' HS1.out (by omega) (by omega)).mono ?_
  rintro e w1 ⟨rfl, hb1⟩
  have hq1 := q_step hq0 hb1
  have d0 := cell_below hb1 c0
  have d1 := cell_below hb1 c1
  have hs1 := hs.below hq1
  clear hb1 c0 c1 hs0 hq0
  go_wp2_with fail
  refine (get_at _ hs1 hod' HS2.out (enc_bytes _ _ _) (by rw [hE]; rfl) hD.out).mono ?_
  rintro e w2 ⟨rfl, hb2⟩
  have hq2 := q_step hq1 hb2
  have e1 := cell_below hb2 d1
  have hs2 := hs.below hq2
  clear hb2 d0 d1 hs1
  go_wp2_with fail
  refine (awake_any _ hs2).mono ?_
  rintro e w5 ⟨rfl, hb5⟩
  have hq5 := q_step hq2 hb5
  go_wp2_with fail
  go_returns
  exact ⟨by first | rfl | (simp; done) | (simp; omega), hq5⟩

set_option maxRecDepth 100000 in
set_option maxHeartbeats 1000000 in
theorem lsigns1_neg (x v : Int) (w : World) (hs : RowAt 0 spanCells w) (b1 : 0 ≤ x) (b2 : x < 256) (hk : x % 3 = 1) (hv : v < 0) :
    Calls Tryd.prog 8 #[.int .u8 x, i6 v] w fun e w' => e = .returned (.bool true) ∧ Below w.heap.size w w' := by
  obtain ⟨od, hod⟩ : ∃ od, x / 3 % 2 = od := ⟨_, rfl⟩
  have hod' : od = 0 ∨ od = 1 := by omega
  have f1 : x.tmod 3 = 1 := by rw [Int.tmod_eq_emod_of_nonneg b1]; exact hk
  have f2 : x.tdiv 3 = x / 3 := by rw [Int.tdiv_eq_ediv_of_nonneg b1]
  have f3 : (x / 3).tmod 2 = od := by rw [Int.tmod_eq_emod_of_nonneg (by omega)]; exact hod
  have f4 : IntKind.u8.wrap (x / 3) = x / 3 := by simp only [IntKind.wrap, IntKind.bits, IntKind.signed]; simp; omega
  have f5 : IntKind.u8.wrap od = od := by simp only [IntKind.wrap, IntKind.bits, IntKind.signed]; simp; omega
  have f6 : IntKind.i64.wrap od = od := IntWalk.i64_in _ (by omega)
  have hspan : IsSpan 2 2 0 65535 := by simp [IsSpan]
  have hspan' : IsSpan (-2) 2 (-32768) 32767 := by simp [IsSpan]
  have HS1 := Lib.hid hspan
  have HS2 := Lib.hid hspan'
  clear hspan hspan' hod
  go_enter Tryd.func8, Tryd.ntmps8
  go_wp2_with fail
  have hq0 : Below w.heap.size w ((w.alloc (.cells #[i6 1, i6 2, i6 4] 3)).alloc (.cells #[i6 256, i6 65536, i6 4294967296] 2)) := q_alloc (q_alloc (Below.refl _ _) _) _
  have hs0 : RowAt 0 spanCells ((w.alloc (.cells #[i6 1, i6 2, i6 4] 3)).alloc (.cells #[i6 256, i6 65536, i6 4294967296] 2)) := hs.below hq0
  have c0 : ((w.alloc (.cells #[i6 1, i6 2, i6 4] 3)).alloc (.cells #[i6 256, i6 65536, i6 4294967296] 2)).cell? ⟨w.heap.size, 1, none⟩ = some (i6 2) := cell_old (cell_new rfl)
  have c1 : ((w.alloc (.cells #[i6 1, i6 2, i6 4] 3)).alloc (.cells #[i6 256, i6 65536, i6 4294967296] 2)).cell? ⟨w.heap.size + 1, 1, none⟩ = some (i6 65536) := cell_new1 rfl
  generalize ((w.alloc (.cells #[i6 1, i6 2, i6 4] 3)).alloc (.cells #[i6 256, i6 65536, i6 4294967296] 2)) = W2 at hq0 hs0 c0 c1 ⊢
  refine (put_out _ hs0 hod' HS1.out (by omega)).mono ?_
  rintro e w1 ⟨rfl, hb1⟩
  have hq1 := q_step hq0 hb1
  have d0 := cell_below hb1 c0
  have d1 := cell_below hb1 c1
  have hs1 := hs.below hq1
  clear hb1 c0 c1 hs0 hq0
  go_wp2_with fail
  refine (awake_any _ hs1).mono ?_
  rintro e w5 ⟨rfl, hb5⟩
  have hq5 := q_step hq1 hb5
  go_wp2_with fail
  go_returns
  exact ⟨by first | rfl | (simp; done) | (simp; omega), hq5⟩

set_option maxRecDepth 100000 in
set_option maxHeartbeats 1000000 in
theorem lsigns1_big (x v : Int) (w : World) (hs : RowAt 0 spanCells w) (b1 : 0 ≤ x) (b2 : x < 256) (hk : x % 3 = 1) (hv : 65536 ≤ v) :
    Calls Tryd.prog 8 #[.int .u8 x, i6 v] w fun e w' => e = .returned (.bool true) ∧ Below w.heap.size w w' := by
  obtain ⟨od, hod⟩ : ∃ od, x / 3 % 2 = od := ⟨_, rfl⟩
  have hod' : od = 0 ∨ od = 1 := by omega
  have f1 : x.tmod 3 = 1 := by rw [Int.tmod_eq_emod_of_nonneg b1]; exact hk
  have f2 : x.tdiv 3 = x / 3 := by rw [Int.tdiv_eq_ediv_of_nonneg b1]
  have f3 : (x / 3).tmod 2 = od := by rw [Int.tmod_eq_emod_of_nonneg (by omega)]; exact hod
  have f4 : IntKind.u8.wrap (x / 3) = x / 3 := by simp only [IntKind.wrap, IntKind.bits, IntKind.signed]; simp; omega
  have f5 : IntKind.u8.wrap od = od := by simp only [IntKind.wrap, IntKind.bits, IntKind.signed]; simp; omega
  have f6 : IntKind.i64.wrap od = od := IntWalk.i64_in _ (by omega)
  have hspan : IsSpan 2 2 0 65535 := by simp [IsSpan]
  have hspan' : IsSpan (-2) 2 (-32768) 32767 := by simp [IsSpan]
  have HS1 := Lib.hid hspan
  have HS2 := Lib.hid hspan'
  clear hspan hspan' hod
  go_enter Tryd.func8, Tryd.ntmps8
  go_wp2_with fail
  have hq0 : Below w.heap.size w ((w.alloc (.cells #[i6 1, i6 2, i6 4] 3)).alloc (.cells #[i6 256, i6 65536, i6 4294967296] 2)) := q_alloc (q_alloc (Below.refl _ _) _) _
  have hs0 : RowAt 0 spanCells ((w.alloc (.cells #[i6 1, i6 2, i6 4] 3)).alloc (.cells #[i6 256, i6 65536, i6 4294967296] 2)) := hs.below hq0
  have c0 : ((w.alloc (.cells #[i6 1, i6 2, i6 4] 3)).alloc (.cells #[i6 256, i6 65536, i6 4294967296] 2)).cell? ⟨w.heap.size, 1, none⟩ = some (i6 2) := cell_old (cell_new rfl)
  have c1 : ((w.alloc (.cells #[i6 1, i6 2, i6 4] 3)).alloc (.cells #[i6 256, i6 65536, i6 4294967296] 2)).cell? ⟨w.heap.size + 1, 1, none⟩ = some (i6 65536) := cell_new1 rfl
  generalize ((w.alloc (.cells #[i6 1, i6 2, i6 4] 3)).alloc (.cells #[i6 256, i6 65536, i6 4294967296] 2)) = W2 at hq0 hs0 c0 c1 ⊢
  refine (put_out _ hs0 hod' HS1.out (by omega)).mono ?_
  rintro e w1 ⟨rfl, hb1⟩
  have hq1 := q_step hq0 hb1
  have d0 := cell_below hb1 c0
  have d1 := cell_below hb1 c1
  have hs1 := hs.below hq1
  clear hb1 c0 c1 hs0 hq0
  go_wp2_with fail
  refine (awake_any _ hs1).mono ?_
  rintro e w5 ⟨rfl, hb5⟩
  have hq5 := q_step hq1 hb5
  go_wp2_with fail
  go_returns
  exact ⟨by first | rfl | (simp; done) | (simp; omega), hq5⟩

set_option maxRecDepth 100000 in
set_option maxHeartbeats 1000000 in
theorem lsigns1_low (x v : Int) (w : World) (hs : RowAt 0 spanCells w) (b1 : 0 ≤ x) (b2 : x < 256) (hk : x % 3 = 1) (hv : 0 ≤ v ∧ v < 32768) :
    Calls Tryd.prog 8 #[.int .u8 x, i6 v] w fun e w' => e = .returned (.bool true) ∧ Below w.heap.size w w' := by
  obtain ⟨od, hod⟩ : ∃ od, x / 3 % 2 = od := ⟨_, rfl⟩
  have hod' : od = 0 ∨ od = 1 := by omega
  have f1 : x.tmod 3 = 1 := by rw [Int.tmod_eq_emod_of_nonneg b1]; exact hk
  have f2 : x.tdiv 3 = x / 3 := by rw [Int.tdiv_eq_ediv_of_nonneg b1]
  have f3 : (x / 3).tmod 2 = od := by rw [Int.tmod_eq_emod_of_nonneg (by omega)]; exact hod
  have f4 : IntKind.u8.wrap (x / 3) = x / 3 := by simp only [IntKind.wrap, IntKind.bits, IntKind.signed]; simp; omega
  have f5 : IntKind.u8.wrap od = od := by simp only [IntKind.wrap, IntKind.bits, IntKind.signed]; simp; omega
  have f6 : IntKind.i64.wrap od = od := IntWalk.i64_in _ (by omega)
  have hspan : IsSpan 2 2 0 65535 := by simp [IsSpan]
  have hspan' : IsSpan (-2) 2 (-32768) 32767 := by simp [IsSpan]
  have HS1 := Lib.hid hspan
  have HS2 := Lib.hid hspan'
  clear hspan hspan' hod
  have hD := Lib.hid (show dec od (-32768) 32767 (enc od 2 v) = v by rw [dec_low HS2.out od (by omega) (by simp; omega)]; split <;> omega)
  have hE := enc_length od v HS1.out.size
  go_enter Tryd.func8, Tryd.ntmps8
  go_wp2_with fail
  have hq0 : Below w.heap.size w ((w.alloc (.cells #[i6 1, i6 2, i6 4] 3)).alloc (.cells #[i6 256, i6 65536, i6 4294967296] 2)) := q_alloc (q_alloc (Below.refl _ _) _) _
  have hs0 : RowAt 0 spanCells ((w.alloc (.cells #[i6 1, i6 2, i6 4] 3)).alloc (.cells #[i6 256, i6 65536, i6 4294967296] 2)) := hs.below hq0
  have c0 : ((w.alloc (.cells #[i6 1, i6 2, i6 4] 3)).alloc (.cells #[i6 256, i6 65536, i6 4294967296] 2)).cell? ⟨w.heap.size, 1, none⟩ = some (i6 2) := cell_old (cell_new rfl)
  have c1 : ((w.alloc (.cells #[i6 1, i6 2, i6 4] 3)).alloc (.cells #[i6 256, i6 65536, i6 4294967296] 2)).cell? ⟨w.heap.size + 1, 1, none⟩ = some (i6 65536) := cell_new1 rfl
  generalize ((w.alloc (.cells #[i6 1, i6 2, i6 4] 3)).alloc (.cells #[i6 256, i6 65536, i6 4294967296] 2)) = W2 at hq0 hs0 c0 c1 ⊢
  refine (put_in _ hs0 hod' HS1.out (by omega) (by omega)).mono ?_
  rintro e w1 ⟨rfl, hb1⟩
  have hq1 := q_step hq0 hb1
  have d0 := cell_below hb1 c0
  have d1 := cell_below hb1 c1
  have hs1 := hs.below hq1
  clear hb1 c0 c1 hs0 hq0
  go_wp2_with fail
  refine (get_at _ hs1 hod' HS2.out (enc_bytes _ _ _) (by rw [hE]; rfl) hD.out).mono ?_
  rintro e w2 ⟨rfl, hb2⟩
  have hq2 := q_step hq1 hb2
  have e1 := cell_below hb2 d1
  have hs2 := hs.below hq2
  clear hb2 d0 d1 hs1
  go_wp2_with fail
  refine (awake_any _ hs2).mono ?_
  rintro e w5 ⟨rfl, hb5⟩
  have hq5 := q_step hq2 hb5
  go_wp2_with fail
  go_returns
  exact ⟨by first | rfl | (simp; done) | (simp; omega), hq5⟩

set_option maxRecDepth 100000 in
set_option maxHeartbeats 1000000 in
theorem lsigns1_top (x v : Int) (w : World) (hs : RowAt 0 spanCells w) (b1 : 0 ≤ x) (b2 : x < 256) (hk : x % 3 = 1) (hv : 32768 ≤ v ∧ v < 65536) :
    Calls Tryd.prog 8 #[.int .u8 x, i6 v] w fun e w' => e = .returned (.bool true) ∧ Below w.heap.size w w' := by
  obtain ⟨od, hod⟩ : ∃ od, x / 3 % 2 = od := ⟨_, rfl⟩
  have hod' : od = 0 ∨ od = 1 := by omega
  have f1 : x.tmod 3 = 1 := by rw [Int.tmod_eq_emod_of_nonneg b1]; exact hk
  have f2 : x.tdiv 3 = x / 3 := by rw [Int.tdiv_eq_ediv_of_nonneg b1]
  have f3 : (x / 3).tmod 2 = od := by rw [Int.tmod_eq_emod_of_nonneg (by omega)]; exact hod
  have f4 : IntKind.u8.wrap (x / 3) = x / 3 := by simp only [IntKind.wrap, IntKind.bits, IntKind.signed]; simp; omega
  have f5 : IntKind.u8.wrap od = od := by simp only [IntKind.wrap, IntKind.bits, IntKind.signed]; simp; omega
  have f6 : IntKind.i64.wrap od = od := IntWalk.i64_in _ (by omega)
  have hspan : IsSpan 2 2 0 65535 := by simp [IsSpan]
  have hspan' : IsSpan (-2) 2 (-32768) 32767 := by simp [IsSpan]
  have HS1 := Lib.hid hspan
  have HS2 := Lib.hid hspan'
  clear hspan hspan' hod
  have hD := Lib.hid (show dec od (-32768) 32767 (enc od 2 v) = v - 65536 by rw [dec_low HS2.out od (by omega) (by simp; omega)]; split <;> omega)
  have hE := enc_length od v HS1.out.size
  have hw : IntKind.i64.wrap (v - 65536) = v - 65536 := IntWalk.i64_in _ (by omega)
  go_enter Tryd.func8, Tryd.ntmps8
  go_wp2_with fail
  have hq0 : Below w.heap.size w ((w.alloc (.cells #[i6 1, i6 2, i6 4] 3)).alloc (.cells #[i6 256, i6 65536, i6 4294967296] 2)) := q_alloc (q_alloc (Below.refl _ _) _) _
  have hs0 : RowAt 0 spanCells ((w.alloc (.cells #[i6 1, i6 2, i6 4] 3)).alloc (.cells #[i6 256, i6 65536, i6 4294967296] 2)) := hs.below hq0
  have c0 : ((w.alloc (.cells #[i6 1, i6 2, i6 4] 3)).alloc (.cells #[i6 256, i6 65536, i6 4294967296] 2)).cell? ⟨w.heap.size, 1, none⟩ = some (i6 2) := cell_old (cell_new rfl)
  have c1 : ((w.alloc (.cells #[i6 1, i6 2, i6 4] 3)).alloc (.cells #[i6 256, i6 65536, i6 4294967296] 2)).cell? ⟨w.heap.size + 1, 1, none⟩ = some (i6 65536) := cell_new1 rfl
  generalize ((w.alloc (.cells #[i6 1, i6 2, i6 4] 3)).alloc (.cells #[i6 256, i6 65536, i6 4294967296] 2)) = W2 at hq0 hs0 c0 c1 ⊢
  refine (put_in _ hs0 hod' HS1.out (by omega) (by omega)).mono ?_
  rintro e w1 ⟨rfl, hb1⟩
  have hq1 := q_step hq0 hb1
  have d0 := cell_below hb1 c0
  have d1 := cell_below hb1 c1
  have hs1 := hs.below hq1
  clear hb1 c0 c1 hs0 hq0
  go_wp2_with fail
  refine (get_at _ hs1 hod' HS2.out (enc_bytes _ _ _) (by rw [hE]; rfl) hD.out).mono ?_
  rintro e w2 ⟨rfl, hb2⟩
  have hq2 := q_step hq1 hb2
  have e1 := cell_below hb2 d1
  have hs2 := hs.below hq2
  clear hb2 d0 d1 hs1
  go_wp2_with fail
  refine (awake_any _ hs2).mono ?_
  rintro e w5 ⟨rfl, hb5⟩
  have hq5 := q_step hq2 hb5
  go_wp2_with fail
  go_returns
  exact ⟨by first | rfl | (simp; done) | (simp; omega), hq5⟩

set_option maxRecDepth 100000 in
set_option maxHeartbeats 1000000 in
theorem lsigns2_neg (x v : Int) (w : World) (hs : RowAt 0 spanCells w) (b1 : 0 ≤ x) (b2 : x < 256) (hk : x % 3 = 2) (hv : v < 0) :
    Calls Tryd.prog 8 #[.int .u8 x, i6 v] w fun e w' => e = .returned (.bool true) ∧ Below w.heap.size w w' := by
  obtain ⟨od, hod⟩ : ∃ od, x / 3 % 2 = od := ⟨_, rfl⟩
  have hod' : od = 0 ∨ od = 1 := by omega
  have f1 : x.tmod 3 = 2 := by rw [Int.tmod_eq_emod_of_nonneg b1]; exact hk
  have f2 : x.tdiv 3 = x / 3 := by rw [Int.tdiv_eq_ediv_of_nonneg b1]
  have f3 : (x / 3).tmod 2 = od := by rw [Int.tmod_eq_emod_of_nonneg (by omega)]; exact hod
  have f4 : IntKind.u8.wrap (x / 3) = x / 3 := by simp only [IntKind.wrap, IntKind.bits, IntKind.signed]; simp; omega
  have f5 : IntKind.u8.wrap od = od := by simp only [IntKind.wrap, IntKind.bits, IntKind.signed]; simp; omega
  have f6 : IntKind.i64.wrap od = od := IntWalk.i64_in _ (by omega)
  have hspan : IsSpan 4 4 0 4294967295 := by simp [IsSpan]
  have hspan' : IsSpan (-4) 4 (-2147483648) 2147483647 := by simp [IsSpan]
  have HS1 := Lib.hid hspan
  have HS2 := Lib.hid hspan'
  clear hspan hspan' hod
  go_enter Tryd.func8, Tryd.ntmps8
  go_wp2_with fail
  have hq0 : Below w.heap.size w ((w.alloc (.cells #[i6 1, i6 2, i6 4] 3)).alloc (.cells #[i6 256, i6 65536, i6 4294967296] 2)) := q_alloc (q_alloc (Below.refl _ _) _) _
  have hs0 : RowAt 0 spanCells ((w.alloc (.cells #[i6 1, i6 2, i6 4] 3)).alloc (.cells #[i6 256, i6 65536, i6 4294967296] 2)) := hs.below hq0
  have c0 : ((w.alloc (.cells #[i6 1, i6 2, i6 4] 3)).alloc (.cells #[i6 256, i6 65536, i6 4294967296] 2)).cell? ⟨w.heap.size, 2, none⟩ = some (i6 4) := cell_old (cell_new rfl)
  have c1 : ((w.alloc (.cells #[i6 1, i6 2, i6 4] 3)).alloc (.cells #[i6 256, i6 65536, i6 4294967296] 2)).cell? ⟨w.heap.size + 1, 2, none⟩ = some (i6 4294967296) := cell_new1 rfl
  generalize ((w.alloc (.cells #[i6 1, i6 2, i6 4] 3)).alloc (.cells #[i6 256, i6 65536, i6 4294967296] 2)) = W2 at hq0 hs0 c0 c1 ⊢
  refine (put_out _ hs0 hod' HS1.out (by omega)).mono ?_
  rintro e w1 ⟨rfl, hb1⟩
  have hq1 := q_step hq0 hb1
  have d0 := cell_below hb1 c0
  have d1 := cell_below hb1 c1
  have hs1 := hs.below hq1
  clear hb1 c0 c1 hs0 hq0
  go_wp2_with fail
  refine (awake_any _ hs1).mono ?_
  rintro e w5 ⟨rfl, hb5⟩
  have hq5 := q_step hq1 hb5
  go_wp2_with fail
  go_returns
  exact ⟨by first | rfl | (simp; done) | (simp; omega), hq5⟩

set_option maxRecDepth 100000 in
set_option maxHeartbeats 1000000 in
theorem lsigns2_big (x v : Int) (w : World) (hs : RowAt 0 spanCells w) (b1 : 0 ≤ x) (b2 : x < 256) (hk : x % 3 = 2) (hv : 4294967296 ≤ v) :
    Calls Tryd.prog 8 #[.int .u8 x, i6 v] w fun e w' => e = .returned (.bool true) ∧ Below w.heap.size w w' := by
  obtain ⟨od, hod⟩ : ∃ od, x / 3 % 2 = od := ⟨_, rfl⟩
  have hod' : od = 0 ∨ od = 1 := by omega
  have f1 : x.tmod 3 = 2 := by rw [Int.tmod_eq_emod_of_nonneg b1]; exact hk
  have f2 : x.tdiv 3 = x / 3 := by rw [Int.tdiv_eq_ediv_of_nonneg b1]
  have f3 : (x / 3).tmod 2 = od := by rw [Int.tmod_eq_emod_of_nonneg (by omega)]; exact hod
  have f4 : IntKind.u8.wrap (x / 3) = x / 3 := by simp only [IntKind.wrap, IntKind.bits, IntKind.signed]; simp; omega
  have f5 : IntKind.u8.wrap od = od := by simp only [IntKind.wrap, IntKind.bits, IntKind.signed]; simp; omega
  have f6 : IntKind.i64.wrap od = od := IntWalk.i64_in _ (by omega)
  have hspan : IsSpan 4 4 0 4294967295 := by simp [IsSpan]
  have hspan' : IsSpan (-4) 4 (-2147483648) 2147483647 := by simp [IsSpan]
  have HS1 := Lib.hid hspan
  have HS2 := Lib.hid hspan'
  clear hspan hspan' hod
  go_enter Tryd.func8, Tryd.ntmps8
  go_wp2_with fail
  have hq0 : Below w.heap.size w ((w.alloc (.cells #[i6 1, i6 2, i6 4] 3)).alloc (.cells #[i6 256, i6 65536, i6 4294967296] 2)) := q_alloc (q_alloc (Below.refl _ _) _) _
  have hs0 : RowAt 0 spanCells ((w.alloc (.cells #[i6 1, i6 2, i6 4] 3)).alloc (.cells #[i6 256, i6 65536, i6 4294967296] 2)) := hs.below hq0
  have c0 : ((w.alloc (.cells #[i6 1, i6 2, i6 4] 3)).alloc (.cells #[i6 256, i6 65536, i6 4294967296] 2)).cell? ⟨w.heap.size, 2, none⟩ = some (i6 4) := cell_old (cell_new rfl)
  have c1 : ((w.alloc (.cells #[i6 1, i6 2, i6 4] 3)).alloc (.cells #[i6 256, i6 65536, i6 4294967296] 2)).cell? ⟨w.heap.size + 1, 2, none⟩ = some (i6 4294967296) := cell_new1 rfl
  generalize ((w.alloc (.cells #[i6 1, i6 2, i6 4] 3)).alloc (.cells #[i6 256, i6 65536, i6 4294967296] 2)) = W2 at hq0 hs0 c0 c1 ⊢
  refine (put_out _ hs0 hod' HS1.out (by omega)).mono ?_
  rintro e w1 ⟨rfl, hb1⟩
  have hq1 := q_step hq0 hb1
  have d0 := cell_below hb1 c0
  have d1 := cell_below hb1 c1
  have hs1 := hs.below hq1
  clear hb1 c0 c1 hs0 hq0
  go_wp2_with fail
  refine (awake_any _ hs1).mono ?_
  rintro e w5 ⟨rfl, hb5⟩
  have hq5 := q_step hq1 hb5
  go_wp2_with fail
  go_returns
  exact ⟨by first | rfl | (simp; done) | (simp; omega), hq5⟩

set_option maxRecDepth 100000 in
set_option maxHeartbeats 1000000 in
theorem lsigns2_low (x v : Int) (w : World) (hs : RowAt 0 spanCells w) (b1 : 0 ≤ x) (b2 : x < 256) (hk : x % 3 = 2) (hv : 0 ≤ v ∧ v < 2147483648) :
    Calls Tryd.prog 8 #[.int .u8 x, i6 v] w fun e w' => e = .returned (.bool true) ∧ Below w.heap.size w w' := by
  obtain ⟨od, hod⟩ : ∃ od, x / 3 % 2 = od := ⟨_, rfl⟩
  have hod' : od = 0 ∨ od = 1 := by omega
  have f1 : x.tmod 3 = 2 := by rw [Int.tmod_eq_emod_of_nonneg b1]; exact hk
  have f2 : x.tdiv 3 = x / 3 := by rw [Int.tdiv_eq_ediv_of_nonneg b1]
  have f3 : (x / 3).tmod 2 = od := by rw [Int.tmod_eq_emod_of_nonneg (by omega)]; exact hod
  have f4 : IntKind.u8.wrap (x / 3) = x / 3 := by simp only [IntKind.wrap, IntKind.bits, IntKind.signed]; simp; omega
  have f5 : IntKind.u8.wrap od = od := by simp only [IntKind.wrap, IntKind.bits, IntKind.signed]; simp; omega
  have f6 : IntKind.i64.wrap od = od := IntWalk.i64_in _ (by omega)
  have hspan : IsSpan 4 4 0 4294967295 := by simp [IsSpan]
  have hspan' : IsSpan (-4) 4 (-2147483648) 2147483647 := by simp [IsSpan]
  have HS1 := Lib.hid hspan
  have HS2 := Lib.hid hspan'
  clear hspan hspan' hod
  have hD := Lib.hid (show dec od (-2147483648) 2147483647 (enc od 4 v) = v by rw [dec_low HS2.out od (by omega) (by simp; omega)]; split <;> omega)
  have hE := enc_length od v HS1.out.size
  go_enter Tryd.func8, Tryd.ntmps8
  go_wp2_with fail
  have hq0 : Below w.heap.size w ((w.alloc (.cells #[i6 1, i6 2, i6 4] 3)).alloc (.cells #[i6 256, i6 65536, i6 4294967296] 2)) := q_alloc (q_alloc (Below.refl _ _) _) _
  have hs0 : RowAt 0 spanCells ((w.alloc (.cells #[i6 1, i6 2, i6 4] 3)).alloc (.cells #[i6 256, i6 65536, i6 4294967296] 2)) := hs.below hq0
  have c0 : ((w.alloc (.cells #[i6 1, i6 2, i6 4] 3)).alloc (.cells #[i6 256, i6 65536, i6 4294967296] 2)).cell? ⟨w.heap.size, 2, none⟩ = some (i6 4) := cell_old (cell_new rfl)
  have c1 : ((w.alloc (.cells #[i6 1, i6 2, i6 4] 3)).alloc (.cells #[i6 256, i6 65536, i6 4294967296] 2)).cell? ⟨w.heap.size + 1, 2, none⟩ = some (i6 4294967296) := cell_new1 rfl
  generalize ((w.alloc (.cells #[i6 1, i6 2, i6 4] 3)).alloc (.cells #[i6 256, i6 65536, i6 4294967296] 2)) = W2 at hq0 hs0 c0 c1 ⊢
  refine (put_in _ hs0 hod' HS1.out (by omega) (by omega)).mono ?_
  rintro e w1 ⟨rfl, hb1⟩
  have hq1 := q_step hq0 hb1
  have d0 := cell_below hb1 c0
  have d1 := cell_below hb1 c1
  have hs1 := hs.below hq1
  clear hb1 c0 c1 hs0 hq0
  go_wp2_with fail
  refine (get_at _ hs1 hod' HS2.out (enc_bytes _ _ _) (by rw [hE]; rfl) hD.out).mono ?_
  rintro e w2 ⟨rfl, hb2⟩
  have hq2 := q_step hq1 hb2
  have e1 := cell_below hb2 d1
  have hs2 := hs.below hq2
  clear hb2 d0 d1 hs1
  go_wp2_with fail
  refine (awake_any _ hs2).mono ?_
  rintro e w5 ⟨rfl, hb5⟩
  have hq5 := q_step hq2 hb5
  go_wp2_with fail
  go_returns
  exact ⟨by first | rfl | (simp; done) | (simp; omega), hq5⟩

set_option maxRecDepth 100000 in
set_option maxHeartbeats 1000000 in
theorem lsigns2_top (x v : Int) (w : World) (hs : RowAt 0 spanCells w) (b1 : 0 ≤ x) (b2 : x < 256) (hk : x % 3 = 2) (hv : 2147483648 ≤ v ∧ v < 4294967296) :
    Calls Tryd.prog 8 #[.int .u8 x, i6 v] w fun e w' => e = .returned (.bool true) ∧ Below w.heap.size w w' := by
  obtain ⟨od, hod⟩ : ∃ od, x / 3 % 2 = od := ⟨_, rfl⟩
  have hod' : od = 0 ∨ od = 1 := by omega
  have f1 : x.tmod 3 = 2 := by rw [Int.tmod_eq_emod_of_nonneg b1]; exact hk
  have f2 : x.tdiv 3 = x / 3 := by rw [Int.tdiv_eq_ediv_of_nonneg b1]
  have f3 : (x / 3).tmod 2 = od := by rw [Int.tmod_eq_emod_of_nonneg (by omega)]; exact hod
  have f4 : IntKind.u8.wrap (x / 3) = x / 3 := by simp only [IntKind.wrap, IntKind.bits, IntKind.signed]; simp; omega
  have f5 : IntKind.u8.wrap od = od := by simp only [IntKind.wrap, IntKind.bits, IntKind.signed]; simp; omega
  have f6 : IntKind.i64.wrap od = od := IntWalk.i64_in _ (by omega)
  have hspan : IsSpan 4 4 0 4294967295 := by simp [IsSpan]
  have hspan' : IsSpan (-4) 4 (-2147483648) 2147483647 := by simp [IsSpan]
  have HS1 := Lib.hid hspan
  have HS2 := Lib.hid hspan'
  clear hspan hspan' hod
  have hD := Lib.hid (show dec od (-2147483648) 2147483647 (enc od 4 v) = v - 4294967296 by rw [dec_low HS2.out od (by omega) (by simp; omega)]; split <;> omega)
  have hE := enc_length od v HS1.out.size
  have hw : IntKind.i64.wrap (v - 4294967296) = v - 4294967296 := IntWalk.i64_in _ (by omega)
  go_enter Tryd.func8, Tryd.ntmps8
  go_wp2_with fail
  have hq0 : Below w.heap.size w ((w.alloc (.cells #[i6 1, i6 2, i6 4] 3)).alloc (.cells #[i6 256, i6 65536, i6 4294967296] 2)) := q_alloc (q_alloc (Below.refl _ _) _) _
  have hs0 : RowAt 0 spanCells ((w.alloc (.cells #[i6 1, i6 2, i6 4] 3)).alloc (.cells #[i6 256, i6 65536, i6 4294967296] 2)) := hs.below hq0
  have c0 : ((w.alloc (.cells #[i6 1, i6 2, i6 4] 3)).alloc (.cells #[i6 256, i6 65536, i6 4294967296] 2)).cell? ⟨w.heap.size, 2, none⟩ = some (i6 4) := cell_old (cell_new rfl)
  have c1 : ((w.alloc (.cells #[i6 1, i6 2, i6 4] 3)).alloc (.cells #[i6 256, i6 65536, i6 4294967296] 2)).cell? ⟨w.heap.size + 1, 2, none⟩ = some (i6 4294967296) := cell_new1 rfl
  generalize ((w.alloc (.cells #[i6 1, i6 2, i6 4] 3)).alloc (.cells #[i6 256, i6 65536, i6 4294967296] 2)) = W2 at hq0 hs0 c0 c1 ⊢
  refine (put_in _ hs0 hod' HS1.out (by omega) (by omega)).mono ?_
  rintro e w1 ⟨rfl, hb1⟩
  have hq1 := q_step hq0 hb1
  have d0 := cell_below hb1 c0
  have d1 := cell_below hb1 c1
  have hs1 := hs.below hq1
  clear hb1 c0 c1 hs0 hq0
  go_wp2_with fail
  refine (get_at _ hs1 hod' HS2.out (enc_bytes _ _ _) (by rw [hE]; rfl) hD.out).mono ?_
  rintro e w2 ⟨rfl, hb2⟩
  have hq2 := q_step hq1 hb2
  have e1 := cell_below hb2 d1
  have hs2 := hs.below hq2
  clear hb2 d0 d1 hs1
  go_wp2_with fail
  refine (awake_any _ hs2).mono ?_
  rintro e w5 ⟨rfl, hb5⟩
  have hq5 := q_step hq2 hb5
  go_wp2_with fail
  go_returns
  exact ⟨by first | rfl | (simp; done) | (simp; omega), hq5⟩

theorem lsigns_any (x v : Int) (w : World) (hs : RowAt 0 spanCells w) (b1 : 0 ≤ x) (b2 : x < 256) :
    Calls Tryd.prog 8 #[.int .u8 x, i6 v] w fun e w' => e = .returned (.bool true) ∧ Below w.heap.size w w' := by
  have hk : x % 3 = 0 ∨ x % 3 = 1 ∨ x % 3 = 2 := by omega
  by_cases hv : v < 0
  · rcases hk with hk | hk | hk
    · exact lsigns0_neg x v w hs b1 b2 hk hv
    · exact lsigns1_neg x v w hs b1 b2 hk hv
    · exact lsigns2_neg x v w hs b1 b2 hk hv
  · rcases hk with hk | hk | hk
    · by_cases h1 : 256 ≤ v
      · exact lsigns0_big x v w hs b1 b2 hk h1
      · by_cases h2 : 128 ≤ v
        · exact lsigns0_top x v w hs b1 b2 hk (by omega)
        · exact lsigns0_low x v w hs b1 b2 hk (by omega)
    · by_cases h1 : 65536 ≤ v
      · exact lsigns1_big x v w hs b1 b2 hk h1
      · by_cases h2 : 32768 ≤ v
        · exact lsigns1_top x v w hs b1 b2 hk (by omega)
        · exact lsigns1_low x v w hs b1 b2 hk (by omega)
    · by_cases h1 : 4294967296 ≤ v
      · exact lsigns2_big x v w hs b1 b2 hk h1
      · by_cases h2 : 2147483648 ≤ v
        · exact lsigns2_top x v w hs b1 b2 hk (by omega)
        · exact lsigns2_low x v w hs b1 b2 hk (by omega)
end Go.Proofs.YtbbblopackffiaaDoor
