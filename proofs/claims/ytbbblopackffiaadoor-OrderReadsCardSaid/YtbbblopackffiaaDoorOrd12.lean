/- Layer 1: the walks of OrderPuts and OrderGets. -/
import Derived.Test.YtbbblopackffiaaDoorOrd8
import Derived.Test.YtbbblopackffiaaDoorOrdR3
namespace Go.Proofs.YtbbblopackffiaaDoor
open Go Go.RowKit
set_option linter.unusedSimpArgs false
set_option linter.unusedVariables false

abbrev whichV (od s : Int) : Value := .agg #[i6 od, i6 s]

set_option maxRecDepth 100000 in
set_option maxHeartbeats 1000000 in
theorem lputs_kind (od s : Int) (v : Int) (w : World) (hs : RowAt 0 spanCells w) (hk : BadOrder od) :
    Calls Tryd.prog 3 #[whichV od s, i6 v] w fun e w' => e = .returned (.bool true) ∧ Below w.heap.size w w' := by
  go_enter Tryd.func3, Tryd.ntmps3
  have hq0 : Below w.heap.size w (w.alloc (.cells #[i6 od, i6 s] 23)) := q_alloc (Below.refl _ _) _
  have c0 : (w.alloc (.cells #[i6 od, i6 s] 23)).cell? ⟨w.heap.size, 0, none⟩ = some (i6 od) := cell_new rfl
  have c1 : (w.alloc (.cells #[i6 od, i6 s] 23)).cell? ⟨w.heap.size, 1, none⟩ = some (i6 s) := cell_new rfl
  have hs0 := hs.below hq0
  go_wp2_with fail
  generalize w.alloc (.cells #[i6 od, i6 s] 23) = W0 at hq0 c0 c1 hs0 ⊢
  refine (put_kind od s v _ hk).mono ?_
  rintro e W1 ⟨rfl, hb⟩
  have hq1 := q_step hq0 hb
  have hs1 := hs.below hq1
  replace c0 := cell_below hb c0
  replace c1 := cell_below hb c1
  clear hb hs0 hq0
  go_wp2_with fail
  refine (rput_kind od s v _ hk).mono ?_
  rintro e W2 ⟨rfl, hb⟩
  have hq2 := q_step hq1 hb
  have hs2 := hs.below hq2
  replace c0 := cell_below hb c0
  replace c1 := cell_below hb c1
  clear hb hs1 hq1
  go_wp2_with fail
  refine (awake_any _ hs2).mono ?_
  rintro e W3 ⟨rfl, hb⟩
  have hq3 := q_step hq2 hb
  have hs3 := hs.below hq3
  replace c0 := cell_below hb c0
  replace c1 := cell_below hb c1
  clear hb hs2 hq2
  go_wp2_with fail
  go_returns
  exact ⟨by first | rfl | (simp; done) | (simp; omega), hq3⟩

set_option maxRecDepth 100000 in
set_option maxHeartbeats 1000000 in
theorem lputs_size (od s : Int) (v : Int) (w : World) (hs : RowAt 0 spanCells w) (ho : od = 0 ∨ od = 1) (hk : BadSize s) :
    Calls Tryd.prog 3 #[whichV od s, i6 v] w fun e w' => e = .returned (.bool true) ∧ Below w.heap.size w w' := by
  go_enter Tryd.func3, Tryd.ntmps3
  have hq0 : Below w.heap.size w (w.alloc (.cells #[i6 od, i6 s] 23)) := q_alloc (Below.refl _ _) _
  have c0 : (w.alloc (.cells #[i6 od, i6 s] 23)).cell? ⟨w.heap.size, 0, none⟩ = some (i6 od) := cell_new rfl
  have c1 : (w.alloc (.cells #[i6 od, i6 s] 23)).cell? ⟨w.heap.size, 1, none⟩ = some (i6 s) := cell_new rfl
  have hs0 := hs.below hq0
  go_wp2_with fail
  generalize w.alloc (.cells #[i6 od, i6 s] 23) = W0 at hq0 c0 c1 hs0 ⊢
  refine (put_size od s v _ hs0 ho hk).mono ?_
  rintro e W1 ⟨rfl, hb⟩
  have hq1 := q_step hq0 hb
  have hs1 := hs.below hq1
  replace c0 := cell_below hb c0
  replace c1 := cell_below hb c1
  clear hb hs0 hq0
  go_wp2_with fail
  refine (rput_size od s v _ ho hk).mono ?_
  rintro e W2 ⟨rfl, hb⟩
  have hq2 := q_step hq1 hb
  have hs2 := hs.below hq2
  replace c0 := cell_below hb c0
  replace c1 := cell_below hb c1
  clear hb hs1 hq1
  go_wp2_with fail
  refine (awake_any _ hs2).mono ?_
  rintro e W3 ⟨rfl, hb⟩
  have hq3 := q_step hq2 hb
  have hs3 := hs.below hq3
  replace c0 := cell_below hb c0
  replace c1 := cell_below hb c1
  clear hb hs2 hq2
  go_wp2_with fail
  go_returns
  exact ⟨by first | rfl | (simp; done) | (simp; omega), hq3⟩

set_option maxRecDepth 100000 in
set_option maxHeartbeats 1000000 in
theorem lputs_less (od s : Int) (v : Int) (w : World) (hs : RowAt 0 spanCells w) (ho : od = 0 ∨ od = 1) (n lo hi : Int) (h : IsSpan s n lo hi) (hv : v < lo) :
    Calls Tryd.prog 3 #[whichV od s, i6 v] w fun e w' => e = .returned (.bool true) ∧ Below w.heap.size w w' := by
  go_enter Tryd.func3, Tryd.ntmps3
  have hq0 : Below w.heap.size w (w.alloc (.cells #[i6 od, i6 s] 23)) := q_alloc (Below.refl _ _) _
  have c0 : (w.alloc (.cells #[i6 od, i6 s] 23)).cell? ⟨w.heap.size, 0, none⟩ = some (i6 od) := cell_new rfl
  have c1 : (w.alloc (.cells #[i6 od, i6 s] 23)).cell? ⟨w.heap.size, 1, none⟩ = some (i6 s) := cell_new rfl
  have hs0 := hs.below hq0
  go_wp2_with fail
  generalize w.alloc (.cells #[i6 od, i6 s] 23) = W0 at hq0 c0 c1 hs0 ⊢
  refine (put_out _ hs0 ho h (by omega)).mono ?_
  rintro e W1 ⟨rfl, hb⟩
  have hq1 := q_step hq0 hb
  have hs1 := hs.below hq1
  replace c0 := cell_below hb c0
  replace c1 := cell_below hb c1
  clear hb hs0 hq0
  go_wp2_with fail
  refine (rput_less od s n lo hi v _ ho h hv).mono ?_
  rintro e W2 ⟨rfl, hb⟩
  have hq2 := q_step hq1 hb
  have hs2 := hs.below hq2
  replace c0 := cell_below hb c0
  replace c1 := cell_below hb c1
  clear hb hs1 hq1
  go_wp2_with fail
  refine (awake_any _ hs2).mono ?_
  rintro e W3 ⟨rfl, hb⟩
  have hq3 := q_step hq2 hb
  have hs3 := hs.below hq3
  replace c0 := cell_below hb c0
  replace c1 := cell_below hb c1
  clear hb hs2 hq2
  go_wp2_with fail
  go_returns
  exact ⟨by first | rfl | (simp; done) | (simp; omega), hq3⟩

set_option maxRecDepth 100000 in
set_option maxHeartbeats 1000000 in
theorem lputs_more (od s : Int) (v : Int) (w : World) (hs : RowAt 0 spanCells w) (ho : od = 0 ∨ od = 1) (n lo hi : Int) (h : IsSpan s n lo hi) (hl : lo ≤ v) (hv : hi < v) :
    Calls Tryd.prog 3 #[whichV od s, i6 v] w fun e w' => e = .returned (.bool true) ∧ Below w.heap.size w w' := by
  go_enter Tryd.func3, Tryd.ntmps3
  have hq0 : Below w.heap.size w (w.alloc (.cells #[i6 od, i6 s] 23)) := q_alloc (Below.refl _ _) _
  have c0 : (w.alloc (.cells #[i6 od, i6 s] 23)).cell? ⟨w.heap.size, 0, none⟩ = some (i6 od) := cell_new rfl
  have c1 : (w.alloc (.cells #[i6 od, i6 s] 23)).cell? ⟨w.heap.size, 1, none⟩ = some (i6 s) := cell_new rfl
  have hs0 := hs.below hq0
  go_wp2_with fail
  generalize w.alloc (.cells #[i6 od, i6 s] 23) = W0 at hq0 c0 c1 hs0 ⊢
  refine (put_out _ hs0 ho h (by omega)).mono ?_
  rintro e W1 ⟨rfl, hb⟩
  have hq1 := q_step hq0 hb
  have hs1 := hs.below hq1
  replace c0 := cell_below hb c0
  replace c1 := cell_below hb c1
  clear hb hs0 hq0
  go_wp2_with fail
  refine (rput_more od s n lo hi v _ ho h hl hv).mono ?_
  rintro e W2 ⟨rfl, hb⟩
  have hq2 := q_step hq1 hb
  have hs2 := hs.below hq2
  replace c0 := cell_below hb c0
  replace c1 := cell_below hb c1
  clear hb hs1 hq1
  go_wp2_with fail
  refine (awake_any _ hs2).mono ?_
  rintro e W3 ⟨rfl, hb⟩
  have hq3 := q_step hq2 hb
  have hs3 := hs.below hq3
  replace c0 := cell_below hb c0
  replace c1 := cell_below hb c1
  clear hb hs2 hq2
  go_wp2_with fail
  go_returns
  exact ⟨by first | rfl | (simp; done) | (simp; omega), hq3⟩

set_option maxRecDepth 100000 in
set_option maxHeartbeats 1000000 in
theorem lputs_in (od s : Int) (v : Int) (w : World) (hs : RowAt 0 spanCells w) (ho : od = 0 ∨ od = 1) (n lo hi : Int) (h : IsSpan s n lo hi) (h1 : lo ≤ v) (h2 : v ≤ hi) :
    Calls Tryd.prog 3 #[whichV od s, i6 v] w fun e w' => e = .returned (.bool true) ∧ Below w.heap.size w w' := by
  have HN := Lib.hid h
  have hE := enc_length od v h.size
  have hsz := h.size
  have HD := Lib.hid (dec_enc h od v h1 h2)
  go_enter Tryd.func3, Tryd.ntmps3
  have hq0 : Below w.heap.size w (w.alloc (.cells #[i6 od, i6 s] 23)) := q_alloc (Below.refl _ _) _
  have c0 : (w.alloc (.cells #[i6 od, i6 s] 23)).cell? ⟨w.heap.size, 0, none⟩ = some (i6 od) := cell_new rfl
  have c1 : (w.alloc (.cells #[i6 od, i6 s] 23)).cell? ⟨w.heap.size, 1, none⟩ = some (i6 s) := cell_new rfl
  have hs0 := hs.below hq0
  go_wp2_with fail
  generalize w.alloc (.cells #[i6 od, i6 s] 23) = W0 at hq0 c0 c1 hs0 ⊢
  refine (put_in _ hs0 ho h h1 h2).mono ?_
  rintro e W1 ⟨rfl, hb⟩
  have hq1 := q_step hq0 hb
  have hs1 := hs.below hq1
  replace c0 := cell_below hb c0
  replace c1 := cell_below hb c1
  clear hb hs0 hq0
  go_wp2_with fail
  refine (rput_ok od s n lo hi v _ ho h h1 h2).mono ?_
  rintro e W2 ⟨rfl, hb⟩
  have hq2 := q_step hq1 hb
  have hs2 := hs.below hq2
  replace c0 := cell_below hb c0
  replace c1 := cell_below hb c1
  clear hb hs1 hq1
  go_wp2_with fail
  refine (get_at _ hs2 ho HN.out (enc_bytes _ _ _) (by rw [hE]; omega) HD.out).mono ?_
  rintro e W3 ⟨rfl, hb⟩
  have hq3 := q_step hq2 hb
  have hs3 := hs.below hq3
  replace c0 := cell_below hb c0
  replace c1 := cell_below hb c1
  clear hb hs2 hq2
  go_wp2_with fail
  refine (awake_any _ hs3).mono ?_
  rintro e W4 ⟨rfl, hb⟩
  have hq4 := q_step hq3 hb
  have hs4 := hs.below hq4
  replace c0 := cell_below hb c0
  replace c1 := cell_below hb c1
  clear hb hs3 hq3
  go_wp2_with fail
  go_returns
  exact ⟨by first | rfl | (simp; done) | (simp; omega), hq4⟩

theorem lputs_any (od s v : Int) (w : World) (hs : RowAt 0 spanCells w) :
    Calls Tryd.prog 3 #[whichV od s, i6 v] w fun e w' => e = .returned (.bool true) ∧ Below w.heap.size w w' := by
  by_cases ho : od = 0 ∨ od = 1
  · by_cases hk : BadSize s
    · exact lputs_size od s v w hs ho hk
    · obtain ⟨n, lo, hi, h⟩ := isSpan_ex (Classical.not_not.1 hk)
      by_cases h1 : lo ≤ v
      · by_cases h2 : v ≤ hi
        · exact lputs_in od s v w hs ho n lo hi h h1 h2
        · exact lputs_more od s v w hs ho n lo hi h h1 (by omega)
      · exact lputs_less od s v w hs ho n lo hi h (by omega)
  · exact lputs_kind od s v w hs ho

theorem get_ok' (od s n lo hi : Int) (xs : List Int) (w : World) (hs : RowAt 0 spanCells w) (ho : od = 0 ∨ od = 1) (h : IsSpan s n lo hi) (hx : IsBytes xs) (R : Value) (hR : getRes od n lo hi xs = R) :
    Calls Tryd.prog 19 #[i6 od, i6 s, .string (strOfNums xs)] w fun e w' => e = .returned R ∧ Below w.heap.size w w' := hR ▸ get_ok od s n lo hi xs w hs ho h hx
theorem rget_ok' (od s n lo hi : Int) (xs : List Int) (w : World) (ho : od = 0 ∨ od = 1) (h : IsSpan s n lo hi) (hx : IsBytes xs) (R : Value) (hR : getRes od n lo hi xs = R) :
    Calls Tryd.prog 20 #[i6 od, i6 s, .string (strOfNums xs)] w fun e w' => e = .returned R ∧ Below w.heap.size w w' := hR ▸ rget_ok od s n lo hi xs w ho h hx

set_option maxRecDepth 100000 in
set_option maxHeartbeats 1000000 in
theorem lgets_much (od s : Int) (xs : List Int) (w : World) (hs : RowAt 0 spanCells w) (hl : 300 < xs.length) :
    Calls Tryd.prog 4 #[whichV od s, .string (strOfNums xs)] w fun e w' => e = .returned (.bool true) ∧ Below w.heap.size w w' := by
  have hlen := strOfNums_size xs
  go_enter Tryd.func4, Tryd.ntmps4
  have hq0 : Below w.heap.size w (w.alloc (.cells #[i6 od, i6 s] 23)) := q_alloc (Below.refl _ _) _
  have c0 : (w.alloc (.cells #[i6 od, i6 s] 23)).cell? ⟨w.heap.size, 0, none⟩ = some (i6 od) := cell_new rfl
  have c1 : (w.alloc (.cells #[i6 od, i6 s] 23)).cell? ⟨w.heap.size, 1, none⟩ = some (i6 s) := cell_new rfl
  have hs0 := hs.below hq0
  go_wp2_with fail
  generalize w.alloc (.cells #[i6 od, i6 s] 23) = W0 at hq0 c0 c1 hs0 ⊢
  refine (awake_any _ hs0).mono ?_
  rintro e W1 ⟨rfl, hb⟩
  have hq1 := q_step hq0 hb
  have hs1 := hs.below hq1
  replace c0 := cell_below hb c0
  replace c1 := cell_below hb c1
  clear hb hs0 hq0
  go_wp2_with fail
  go_returns
  exact ⟨by first | rfl | (simp; done) | (simp; omega), hq1⟩

set_option maxRecDepth 100000 in
set_option maxHeartbeats 1000000 in
theorem lgets_kind (od s : Int) (xs : List Int) (hx : IsBytes xs) (hl : xs.length ≤ 300) (w : World) (hs : RowAt 0 spanCells w) (hk : BadOrder od) :
    Calls Tryd.prog 4 #[whichV od s, .string (strOfNums xs)] w fun e w' => e = .returned (.bool true) ∧ Below w.heap.size w w' := by
  have hlen := strOfNums_size xs
  have HX := Lib.hid hx
  clear hx
  go_enter Tryd.func4, Tryd.ntmps4
  have hq0 : Below w.heap.size w (w.alloc (.cells #[i6 od, i6 s] 23)) := q_alloc (Below.refl _ _) _
  have c0 : (w.alloc (.cells #[i6 od, i6 s] 23)).cell? ⟨w.heap.size, 0, none⟩ = some (i6 od) := cell_new rfl
  have c1 : (w.alloc (.cells #[i6 od, i6 s] 23)).cell? ⟨w.heap.size, 1, none⟩ = some (i6 s) := cell_new rfl
  have hs0 := hs.below hq0
  go_wp2_with fail
  generalize w.alloc (.cells #[i6 od, i6 s] 23) = W0 at hq0 c0 c1 hs0 ⊢
  refine (get_kind od s _ _ hk).mono ?_
  rintro e W1 ⟨rfl, hb⟩
  have hq1 := q_step hq0 hb
  have hs1 := hs.below hq1
  replace c0 := cell_below hb c0
  replace c1 := cell_below hb c1
  clear hb hs0 hq0
  go_wp2_with fail
  refine (rget_kind od s _ _ hk).mono ?_
  rintro e W2 ⟨rfl, hb⟩
  have hq2 := q_step hq1 hb
  have hs2 := hs.below hq2
  replace c0 := cell_below hb c0
  replace c1 := cell_below hb c1
  clear hb hs1 hq1
  go_wp2_with fail
  refine (awake_any _ hs2).mono ?_
  rintro e W3 ⟨rfl, hb⟩
  have hq3 := q_step hq2 hb
  have hs3 := hs.below hq3
  replace c0 := cell_below hb c0
  replace c1 := cell_below hb c1
  clear hb hs2 hq2
  go_wp2_with fail
  go_returns
  exact ⟨by first | rfl | (simp; done) | (simp; omega), hq3⟩

set_option maxRecDepth 100000 in
set_option maxHeartbeats 1000000 in
theorem lgets_size (od s : Int) (xs : List Int) (hx : IsBytes xs) (hl : xs.length ≤ 300) (w : World) (hs : RowAt 0 spanCells w) (ho : od = 0 ∨ od = 1) (hk : BadSize s) :
    Calls Tryd.prog 4 #[whichV od s, .string (strOfNums xs)] w fun e w' => e = .returned (.bool true) ∧ Below w.heap.size w w' := by
  have hlen := strOfNums_size xs
  have HX := Lib.hid hx
  clear hx
  go_enter Tryd.func4, Tryd.ntmps4
  have hq0 : Below w.heap.size w (w.alloc (.cells #[i6 od, i6 s] 23)) := q_alloc (Below.refl _ _) _
  have c0 : (w.alloc (.cells #[i6 od, i6 s] 23)).cell? ⟨w.heap.size, 0, none⟩ = some (i6 od) := cell_new rfl
  have c1 : (w.alloc (.cells #[i6 od, i6 s] 23)).cell? ⟨w.heap.size, 1, none⟩ = some (i6 s) := cell_new rfl
  have hs0 := hs.below hq0
  go_wp2_with fail
  generalize w.alloc (.cells #[i6 od, i6 s] 23) = W0 at hq0 c0 c1 hs0 ⊢
  refine (get_size od s _ _ hs0 ho hk).mono ?_
  rintro e W1 ⟨rfl, hb⟩
  have hq1 := q_step hq0 hb
  have hs1 := hs.below hq1
  replace c0 := cell_below hb c0
  replace c1 := cell_below hb c1
  clear hb hs0 hq0
  go_wp2_with fail
  refine (rget_size od s _ _ ho hk).mono ?_
  rintro e W2 ⟨rfl, hb⟩
  have hq2 := q_step hq1 hb
  have hs2 := hs.below hq2
  replace c0 := cell_below hb c0
  replace c1 := cell_below hb c1
  clear hb hs1 hq1
  go_wp2_with fail
  refine (awake_any _ hs2).mono ?_
  rintro e W3 ⟨rfl, hb⟩
  have hq3 := q_step hq2 hb
  have hs3 := hs.below hq3
  replace c0 := cell_below hb c0
  replace c1 := cell_below hb c1
  clear hb hs2 hq2
  go_wp2_with fail
  go_returns
  exact ⟨by first | rfl | (simp; done) | (simp; omega), hq3⟩

set_option maxRecDepth 100000 in
set_option maxHeartbeats 1000000 in
theorem lgets_short (od s : Int) (xs : List Int) (hx : IsBytes xs) (hl : xs.length ≤ 300) (w : World) (hs : RowAt 0 spanCells w) (ho : od = 0 ∨ od = 1) (n lo hi : Int) (h : IsSpan s n lo hi) (hn : (xs.length : Int) < n) :
    Calls Tryd.prog 4 #[whichV od s, .string (strOfNums xs)] w fun e w' => e = .returned (.bool true) ∧ Below w.heap.size w w' := by
  have hlen := strOfNums_size xs
  have HX := Lib.hid hx
  clear hx
  have HN := Lib.hid h
  have HR := Lib.hid (show getRes od n lo hi xs = .tuple #[i6 0, i6 3] by unfold getRes; rw [if_pos hn])
  clear h
  go_enter Tryd.func4, Tryd.ntmps4
  have hq0 : Below w.heap.size w (w.alloc (.cells #[i6 od, i6 s] 23)) := q_alloc (Below.refl _ _) _
  have c0 : (w.alloc (.cells #[i6 od, i6 s] 23)).cell? ⟨w.heap.size, 0, none⟩ = some (i6 od) := cell_new rfl
  have c1 : (w.alloc (.cells #[i6 od, i6 s] 23)).cell? ⟨w.heap.size, 1, none⟩ = some (i6 s) := cell_new rfl
  have hs0 := hs.below hq0
  go_wp2_with fail
  generalize w.alloc (.cells #[i6 od, i6 s] 23) = W0 at hq0 c0 c1 hs0 ⊢
  refine (get_ok' od s n lo hi xs _ hs0 ho HN.out HX.out _ HR.out).mono ?_
  rintro e W1 ⟨rfl, hb⟩
  have hq1 := q_step hq0 hb
  have hs1 := hs.below hq1
  replace c0 := cell_below hb c0
  replace c1 := cell_below hb c1
  clear hb hs0 hq0
  go_wp2_with fail
  refine (rget_ok' od s n lo hi xs _ ho HN.out HX.out _ HR.out).mono ?_
  rintro e W2 ⟨rfl, hb⟩
  have hq2 := q_step hq1 hb
  have hs2 := hs.below hq2
  replace c0 := cell_below hb c0
  replace c1 := cell_below hb c1
  clear hb hs1 hq1
  go_wp2_with fail
  refine (awake_any _ hs2).mono ?_
  rintro e W3 ⟨rfl, hb⟩
  have hq3 := q_step hq2 hb
  have hs3 := hs.below hq3
  replace c0 := cell_below hb c0
  replace c1 := cell_below hb c1
  clear hb hs2 hq2
  go_wp2_with fail
  go_returns
  exact ⟨by first | rfl | (simp; done) | (simp; omega), hq3⟩

set_option maxRecDepth 100000 in
set_option maxHeartbeats 1000000 in
theorem lgets_long (od s : Int) (xs : List Int) (hx : IsBytes xs) (hl : xs.length ≤ 300) (w : World) (hs : RowAt 0 spanCells w) (ho : od = 0 ∨ od = 1) (n lo hi : Int) (h : IsSpan s n lo hi) (hn : n < (xs.length : Int)) :
    Calls Tryd.prog 4 #[whichV od s, .string (strOfNums xs)] w fun e w' => e = .returned (.bool true) ∧ Below w.heap.size w w' := by
  have hlen := strOfNums_size xs
  have HX := Lib.hid hx
  clear hx
  have HN := Lib.hid h
  have HR := Lib.hid (show getRes od n lo hi xs = .tuple #[i6 0, i6 4] by unfold getRes; rw [if_neg (by omega), if_pos hn])
  clear h
  go_enter Tryd.func4, Tryd.ntmps4
  have hq0 : Below w.heap.size w (w.alloc (.cells #[i6 od, i6 s] 23)) := q_alloc (Below.refl _ _) _
  have c0 : (w.alloc (.cells #[i6 od, i6 s] 23)).cell? ⟨w.heap.size, 0, none⟩ = some (i6 od) := cell_new rfl
  have c1 : (w.alloc (.cells #[i6 od, i6 s] 23)).cell? ⟨w.heap.size, 1, none⟩ = some (i6 s) := cell_new rfl
  have hs0 := hs.below hq0
  go_wp2_with fail
  generalize w.alloc (.cells #[i6 od, i6 s] 23) = W0 at hq0 c0 c1 hs0 ⊢
  refine (get_ok' od s n lo hi xs _ hs0 ho HN.out HX.out _ HR.out).mono ?_
  rintro e W1 ⟨rfl, hb⟩
  have hq1 := q_step hq0 hb
  have hs1 := hs.below hq1
  replace c0 := cell_below hb c0
  replace c1 := cell_below hb c1
  clear hb hs0 hq0
  go_wp2_with fail
  refine (rget_ok' od s n lo hi xs _ ho HN.out HX.out _ HR.out).mono ?_
  rintro e W2 ⟨rfl, hb⟩
  have hq2 := q_step hq1 hb
  have hs2 := hs.below hq2
  replace c0 := cell_below hb c0
  replace c1 := cell_below hb c1
  clear hb hs1 hq1
  go_wp2_with fail
  refine (awake_any _ hs2).mono ?_
  rintro e W3 ⟨rfl, hb⟩
  have hq3 := q_step hq2 hb
  have hs3 := hs.below hq3
  replace c0 := cell_below hb c0
  replace c1 := cell_below hb c1
  clear hb hs2 hq2
  go_wp2_with fail
  go_returns
  exact ⟨by first | rfl | (simp; done) | (simp; omega), hq3⟩

set_option maxRecDepth 100000 in
set_option maxHeartbeats 1000000 in
theorem lgets_in (od s : Int) (xs : List Int) (hx : IsBytes xs) (hl : xs.length ≤ 300) (w : World) (hs : RowAt 0 spanCells w) (ho : od = 0 ∨ od = 1) (n lo hi : Int) (h : IsSpan s n lo hi) (hn : (xs.length : Int) = n) :
    Calls Tryd.prog 4 #[whichV od s, .string (strOfNums xs)] w fun e w' => e = .returned (.bool true) ∧ Below w.heap.size w w' := by
  have hlen := strOfNums_size xs
  have HX := Lib.hid hx
  have HN := Lib.hid h
  have HE := Lib.hid (enc_dec h od xs hx hn)
  have HR := Lib.hid (show getRes od n lo hi xs = .tuple #[i6 (dec od lo hi xs), i6 0] by unfold getRes; rw [if_neg (by omega), if_neg (by omega)])
  clear h hx
  go_enter Tryd.func4, Tryd.ntmps4
  have hq0 : Below w.heap.size w (w.alloc (.cells #[i6 od, i6 s] 23)) := q_alloc (Below.refl _ _) _
  have c0 : (w.alloc (.cells #[i6 od, i6 s] 23)).cell? ⟨w.heap.size, 0, none⟩ = some (i6 od) := cell_new rfl
  have c1 : (w.alloc (.cells #[i6 od, i6 s] 23)).cell? ⟨w.heap.size, 1, none⟩ = some (i6 s) := cell_new rfl
  have hs0 := hs.below hq0
  go_wp2_with fail
  generalize w.alloc (.cells #[i6 od, i6 s] 23) = W0 at hq0 c0 c1 hs0 ⊢
  refine (get_ok' od s n lo hi xs _ hs0 ho HN.out HX.out _ HR.out).mono ?_
  rintro e W1 ⟨rfl, hb⟩
  have hq1 := q_step hq0 hb
  have hs1 := hs.below hq1
  replace c0 := cell_below hb c0
  replace c1 := cell_below hb c1
  clear hb hs0 hq0
  go_wp2_with fail
  refine (rget_ok' od s n lo hi xs _ ho HN.out HX.out _ HR.out).mono ?_
  rintro e W2 ⟨rfl, hb⟩
  have hq2 := q_step hq1 hb
  have hs2 := hs.below hq2
  replace c0 := cell_below hb c0
  replace c1 := cell_below hb c1
  clear hb hs1 hq1
  go_wp2_with fail
  refine (put_in' _ hs2 ho HN.out HE.out.2.1 HE.out.2.2 HE.out.1).mono ?_
  rintro e W3 ⟨rfl, hb⟩
  have hq3 := q_step hq2 hb
  have hs3 := hs.below hq3
  replace c0 := cell_below hb c0
  replace c1 := cell_below hb c1
  clear hb hs2 hq2
  go_wp2_with fail
  refine (awake_any _ hs3).mono ?_
  rintro e W4 ⟨rfl, hb⟩
  have hq4 := q_step hq3 hb
  have hs4 := hs.below hq4
  replace c0 := cell_below hb c0
  replace c1 := cell_below hb c1
  clear hb hs3 hq3
  go_wp2_with fail
  go_returns
  exact ⟨by first | rfl | (simp; done) | (simp; omega), hq4⟩

theorem lgets_any (od s : Int) (xs : List Int) (w : World) (hs : RowAt 0 spanCells w) (hx : IsBytes xs) :
    Calls Tryd.prog 4 #[whichV od s, .string (strOfNums xs)] w fun e w' => e = .returned (.bool true) ∧ Below w.heap.size w w' := by
  by_cases hl : xs.length ≤ 300
  · by_cases ho : od = 0 ∨ od = 1
    · by_cases hk : BadSize s
      · exact lgets_size od s xs hx hl w hs ho hk
      · obtain ⟨n, lo, hi, h⟩ := isSpan_ex (Classical.not_not.1 hk)
        by_cases h1 : (xs.length : Int) < n
        · exact lgets_short od s xs hx hl w hs ho n lo hi h h1
        · by_cases h2 : n < (xs.length : Int)
          · exact lgets_long od s xs hx hl w hs ho n lo hi h h2
          · exact lgets_in od s xs hx hl w hs ho n lo hi h (by omega)
    · exact lgets_kind od s xs hx hl w hs ho
  · exact lgets_much od s xs w hs (by omega)
theorem lgets_str (od s : Int) (b : ByteArray) (w : World) (hs : RowAt 0 spanCells w) :
    Calls Tryd.prog 4 #[whichV od s, .string b] w fun e w' => e = .returned (.bool true) ∧ Below w.heap.size w w' := by
  have := lgets_any od s (numsOf b) w hs (numsOf_bytes b)
  rwa [str_numsOf] at this
end Go.Proofs.YtbbblopackffiaaDoor
