/- Layer 1: the numbers of a row of bytes. -/
import Derived.Test.YtbbblopackffiaaDoorOrd7
import Derived.Deep.RegionHeld3
namespace Go.Proofs.YtbbblopackffiaaDoor
open Go Go.RowKit
set_option linter.unusedSimpArgs false
set_option linter.unusedVariables false

/-- The block g holds these numbers, and may be written. -/
structure OwnI (w : World) (g : Nat) (us : List Int) : Prop where
  lt : g < w.heap.size
  at_ : ∀ j, j < us.length → w.cell? ⟨g, j, none⟩ = some (i6 (us.getD j 0)) ∧ w.frozen? ⟨g, j, none⟩ = false
theorem OwnI.set {w : World} {g : Nat} {bs : List Int} (h : OwnI w g bs) {j : Nat} (hj : j < bs.length) (x : Int) : OwnI (w.setCell ⟨g, j, none⟩ (i6 x)) g (bs.set j x) := by
  refine ⟨by simpa [World.setCell] using h.lt, fun i hi => ?_⟩
  rw [List.length_set] at hi
  obtain ⟨h1, h2⟩ := h.at_ i hi
  obtain ⟨h3, h4⟩ := h.at_ j hj
  refine ⟨?_, by rw [World.frozen?_setCell]; exact h2⟩
  by_cases e : j = i
  · subst e
    rw [World.cell?_setCell_same _ _ _ h3]
    simp [List.getD_eq_getElem?_getD, List.getElem?_set_self hj]
  · rw [World.cell?_setCell_other _ _ _ _ (by intro h; cases h; exact e rfl), h1]
    simp [List.getD_eq_getElem?_getD, List.getElem?_set_ne e]
theorem OwnI.below {w w' : World} {g : Nat} {bs : List Int} (h : OwnI w g bs) (hb : Below w.heap.size w w') : OwnI w' g bs :=
  ⟨Nat.lt_of_lt_of_le h.lt hb.size, fun j hj => ⟨(hb.cell (p := ⟨g, j, none⟩) h.lt).trans (h.at_ j hj).1, (hb.frozen (p := ⟨g, j, none⟩) h.lt).trans (h.at_ j hj).2⟩⟩
theorem OwnI.made (w : World) (N : Nat) (t : TypeId) : OwnI (w.alloc (.cells (madeCells #[i6 0] N) t)) w.heap.size (List.replicate N 0) := by
  refine ⟨by simp [World.size_alloc], fun j hj => ?_⟩
  rw [List.length_replicate] at hj
  refine ⟨cell_new ?_, World.frozen?_alloc_new _ _ _ _⟩
  rw [← Array.getElem?_toList, toList_madeCells_one, List.getElem?_replicate, if_pos hj]
  simp [List.getD_eq_getElem?_getD, List.getElem?_replicate, hj]
theorem OwnI.is {w : World} {g : Nat} {us : List Int} (h : OwnI w g us) : I6At w g 0 us := ⟨h.lt, fun j hj => by rw [Nat.zero_add]; exact (h.at_ j hj).1⟩

/-- The numbers of pieces of m bytes. -/
def decRow (od lo hi : Int) (m : Nat) (xs : List Int) (c : Nat) : List Int := (List.range c).map fun i => dec od lo hi ((xs.drop (i * m)).take m)
theorem decRow_length (od lo hi : Int) (m : Nat) (xs : List Int) (c : Nat) : (decRow od lo hi m xs c).length = c := by simp [decRow]
theorem decRow_step (od lo hi : Int) (m : Nat) (xs : List Int) (k : Nat) : decRow od lo hi m xs (k + 1) = decRow od lo hi m xs k ++ [dec od lo hi ((xs.drop (k * m)).take m)] := by
  simp [decRow, List.range_succ]
theorem info_i64 : (Tryd.prog.info? 2).map (fun i => (i.zero, i.size, i.bytes)) = some (some (i6 0), 1, 8) := by kernel_rfl
theorem und_i64s : Tryd.prog.underlying 36 = some (.slice 2) := by kernel_rfl
abbrev nilErr (k : Int) : Value := .tuple #[.slice none 0 0, i6 k]

set_option maxRecDepth 100000 in
theorem rows_kind (od s : Int) (b : ByteArray) (w : World) (hk : BadOrder od) :
    Calls Tryd.prog 23 #[i6 od, i6 s, .string b] w fun e w' => e = .returned (nilErr 10) ∧ Below w.heap.size w w' := by
  go_enter Tryd.func23, Tryd.ntmps23
  go_wp2_with fail
  refine (find_kind od s _ hk).mono ?_
  rintro e w1 ⟨rfl, hq⟩
  have hq1 := q_alloc hq (.cells #[i6 0, i6 0, i6 0, i6 0] 79)
  go_wp2_with fail
  go_returns
  exact ⟨by first | rfl | (simp; done), hq1⟩
set_option maxRecDepth 100000 in
theorem rows_size (od s : Int) (b : ByteArray) (w : World) (hs : RowAt 0 spanCells w) (ho : od = 0 ∨ od = 1) (hk : BadSize s) :
    Calls Tryd.prog 23 #[i6 od, i6 s, .string b] w fun e w' => e = .returned (nilErr 17) ∧ Below w.heap.size w w' := by
  go_enter Tryd.func23, Tryd.ntmps23
  go_wp2_with fail
  refine (find_size od s hk _ hs ho).mono ?_
  rintro e w1 ⟨rfl, hq⟩
  have hq1 := q_alloc hq (.cells #[i6 0, i6 0, i6 0, i6 0] 79)
  go_wp2_with fail
  go_returns
  exact ⟨by first | rfl | (simp; done), hq1⟩
set_option maxRecDepth 100000 in
theorem rows_long (od s n lo hi : Int) (b : ByteArray) (w : World) (hs : RowAt 0 spanCells w) (ho : od = 0 ∨ od = 1) (h : IsSpan s n lo hi) (hl : 262144 < b.size) :
    Calls Tryd.prog 23 #[i6 od, i6 s, .string b] w fun e w' => e = .returned (nilErr 4) ∧ Below w.heap.size w w' := by
  have hb : decide ((262144 : Int) < (b.size : Int)) = true := decide_eq_true (by omega)
  have HN := Lib.hid h
  clear h
  go_enter Tryd.func23, Tryd.ntmps23
  go_wp2_with fail
  refine (find_ok od s n lo hi _ hs ho HN.out).mono ?_
  rintro e w1 ⟨rfl, hq⟩
  have hq1 := q_alloc hq (.cells #[i6 s, i6 n, i6 lo, i6 hi] 79)
  go_wp2_with fail
  go_returns
  exact ⟨by first | rfl | (simp; done), hq1⟩
set_option maxRecDepth 100000 in
theorem rows_short (od s n lo hi : Int) (b : ByteArray) (w : World) (hs : RowAt 0 spanCells w) (ho : od = 0 ∨ od = 1) (h : IsSpan s n lo hi) (hl : b.size ≤ 262144) (hm : ¬ (b.size : Int) % n = 0) :
    Calls Tryd.prog 23 #[i6 od, i6 s, .string b] w fun e w' => e = .returned (nilErr 3) ∧ Below w.heap.size w w' := by
  have hb : decide ((262144 : Int) < (b.size : Int)) = false := decide_eq_false (by omega)
  have hn := h.size
  have hn0 : ¬ n = 0 := by omega
  have hr0 := Int.emod_nonneg (b.size : Int) hn0
  have hr1 := Int.emod_lt_of_pos (b.size : Int) (show 0 < n by omega)
  have f1 : (b.size : Int).tmod n = (b.size : Int) % n := by rw [Int.tmod_eq_emod_of_nonneg (by omega)]
  have f2 : IntKind.i64.wrap ((b.size : Int) % n) = (b.size : Int) % n := IntWalk.i64_in _ (by omega)
  have HN := Lib.hid h
  clear h
  go_enter Tryd.func23, Tryd.ntmps23
  go_wp2_with fail
  refine (find_ok od s n lo hi _ hs ho HN.out).mono ?_
  rintro e w1 ⟨rfl, hq⟩
  have hq1 := q_alloc hq (.cells #[i6 s, i6 n, i6 lo, i6 hi] 79)
  go_wp2_with fail
  go_returns
  exact ⟨by first | rfl | (simp; done), hq1⟩
end Go.Proofs.YtbbblopackffiaaDoor
