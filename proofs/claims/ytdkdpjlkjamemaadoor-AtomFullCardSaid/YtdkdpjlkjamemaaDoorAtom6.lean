/- Layer 9: maps.Clone, Len, Name. -/
import Derived.Test.YtdkdpjlkjamemaaDoorAtom5
import Derived.Shelf.SlMaps.Clone
namespace Go.Proofs.YtdkdpjlkjamemaaDoor
open Go Go.RowKit Go.Maps Go.Shelf
set_option linter.unusedSimpArgs false
set_option linter.unusedVariables false

theorem mclone_map (b : Nat) (es : Array MapEntry) (clock : Nat) (w : World) (hb : w.heap[b]? = some (.map es clock)) :
    Calls Tryd.prog 23 #[.map (some b)] w fun e w' => e = .returned (.map (some w.heap.size)) ∧ w' = w.alloc (.map es clock) := by
  have hq := fun w => eqNilMap (some b) w
  go_enter Tryd.func23, Tryd.ntmps23
  go_wp2_with fail
  rw [run_callFunc_extern Tryd.func26 (by kernel_rfl) (by kernel_rfl) (by kernel_rfl) (e := Extern.MapsClone.clone) (by kernel_rfl), run_maps_clone_sl w 28 hb]
  simp only [Result.andThen]
  rw [Oper.upon_value]
  go_wp2_with fail
  rw [run_typeAssert_map_sl _ 28 20 _ _ _ und_amap]
  simp only [Result.andThen]
  rw [Oper.upon_value]
  go_wp2_with fail
  go_returns
  exact ⟨rfl, rfl⟩
theorem mclone_own (b n : Nat) (D : DataW Unit) (w : World) (h : OwnsA w b n D) :
    Calls Tryd.prog 23 #[.map (some b)] w fun e w' => e = .returned (.map (some w.heap.size)) ∧ OwnsA w' w.heap.size n D ∧ Below w.heap.size w w' := by
  obtain ⟨es, clock, hb, h2, h3, h4⟩ := h
  refine (mclone_map b es clock w hb).mono ?_
  rintro e w' ⟨rfl, rfl⟩
  exact ⟨rfl, ⟨es, clock, heap_alloc_new w _, h2, h3, h4⟩, by (repeat' (first | with_reducible exact Below.refl _ _ | with_reducible assumption | with_reducible refine q_alloc ?_ _ | with_reducible refine q_drew ?_ | with_reducible refine q_drewN _ ?_ | with_reducible refine q_setCell ?_ ?_ _ | (left; simp; done) | (right; simp; done) | (right; dsimp only; omega) | (left; dsimp only; omega)))⟩
theorem mclone_nil (w : World) :
    Calls Tryd.prog 23 #[.map none] w fun e w' => e = .returned (.map none) ∧ w' = w := by
  have hq := fun w => eqNilMap none w
  go_enter Tryd.func23, Tryd.ntmps23
  go_wp2_with fail
  go_returns
  exact ⟨rfl, rfl⟩
theorem len_any (a : Option Addr) (n cap : Nat) (mv : Value) (w : World) (hn : n ≤ 100000) :
    Calls Tryd.prog 16 #[.agg #[.slice a n cap, mv]] w fun e w' => e = .returned (i6 ((10 + n : Nat) : Int)) ∧ Below w.heap.size w w' := by
  go_enter Tryd.func16, Tryd.ntmps16
  go_wp2_with fail
  go_returns
  exact ⟨by first | rfl | (simp; done) | (simp; omega), by (repeat' (first | with_reducible exact Below.refl _ _ | with_reducible assumption | with_reducible refine q_alloc ?_ _ | with_reducible refine q_drew ?_ | with_reducible refine q_drewN _ ?_ | with_reducible refine q_setCell ?_ ?_ _ | (left; simp; done) | (right; simp; done) | (right; dsimp only; omega) | (left; dsimp only; omega)))⟩

/-- An atom's name. -/
def nameT (more : List B) (a : Int) : B × Bool := if h : 1 ≤ a ∧ a ≤ ((10 + more.length : Nat) : Int) then ((knownL ++ more).getD (a.toNat - 1) [], true) else ([], false)
theorem known_cell (k : Nat) (h : k < 10) (w : World) (hs : RowAt 0 knownCells w) : w.cell? ⟨0, k, none⟩ = some (strV (knownL.getD k [])) := by
  refine hs.at_ k _ ?_
  rw [List.getElem?_map, List.getD_eq_getElem?_getD]
  match k, h with
  | 0, _ | 1, _ | 2, _ | 3, _ | 4, _ | 5, _ | 6, _ | 7, _ | 8, _ | 9, _ => rfl
set_option maxRecDepth 100000 in
set_option maxHeartbeats 4000000 in
theorem name_no (a : Option Addr) (n cap : Nat) (mv : Value) (g : Int) (w : World) (hn : n ≤ 100000) (h0 : 0 ≤ g) (h1 : g < 4294967296) (hg : g < 1 ∨ ((10 + n : Nat) : Int) < g) :
    Calls Tryd.prog 17 #[.agg #[.slice a n cap, mv], u3 g] w fun e w' => e = .returned (.tuple #[strV [], .bool false]) ∧ Below w.heap.size w w' := by
  by_cases hg1 : g < 1
  · go_enter Tryd.func17, Tryd.ntmps17
    go_wp2_with fail
    go_returns
    exact ⟨rfl, by (repeat' (first | with_reducible exact Below.refl _ _ | with_reducible assumption | with_reducible refine q_alloc ?_ _ | with_reducible refine q_drew ?_ | with_reducible refine q_drewN _ ?_ | with_reducible refine q_setCell ?_ ?_ _ | (left; simp; done) | (right; simp; done) | (right; dsimp only; omega) | (left; dsimp only; omega)))⟩
  · have hg2 : ((10 + n : Nat) : Int) < g := by omega
    have hw : IntKind.i64.wrap g = g := by simp only [IntKind.wrap, IntKind.bits, IntKind.signed]; simp; omega
    go_enter Tryd.func17, Tryd.ntmps17
    go_wp2_with fail
    refine (len_any a n cap mv _ hn).mono ?_
    rintro e w1 ⟨rfl, hb⟩
    have hq : Below w.heap.size w w1 := q_step (by (repeat' (first | with_reducible exact Below.refl _ _ | with_reducible assumption | with_reducible refine q_alloc ?_ _ | with_reducible refine q_drew ?_ | with_reducible refine q_drewN _ ?_ | with_reducible refine q_setCell ?_ ?_ _ | (left; simp; done) | (right; simp; done) | (right; dsimp only; omega) | (left; dsimp only; omega)))) hb
    clear hb
    generalize ((10 + n : Nat) : Int) = N at hg2 ⊢
    go_wp2_with fail
    go_returns
    exact ⟨rfl, hq⟩
set_option maxRecDepth 100000 in
set_option maxHeartbeats 4000000 in
theorem name_known (a : Option Addr) (n cap : Nat) (mv : Value) (k : Nat) (w : World) (hs : RowAt 0 knownCells w) (hn : n ≤ 100000) (hk : k < 10) (nm : B) (hnm : knownL.getD k [] = nm) :
    Calls Tryd.prog 17 #[.agg #[.slice a n cap, mv], u3 ((k : Int) + 1)] w fun e w' => e = .returned (.tuple #[strV nm, .bool true]) ∧ Below w.heap.size w w' := by
  have hle : ¬ ((10 + n : Nat) : Int) < (k : Int) + 1 := by omega
  have HS := Lib.hid hs
  have HNM := Lib.hid hnm
  clear hs hnm
  have hg1' : ¬ (k : Int) + 1 < 1 := by omega
  have hw1 : IntKind.i64.wrap ((k : Int) + 1) = (k : Int) + 1 := IntWalk.i64_in _ (by omega)
  have hw2 : IntKind.i64.wrap ((k : Int) + 1 - 1) = (k : Int) := by rw [show (k : Int) + 1 - 1 = k by omega]; exact IntWalk.i64_in _ (by omega)
  go_enter Tryd.func17, Tryd.ntmps17
  go_wp2_with fail
  refine (len_any a n cap mv _ hn).mono ?_
  rintro e w1 ⟨rfl, hb⟩
  have hq : Below w.heap.size w w1 := q_step (by (repeat' (first | with_reducible exact Below.refl _ _ | with_reducible assumption | with_reducible refine q_alloc ?_ _ | with_reducible refine q_drew ?_ | with_reducible refine q_drewN _ ?_ | with_reducible refine q_setCell ?_ ?_ _ | (left; simp; done) | (right; simp; done) | (right; dsimp only; omega) | (left; dsimp only; omega)))) hb
  clear hb
  generalize ((10 + n : Nat) : Int) = N at hle ⊢
  have hcell := known_cell k hk w1 (HS.out.below hq)
  rw [HNM.out] at hcell
  go_wp2_with fail
  go_returns
  exact ⟨rfl, hq⟩
set_option maxRecDepth 100000 in
set_option maxHeartbeats 4000000 in
theorem name_more (b off n cap : Nat) (mv : Value) (k : Nat) (w : World) (hn : n ≤ 100000) (hk : k < n) (nm : B) (hc : w.cell? ⟨b, off + k, none⟩ = some (strV nm)) :
    Calls Tryd.prog 17 #[.agg #[.slice (some ⟨b, off, none⟩) n cap, mv], u3 ((k : Int) + 11)] w fun e w' => e = .returned (.tuple #[strV nm, .bool true]) ∧ Below w.heap.size w w' := by
  have hle : ¬ ((10 + n : Nat) : Int) < (k : Int) + 11 := by omega
  have hg1' : ¬ (k : Int) + 11 < 1 := by omega
  have hw1 : IntKind.i64.wrap ((k : Int) + 11) = (k : Int) + 11 := IntWalk.i64_in _ (by omega)
  have hw2 : IntKind.i64.wrap ((k : Int) + 11 - 1) = (k : Int) + 10 := by rw [show (k : Int) + 11 - 1 = k + 10 by omega]; exact IntWalk.i64_in _ (by omega)
  have hw3 : IntKind.i64.wrap ((k : Int) + 10 - 10) = (k : Int) := by rw [show (k : Int) + 10 - 10 = k by omega]; exact IntWalk.i64_in _ (by omega)
  have hlt : ¬ (k : Int) + 10 < 10 := by omega
  have hkn : (k : Int) < (n : Int) := by omega
  have hbl := block_lt_of_cell hc
  dsimp only at hbl
  go_enter Tryd.func17, Tryd.ntmps17
  go_wp2_with fail
  refine calls_world (fun W => Below w.heap.size w W ∧ Blk W w.heap.size [.slice (some ⟨b, off, none⟩) n cap, mv]) ⟨by (repeat' (first | with_reducible exact Below.refl _ _ | with_reducible assumption | with_reducible refine q_alloc ?_ _ | with_reducible refine q_drew ?_ | with_reducible refine q_drewN _ ?_ | with_reducible refine q_setCell ?_ ?_ _ | (left; simp; done) | (right; simp; done) | (right; dsimp only; omega) | (left; dsimp only; omega))), Blk.new rfl⟩ ?_
  intro W1 ⟨hq1, b0⟩
  refine (len_any _ n cap mv _ hn).mono ?_
  rintro e w1 ⟨rfl, hb⟩
  have hq : Below w.heap.size w w1 := q_step hq1 hb
  have b1 := b0.below hb
  clear hb b0 hq1
  have c0 := b1.cell 0 rfl
  have c1 := b1.cell 1 rfl
  have hc1 := cell_below hq hc
  generalize ((10 + n : Nat) : Int) = N at hle ⊢
  go_wp2_with fail
  go_returns
  exact ⟨rfl, hq⟩
end Go.Proofs.YtdkdpjlkjamemaaDoor
