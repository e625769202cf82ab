/- Layer 1: a number's bytes laid, and the number of bytes, at any size and order. -/
import Derived.Test.YtbbblopackffiaaDoorOrd2
import Derived.Test.YtbbblopackffiaaDoorOrd3b
namespace Go.Proofs.YtbbblopackffiaaDoor
open Go Go.RowKit
set_option linter.unusedSimpArgs false
set_option linter.unusedVariables false

/-- The world has kept all but one block. -/
structure ButOne (g : Nat) (w w' : World) : Prop where
  size : w.heap.size ≤ w'.heap.size
  cell : ∀ p : Addr, p.block ≠ g → p.block < w.heap.size → w'.cell? p = w.cell? p
  frozen : ∀ p : Addr, p.block ≠ g → p.block < w.heap.size → w'.frozen? p = w.frozen? p
  below : ∀ B, B ≤ g → B ≤ w.heap.size → Below B w w'
theorem ButOne.refl (g : Nat) (w : World) : ButOne g w w := ⟨Nat.le_refl _, fun _ _ _ => rfl, fun _ _ _ => rfl, fun B _ _ => Below.refl B w⟩
theorem ButOne.set {g : Nat} {w w' : World} (h : ButOne g w w') (j : Nat) (u : Value) : ButOne g w (w'.setCell ⟨g, j, none⟩ u) :=
  ⟨by simpa [World.setCell] using h.size, fun p hp hl => (World.cell?_setCell_other _ _ _ _ (by intro e; exact hp (by rw [← e]))).trans (h.cell p hp hl), fun p hp hl => by rw [World.frozen?_setCell]; exact h.frozen p hp hl, fun B hB hw => (h.below B hB hw).setCell hB u⟩
theorem ButOne.alloc {g : Nat} {w w' : World} (h : ButOne g w w') (o : Obj) : ButOne g w (w'.alloc o) := by
  have hb := Below.refl w'.heap.size w'
  have ha := hb.alloc (Nat.le_refl _) o
  exact ⟨Nat.le_trans h.size ha.size, fun p hp hl => (ha.cell (Nat.lt_of_lt_of_le hl h.size)).trans (h.cell p hp hl), fun p hp hl => (ha.frozen (Nat.lt_of_lt_of_le hl h.size)).trans (h.frozen p hp hl), fun B hB hw => (h.below B hB hw).alloc (Nat.le_trans hw h.size) o⟩
theorem enc_at1_0 (v : Int) : enc 0 1 v = [digit v 1] := by simp [enc, lowFirst]
theorem enc_at1_1 (v : Int) : enc 1 1 v = [digit v 1] := by simp [enc, lowFirst]
theorem enc_at2_0 (v : Int) : enc 0 2 v = [digit v 1, digit v 256] := by simp [enc, lowFirst]
theorem enc_at2_1 (v : Int) : enc 1 2 v = [digit v 256, digit v 1] := by simp [enc, lowFirst]
theorem enc_at4_0 (v : Int) : enc 0 4 v = [digit v 1, digit v 256, digit v 65536, digit v 16777216] := by simp [enc, lowFirst]
theorem enc_at4_1 (v : Int) : enc 1 4 v = [digit v 16777216, digit v 65536, digit v 256, digit v 1] := by simp [enc, lowFirst]

theorem lay_any {s n lo hi od v : Int} {g off cap k : Nat} {bs : List Int} {w : World} (hn : n = 1 ∨ n = 2 ∨ n = 4) (hod : od = 0 ∨ od = 1) (hk : (k : Int) = n) (h : OwnB w g bs) (hoff : off + k ≤ bs.length) :
    Calls Tryd.prog 48 #[spanV s n lo hi, i6 od, i6 v, .slice (some ⟨g, off, none⟩) k cap] w fun e w' => e = .returned (.tuple #[]) ∧ OwnB w' g (put bs off (enc od n v)) ∧ ButOne g w w' := by
  rcases hn with rfl | rfl | rfl <;> rcases hod with rfl | rfl
  · obtain rfl : k = 1 := by omega
    refine (lay1_0 s 1 lo hi v g off cap _ w h.lt (h.at_ off (by omega)).1 (h.at_ off (by omega)).2).mono ?_
    rintro e w' ⟨rfl, rfl⟩
    exact ⟨rfl, by rw [enc_at1_0]; exact (((h).set (by omega) (digit v 1)).alloc _), ((((ButOne.refl _ _)).set _ _)).alloc _⟩
  · obtain rfl : k = 1 := by omega
    refine (lay1_1 s 1 lo hi v g off cap _ w h.lt (h.at_ off (by omega)).1 (h.at_ off (by omega)).2).mono ?_
    rintro e w' ⟨rfl, rfl⟩
    exact ⟨rfl, by rw [enc_at1_1]; exact (((h).set (by omega) (digit v 1)).alloc _), ((((ButOne.refl _ _)).set _ _)).alloc _⟩
  · obtain rfl : k = 2 := by omega
    refine (lay2_0 s 2 lo hi v g off cap _ _ w h.lt (h.at_ off (by omega)).1 (h.at_ off (by omega)).2 (h.at_ (off + 1) (by omega)).1 (h.at_ (off + 1) (by omega)).2).mono ?_
    rintro e w' ⟨rfl, rfl⟩
    exact ⟨rfl, by rw [enc_at2_0]; exact ((((h).set (by omega) (digit v 1)).set (by simp only [List.length_set]; omega) (digit v 256)).alloc _), ((((((ButOne.refl _ _)).set _ _)).set _ _)).alloc _⟩
  · obtain rfl : k = 2 := by omega
    refine (lay2_1 s 2 lo hi v g off cap _ _ w h.lt (h.at_ off (by omega)).1 (h.at_ off (by omega)).2 (h.at_ (off + 1) (by omega)).1 (h.at_ (off + 1) (by omega)).2).mono ?_
    rintro e w' ⟨rfl, rfl⟩
    exact ⟨rfl, by rw [enc_at2_1]; exact ((((h).set (by omega) (digit v 256)).set (by simp only [List.length_set]; omega) (digit v 1)).alloc _), ((((((ButOne.refl _ _)).set _ _)).set _ _)).alloc _⟩
  · obtain rfl : k = 4 := by omega
    refine (lay4_0 s 4 lo hi v g off cap _ _ _ _ w h.lt (h.at_ off (by omega)).1 (h.at_ off (by omega)).2 (h.at_ (off + 1) (by omega)).1 (h.at_ (off + 1) (by omega)).2 (h.at_ (off + 2) (by omega)).1 (h.at_ (off + 2) (by omega)).2 (h.at_ (off + 3) (by omega)).1 (h.at_ (off + 3) (by omega)).2).mono ?_
    rintro e w' ⟨rfl, rfl⟩
    exact ⟨rfl, by rw [enc_at4_0]; exact ((((((h).set (by omega) (digit v 1)).set (by simp only [List.length_set]; omega) (digit v 256)).set (by simp only [List.length_set]; omega) (digit v 65536)).set (by simp only [List.length_set]; omega) (digit v 16777216)).alloc _), ((((((((((ButOne.refl _ _)).set _ _)).set _ _)).set _ _)).set _ _)).alloc _⟩
  · obtain rfl : k = 4 := by omega
    refine (lay4_1 s 4 lo hi v g off cap _ _ _ _ w h.lt (h.at_ off (by omega)).1 (h.at_ off (by omega)).2 (h.at_ (off + 1) (by omega)).1 (h.at_ (off + 1) (by omega)).2 (h.at_ (off + 2) (by omega)).1 (h.at_ (off + 2) (by omega)).2 (h.at_ (off + 3) (by omega)).1 (h.at_ (off + 3) (by omega)).2).mono ?_
    rintro e w' ⟨rfl, rfl⟩
    exact ⟨rfl, by rw [enc_at4_1]; exact ((((((h).set (by omega) (digit v 16777216)).set (by simp only [List.length_set]; omega) (digit v 65536)).set (by simp only [List.length_set]; omega) (digit v 256)).set (by simp only [List.length_set]; omega) (digit v 1)).alloc _), ((((((((((ButOne.refl _ _)).set _ _)).set _ _)).set _ _)).set _ _)).alloc _⟩

theorem read_any {s n lo hi od : Int} {xs : List Int} {w : World} (h : IsSpan s n lo hi) (hod : od = 0 ∨ od = 1) (hx : IsBytes xs) (hl : (xs.length : Int) = n) :
    Calls Tryd.prog 46 #[spanV s n lo hi, i6 od, .string (strOfNums xs)] w fun e w' => e = .returned (i6 (dec od lo hi xs)) ∧ Below w.heap.size w w' := by
  have hb := h.bounds
  have hsz := strOfNums_size xs
  rcases h.size with rfl | rfl | rfl
  · obtain ⟨a, rfl⟩ : ∃ a, xs = [a] := by
      match xs, hl with
      | [a], _ => exact ⟨_, rfl⟩
    rcases hod with rfl | rfl
    · exact read1_0 s 1 lo hi _ (by rw [hsz]; rfl) a (str_get hx 0 (by simp) (by rw [hsz]; simp)) w (by omega) (by omega) _ (by simp [dec, valLow] <;> (split <;> split <;> omega))
    · exact read1_1 s 1 lo hi _ (by rw [hsz]; rfl) a (str_get hx 0 (by simp) (by rw [hsz]; simp)) w (by omega) (by omega) _ (by simp [dec, valLow] <;> (split <;> split <;> omega))
  · obtain ⟨a, b, rfl⟩ : ∃ a b, xs = [a, b] := by
      match xs, hl with
      | [a, b], _ => exact ⟨_, _, rfl⟩
    rcases hod with rfl | rfl
    · exact read2_0 s 2 lo hi _ (by rw [hsz]; rfl) a b (str_get hx 0 (by simp) (by rw [hsz]; simp)) (str_get hx 1 (by simp) (by rw [hsz]; simp)) w (by omega) (by omega) _ (by simp [dec, valLow] <;> (split <;> split <;> omega))
    · exact read2_1 s 2 lo hi _ (by rw [hsz]; rfl) a b (str_get hx 0 (by simp) (by rw [hsz]; simp)) (str_get hx 1 (by simp) (by rw [hsz]; simp)) w (by omega) (by omega) _ (by simp [dec, valLow] <;> (split <;> split <;> omega))
  · obtain ⟨a, b, c, d, rfl⟩ : ∃ a b c d, xs = [a, b, c, d] := by
      match xs, hl with
      | [a, b, c, d], _ => exact ⟨_, _, _, _, rfl⟩
    rcases hod with rfl | rfl
    · exact read4_0 s 4 lo hi _ (by rw [hsz]; rfl) a b c d (str_get hx 0 (by simp) (by rw [hsz]; simp)) (str_get hx 1 (by simp) (by rw [hsz]; simp)) (str_get hx 2 (by simp) (by rw [hsz]; simp)) (str_get hx 3 (by simp) (by rw [hsz]; simp)) w (by omega) (by omega) _ (by simp [dec, valLow] <;> (split <;> split <;> omega))
    · exact read4_1 s 4 lo hi _ (by rw [hsz]; rfl) a b c d (str_get hx 0 (by simp) (by rw [hsz]; simp)) (str_get hx 1 (by simp) (by rw [hsz]; simp)) (str_get hx 2 (by simp) (by rw [hsz]; simp)) (str_get hx 3 (by simp) (by rw [hsz]; simp)) w (by omega) (by omega) _ (by simp [dec, valLow] <;> (split <;> split <;> omega))
end Go.Proofs.YtbbblopackffiaaDoor
