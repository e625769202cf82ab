/- Layer 25: what parts say. -/
import Derived.Test.YtfdmiaoljepcmaaImg3
namespace Go.Proofs.Ytfdmiaoljepcmaa
open Go Go.RowKit
set_option linter.unusedSimpArgs false
set_option linter.unusedVariables false

abbrev strOk (xs : List Int) : Value := .tuple #[.string (strOfNums xs), i6 0]
abbrev strErr (k : Int) : Value := .tuple #[.string ⟨#[]⟩, i6 k]

theorem repeat_one (x : Int) : ∀ c : Nat, Lib.repeatL [UInt8.ofNat x.toNat] c = (List.replicate c x).map fun (n : Int) => UInt8.ofNat n.toNat
  | 0 => rfl
  | c + 1 => by
    have ih := repeat_one x c
    rw [List.map_replicate] at ih ⊢
    rw [Lib.repeatL, ih, List.replicate_succ]
    rfl
theorem repeat_any (x : Int) (c : Nat) (w : World) (hc : c ≤ 1000) :
    Calls Try.prog 20 #[.string (strOfNums [x]), i6 c] w fun e w' => e = .returned (.string (strOfNums (List.replicate c x))) ∧ Below w.heap.size w w' := by
  have hsz := strOfNums_size [x]
  have := Try.strings_Repeat (strOfNums [x]) c w (by omega) (by rw [hsz]; simp; omega)
  rw [strOfNums_data, List.map_cons, List.map_nil, repeat_one] at this
  exact this

/-- The first part of s says b, and has n bytes. -/
def PartIs (s b : List Int) (n : Nat) : Prop :=
  (128 ≤ s.getD 0 0 ∧ 2 ≤ s.length ∧ b = List.replicate (s.getD 0 0 - 125).toNat (s.getD 1 0) ∧ n = 2) ∨
  (s.getD 0 0 < 128 ∧ s.getD 0 0 + 2 ≤ (s.length : Int) ∧ b = (s.drop 1).take ((s.getD 0 0).toNat + 1) ∧ n = (s.getD 0 0).toNat + 2)
/-- It ends ahead of its end. -/
def NoPart (s : List Int) : Prop := 0 < s.length ∧ (128 ≤ s.getD 0 0 ∧ s.length < 2 ∨ s.getD 0 0 < 128 ∧ (s.length : Int) < s.getD 0 0 + 2)

theorem drop_at (s : List Int) (k : Nat) (hk : k < s.length) : (s.drop k).take 1 = [s.getD k 0] := by
  rw [List.getD_eq_getElem?_getD, List.getElem?_eq_getElem hk, List.drop_eq_getElem_cons hk]
  rfl

set_option maxRecDepth 100000 in
set_option maxHeartbeats 1000000 in
theorem part_run (s : List Int) (w : World) (hb : IsBytes s) (h0 : 2 ≤ s.length) (hl : s.length ≤ 1000000) (h : 128 ≤ s.getD 0 0) :
    Calls Try.prog 12 #[.string (strOfNums s)] w fun e w' => e = .returned (.tuple #[.string (strOfNums (List.replicate (s.getD 0 0 - 125).toNat (s.getD 1 0))), i6 2]) ∧ Below w.heap.size w w' := by
  have hsz := strOfNums_size s
  have hx := getD_byte hb 0
  have hg0 : (((strOfNums s)[0]'(by omega)).toNat : Int) = s.getD 0 0 := str_at hb 0 (by omega) (by omega)
  have hsl := fun ww => run_slice_string (P := Try.prog) ww 9 (strOfNums s) .i64 .i64 1 2 und_string (by omega) (by omega) (by rw [hsz]; omega)
  rw [str_extract, show (Int.toNat 2 - Int.toNat 1) = 1 from rfl, show Int.toNat 1 = 1 from rfl, drop_at s 1 (by omega)] at hsl
  generalize s.getD 1 0 = y at hsl
  generalize s.getD 0 0 = x at hx hg0 h
  have f1 : IntKind.i64.wrap x = x := IntWalk.i64_in _ (by omega)
  obtain ⟨c, hc⟩ : ∃ c : Nat, (c : Int) = x - 125 := ⟨(x - 125).toNat, by omega⟩
  have f2 : IntKind.i64.wrap (x - 125) = (c : Int) := by rw [hc]; exact IntWalk.i64_in _ (by omega)
  have f3 : (x - 125).toNat = c := by omega
  have g1 : (2 : Int) ≤ (s.length : Int) := by omega
  rw [f3]
  have HC := Lib.hid hc
  clear hc f3
  go_enter Try.func12, Try.ntmps12
  go_wp2_with fail
  refine (repeat_any y c _ (by have := HC.out; omega)).mono ?_
  rintro e w1 ⟨rfl, hq⟩
  go_wp2_with fail
  go_returns
  exact ⟨by first | rfl | (simp; done), hq⟩

set_option maxRecDepth 100000 in
set_option maxHeartbeats 1000000 in
theorem part_plain (s : List Int) (w : World) (hb : IsBytes s) (h0 : s.getD 0 0 + 2 ≤ (s.length : Int)) (hl : s.length ≤ 1000000) (h : s.getD 0 0 < 128) :
    Calls Try.prog 12 #[.string (strOfNums s)] w fun e w' => e = .returned (.tuple #[.string (strOfNums ((s.drop 1).take ((s.getD 0 0).toNat + 1))), i6 (s.getD 0 0 + 2)]) ∧ Below w.heap.size w w' := by
  have hq := Below.refl w.heap.size w
  have hsz := strOfNums_size s
  have hx := getD_byte hb 0
  have hg0 : (((strOfNums s)[0]'(by omega)).toNat : Int) = s.getD 0 0 := str_at hb 0 (by omega) (by omega)
  have hsl := fun ww => run_slice_string (P := Try.prog) ww 9 (strOfNums s) .i64 .i64 1 (s.getD 0 0 + 2) und_string (by omega) (by omega) (by rw [hsz]; omega)
  rw [str_extract, show Int.toNat 1 = 1 from rfl, show (s.getD 0 0 + 2).toNat - 1 = (s.getD 0 0).toNat + 1 by omega] at hsl
  generalize (s.drop 1).take ((s.getD 0 0).toNat + 1) = ys at hsl ⊢
  obtain ⟨x, hxe⟩ : ∃ x, s.getD 0 0 = x := ⟨_, rfl⟩
  rw [hxe] at hx hg0 h h0 hsl ⊢
  clear hxe
  have f1 : IntKind.i64.wrap x = x := IntWalk.i64_in _ (by omega)
  have f2 : IntKind.i64.wrap (x + 2) = x + 2 := IntWalk.i64_in _ (by omega)
  have g1 : ¬ (128 : Int) ≤ x := by omega
  go_enter Try.func12, Try.ntmps12
  go_wp2_with fail
  go_returns
  exact ⟨by first | rfl | (simp; done), hq⟩

set_option maxRecDepth 100000 in
set_option maxHeartbeats 1000000 in
theorem part_none (s : List Int) (w : World) (hb : IsBytes s) (hl : s.length ≤ 1000000) (h : NoPart s) :
    Calls Try.prog 12 #[.string (strOfNums s)] w fun e w' => e = .returned (.tuple #[.string ⟨#[]⟩, i6 0]) ∧ Below w.heap.size w w' := by
  have hq := Below.refl w.heap.size w
  have hsz := strOfNums_size s
  have hx := getD_byte hb 0
  obtain ⟨h0, h⟩ := h
  have hg0 : (((strOfNums s)[0]'(by omega)).toNat : Int) = s.getD 0 0 := str_at hb 0 (by omega) (by omega)
  generalize s.getD 0 0 = x at hx hg0 h
  have f1 : IntKind.i64.wrap x = x := IntWalk.i64_in _ (by omega)
  have f2 : IntKind.i64.wrap (x + 2) = x + 2 := IntWalk.i64_in _ (by omega)
  rcases h with ⟨h1, h2⟩ | ⟨h1, h2⟩
  · have g1 : ¬ (2 : Int) ≤ (s.length : Int) := by omega
    have g2 : ¬ x < 128 := by omega
    go_enter Try.func12, Try.ntmps12
    go_wp2_with fail
    go_returns
    exact ⟨by first | rfl | (simp; done), hq⟩
  · have g1 : ¬ (128 : Int) ≤ x := by omega
    have g2 : ¬ x + 2 ≤ (s.length : Int) := by omega
    go_enter Try.func12, Try.ntmps12
    go_wp2_with fail
    go_returns
    exact ⟨by first | rfl | (simp; done), hq⟩
end Go.Proofs.Ytfdmiaoljepcmaa
