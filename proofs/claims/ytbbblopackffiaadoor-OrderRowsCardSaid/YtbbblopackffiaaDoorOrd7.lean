/- Layer 1: the chapter's example; a text the other way round. -/
import Derived.Test.YtbbblopackffiaaDoorOrd6
import Derived.Laws.Strings2
import Derived.Laws.Concat
namespace Go.Proofs.YtbbblopackffiaaDoor
open Go Go.RowKit
set_option linter.unusedSimpArgs false
set_option linter.unusedVariables false

theorem span2 : IsSpan 2 2 0 65535 := by simp [IsSpan]
theorem spanm2 : IsSpan (-2) 2 (-32768) 32767 := by simp [IsSpan]
theorem res_a : rowRes 0 2 0 65535 [258] = .tuple #[.string ⟨#[2, 1]⟩, i6 0] := by rfl
theorem res_b : rowRes 1 2 (-32768) 32767 [-2] = .tuple #[.string ⟨#[255, 254]⟩, i6 0] := by rfl

set_option maxRecDepth 100000 in
theorem awake_any (w : World) (hs : RowAt 0 spanCells w) :
    Calls Tryd.prog 18 #[] w fun e w' => e = .returned (.bool true) ∧ Below w.heap.size w w' := by
  go_enter Tryd.func18, Tryd.ntmps18
  go_wp2_with fail
  refine (put_ok 0 2 2 0 65535 258 _ hs (by omega) span2).mono ?_
  rw [res_a]
  rintro e w1 ⟨rfl, hq⟩
  go_wp2_with fail
  refine (put_ok 1 (-2) 2 (-32768) 32767 (-2) _ (hs.below hq) (by omega) spanm2).mono ?_
  rw [res_b]
  rintro e w2 ⟨rfl, hq2⟩
  have hq1 := q_step hq hq2
  go_wp2_with fail
  refine (pad_pos 5 _ (by omega)).mono ?_
  rintro e w3 ⟨rfl, rfl⟩
  go_wp2_with fail
  go_returns
  exact ⟨by first | rfl | (simp; done), hq1⟩

theorem take_rev (xs : List Int) (k : Nat) (hk : k < xs.length) : (xs.take (k + 1)).reverse = xs.getD k 0 :: (xs.take k).reverse := by
  rw [List.take_add_one, List.getD_eq_getElem?_getD, List.getElem?_eq_getElem hk]
  simp
theorem drop_one (xs : List Int) (k : Nat) (hk : k < xs.length) : (xs.drop k).take 1 = [xs.getD k 0] := by
  rw [List.getD_eq_getElem?_getD, List.getElem?_eq_getElem hk, List.drop_eq_getElem_cons hk]
  rfl

set_option maxRecDepth 100000 in
theorem turned_any (xs : List Int) (w : World) (hl : xs.length ≤ 1000000) :
    Calls Tryd.prog 26 #[.string (strOfNums xs)] w fun e w' => e = .returned (.string (strOfNums xs.reverse)) ∧ w = w' := by
  have hsz := strOfNums_size xs
  go_enter Tryd.func26, Tryd.ntmps26
  go_wp2_with fail
  go_loopw [3, 4] (fun s i wr => ∃ k : Nat, k ≤ xs.length ∧ i = .int .i64 k ∧ s = .string (strOfNums (xs.take k).reverse) ∧ wr = w)
    (fun _ i _ => xs.length - (intOf i).toNat)
  case atStart => exact ⟨0, Nat.zero_le _, rfl, rfl, rfl⟩
  case round =>
    obtain ⟨k, hk, rfl, rfl, rfl⟩ := hrel
    by_cases hlt : k < xs.length
    · have hex : (strOfNums xs).extract k (k + 1) = strOfNums [xs.getD k 0] := by
        rw [str_extract, Nat.add_sub_cancel_left, drop_one xs k hlt]
      have hsl := fun ww => run_slice_string (P := Tryd.prog) ww 9 (strOfNums xs) .i64 .i64 k (k + 1) und_string (by omega) (by omega) (by rw [hsz]; omega)
      have hz1 : (strOfNums [xs.getD k 0]).size = 1 := strOfNums_size _
      have hz2 := strOfNums_size (xs.take k).reverse
      have hz3 : (xs.take k).reverse.length = k := by simp; omega
      rw [hz3] at hz2
      have hrev : strOfNums [xs.getD k 0] ++ strOfNums (xs.take k).reverse = strOfNums (xs.take (k + 1)).reverse := by
        rw [str_append, take_rev xs k hlt]; rfl
      have hns : ¬ 9223372036854775807 < 1 + k := by omega
      generalize xs.getD k 0 = x at hex hz1 hrev
      go_wp2_with fail
      go_roundw
      case rel => exact ⟨k + 1, by omega, by go_num, by first | rfl | (simp; done), by trivial⟩
      case measure => simp [intOf]; omega
    · have hkl : k = xs.length := by omega
      subst hkl
      rw [List.take_length]
      go_wp2_with fail
      go_returns
      exact ⟨rfl, rfl⟩
end Go.Proofs.YtbbblopackffiaaDoor
