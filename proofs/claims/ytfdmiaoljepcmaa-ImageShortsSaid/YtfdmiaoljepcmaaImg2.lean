/- Layer 25: how often the first byte stands there; how many bytes there are up to a run. -/
import Derived.Test.YtfdmiaoljepcmaaImg1
import Derived.Laws.Strings2
import Derived.Laws.Strings3
import Derived.Lib.SlicesS
namespace Go.Proofs.Ytfdmiaoljepcmaa
open Go Go.RowKit
set_option linter.unusedSimpArgs false
set_option linter.unusedVariables false

/-- The first byte stands there n times, one behind the other, at most 130. -/
structure IsRun (l : List Int) (n : Nat) : Prop where
  pos : 1 ≤ n
  most : n ≤ 130
  len : n ≤ l.length
  alike : ∀ j, j < n → l.getD j 0 = l.getD 0 0
  ends : n = l.length ∨ n = 130 ∨ ¬ l.getD n 0 = l.getD 0 0
theorem IsRun.le {l : List Int} {n m : Nat} (h : IsRun l n) (k : IsRun l m) : n ≤ m := by
  rcases Nat.lt_or_ge m n with q | q
  · rcases k.ends with e | e | e
    · have := h.len; omega
    · have := h.most; omega
    · exact absurd (h.alike m q) e
  · exact q
theorem IsRun.unique {l : List Int} {n m : Nat} (h : IsRun l n) (k : IsRun l m) : n = m := Nat.le_antisymm (h.le k) (k.le h)
theorem getD_byte {xs : List Int} (h : IsBytes xs) (k : Nat) : 0 ≤ xs.getD k 0 ∧ xs.getD k 0 < 256 := by
  rw [List.getD_eq_getElem?_getD]
  by_cases hk : k < xs.length
  · rw [List.getElem?_eq_getElem hk]; exact h _ (List.getElem_mem hk)
  · rw [List.getElem?_eq_none (by omega)]; simp
theorem str_at {xs : List Int} (h : IsBytes xs) (k : Nat) (hk : k < xs.length) (hk' : k < (strOfNums xs).size) : (((strOfNums xs)[k]'hk').toNat : Int) = xs.getD k 0 := by
  rw [str_get h k hk hk', List.getD_eq_getElem?_getD, List.getElem?_eq_getElem hk]; rfl

set_option maxRecDepth 100000 in
set_option maxHeartbeats 1000000 in
theorem run_any (l : List Int) (w : World) (hb : IsBytes l) (h0 : 0 < l.length) (hl : l.length ≤ 1000000) :
    Calls Try.prog 16 #[.string (strOfNums l)] w fun e w' => ∃ n : Nat, e = .returned (i6 n) ∧ IsRun l n ∧ Below w.heap.size w w' := by
  have hq := Below.refl w.heap.size w
  have hsz := strOfNums_size l
  have HB := Lib.hid hb
  clear hb
  go_enter Try.func16, Try.ntmps16
  go_wp2_with fail
  go_loopw [3] (fun n wr => ∃ k : Nat, n = .int .i64 k ∧ 1 ≤ k ∧ k ≤ 130 ∧ k ≤ l.length ∧ Hid (∀ j, j < k → l.getD j 0 = l.getD 0 0) ∧ Below w.heap.size w wr)
    (fun n _ => 130 - (intOf n).toNat)
  case atStart => exact ⟨1, rfl, by omega, by omega, by omega, Lib.hid (fun j hj => by rw [show j = 0 by omega]), hq⟩
  case round =>
    clear hq
    obtain ⟨k, rfl, hk1, hk2, hk3, hall, hnx⟩ := hrel
    have hi0 : (0 : Int) < (l.length : Int) := by omega
    have hg0 : (((strOfNums l)[0]'(by omega)).toNat : Int) = l.getD 0 0 := str_at HB.out 0 (by omega) (by omega)
    by_cases hlt : k < l.length
    · have t1 : decide ((k : Int) < (l.length : Int)) = true := decide_eq_true (by omega)
      have u1 : (k : Int) < (l.length : Int) := by omega
      have hgk : (((strOfNums l)[k]'(by omega)).toNat : Int) = l.getD k 0 := str_at HB.out k hlt (by omega)
      by_cases h130 : k < 130
      · have t2 : decide ((k : Int) < 130) = true := decide_eq_true (by omega)
        have u2 : (k : Int) < 130 := by omega
        by_cases he : l.getD k 0 = l.getD 0 0
        · have hall' : Hid (∀ j, j < k + 1 → l.getD j 0 = l.getD 0 0) := Lib.hid (fun j hj => by
            by_cases e : j = k
            · rw [e]; exact he
            · exact hall.out j (by omega))
          rw [he] at hgk
          clear hall he
          generalize l.getD 0 0 = x at hg0 hgk hall'
          go_wp2_with fail
          go_quiet (fail)
          have hq2 : Below w.heap.size w (wr.drewN nq) := q_drewN _ hnx
          go_wp2_with fail
          go_roundw
          case rel => exact ⟨k + 1, by go_num, by omega, by omega, by omega, hall', hq2⟩
          case measure => simp [intOf]; omega
        · have HF : IsRun l k := ⟨hk1, hk2, hk3, hall.out, .inr (.inr he)⟩
          have he' : decide (l.getD k 0 = l.getD 0 0) = false := decide_eq_false he
          generalize l.getD 0 0 = x at hg0 he he'
          generalize l.getD k 0 = y at hgk he he'
          clear hall
          go_wp2_with fail
          go_quiet (fail)
          have hq2 : Below w.heap.size w (wr.drewN nq) := q_drewN _ hnx
          go_wp2_with fail
          go_returns
          exact ⟨k, by first | rfl | (simp; done), HF, hq2⟩
      · have HF : IsRun l k := ⟨hk1, hk2, hk3, hall.out, .inr (.inl (by omega))⟩
        have t2 : decide ((k : Int) < 130) = false := decide_eq_false (by omega)
        clear hall hg0 hgk
        go_wp2_with fail
        go_quiet (fail)
        have hq2 : Below w.heap.size w (wr.drewN nq) := q_drewN _ hnx
        go_wp2_with fail
        go_returns
        exact ⟨k, by first | rfl | (simp; done), HF, hq2⟩
    · have HF : IsRun l k := ⟨hk1, hk2, hk3, hall.out, .inl (by omega)⟩
      have t1 : decide ((k : Int) < (l.length : Int)) = false := decide_eq_false (by omega)
      clear hall hg0
      go_wp2_with fail
      go_quiet (fail)
      have hq2 : Below w.heap.size w (wr.drewN nq) := q_drewN _ hnx
      go_wp2_with fail
      go_returns
      exact ⟨k, by first | rfl | (simp; done), HF, hq2⟩

theorem drop_bytes_len (l : List Int) (k : Nat) : (l.drop k).length = l.length - k := List.length_drop

/-- There are n bytes up to a run, at most 128. -/
structure IsPlain (l : List Int) (n : Nat) : Prop where
  most : n ≤ 128
  len : n ≤ l.length
  short : ∀ j, j < n → ∃ m, IsRun (l.drop j) m ∧ m < 3
  ends : n = l.length ∨ n = 128 ∨ ∃ m, IsRun (l.drop n) m ∧ 3 ≤ m
theorem IsPlain.le {l : List Int} {n m : Nat} (h : IsPlain l n) (k : IsPlain l m) : n ≤ m := by
  rcases Nat.lt_or_ge m n with q | q
  · rcases k.ends with e | e | ⟨r, hr, hr3⟩
    · have := h.len; omega
    · have := h.most; omega
    · obtain ⟨r', hr', hr3'⟩ := h.short m q
      have := hr.unique hr'
      omega
  · exact q
theorem IsPlain.unique {l : List Int} {n m : Nat} (h : IsPlain l n) (k : IsPlain l m) : n = m := Nat.le_antisymm (h.le k) (k.le h)

theorem str_from (l : List Int) (k : Nat) : (strOfNums l).extract k l.length = strOfNums (l.drop k) := by
  rw [str_extract, List.take_of_length_le (by rw [List.length_drop]; omega)]

set_option maxRecDepth 100000 in
set_option maxHeartbeats 1000000 in
theorem plain_any (l : List Int) (w : World) (hb : IsBytes l) (hl : l.length ≤ 1000000) :
    Calls Try.prog 18 #[.string (strOfNums l)] w fun e w' => ∃ n : Nat, e = .returned (i6 n) ∧ IsPlain l n ∧ Below w.heap.size w w' := by
  have hq := Below.refl w.heap.size w
  have hsz := strOfNums_size l
  have HB := Lib.hid hb
  clear hb
  go_enter Try.func18, Try.ntmps18
  go_wp2_with fail
  go_loopw [3] (fun n wr => ∃ k : Nat, n = .int .i64 k ∧ k ≤ 128 ∧ k ≤ l.length ∧ Hid (∀ j, j < k → ∃ m, IsRun (l.drop j) m ∧ m < 3) ∧ Below w.heap.size w wr)
    (fun n _ => 128 - (intOf n).toNat)
  case atStart => exact ⟨0, rfl, by omega, by omega, Lib.hid (fun j hj => absurd hj (Nat.not_lt_zero _)), hq⟩
  case round =>
    clear hq
    obtain ⟨k, rfl, hk2, hk3, hall, hnx⟩ := hrel
    by_cases hlt : k < l.length
    · have u1 : (k : Int) < (l.length : Int) := by omega
      by_cases h128 : k < 128
      · have u2 : (k : Int) < 128 := by omega
        have hsl := fun ww => run_slice_string_from_if (P := Try.prog) ww 9 (strOfNums l) .i64 (k : Int) und_string
        have hex := str_from l k
        have hdl : (l.drop k).length = l.length - k := List.length_drop
        have hke : (k : Int) ≤ (l.length : Int) := by omega
        go_wp2_with fail
        refine (run_any (l.drop k) _ (HB.out.drop k) (by omega) (by omega)).mono ?_
        rintro e W2 ⟨n, rfl, hr, hb2⟩
        have hq2 := q_step hnx hb2
        by_cases h3 : n < 3
        · have u3 : (n : Int) < 3 := by omega
          have hall' : Hid (∀ j, j < k + 1 → ∃ m, IsRun (l.drop j) m ∧ m < 3) := Lib.hid (fun j hj => by
            by_cases e : j = k
            · rw [e]; exact ⟨n, hr, h3⟩
            · exact hall.out j (by omega))
          clear hall hsl hex
          go_wp2_with fail
          go_roundw
          case rel => exact ⟨k + 1, by go_num, by omega, by omega, hall', hq2⟩
          case measure => simp [intOf]; omega
        · have HF : IsPlain l k := ⟨hk2, hk3, hall.out, .inr (.inr ⟨n, hr, by omega⟩)⟩
          have u3 : ¬ (n : Int) < 3 := by omega
          clear hall hsl hex
          go_wp2_with fail
          go_returns
          exact ⟨k, by first | rfl | (simp; done), HF, hq2⟩
      · have HF : IsPlain l k := ⟨hk2, hk3, hall.out, .inr (.inl (by omega))⟩
        have u2 : ¬ (k : Int) < 128 := by omega
        clear hall
        go_wp2_with fail
        go_returns
        exact ⟨k, by first | rfl | (simp; done), HF, hnx⟩
    · have HF : IsPlain l k := ⟨hk2, hk3, hall.out, .inl (by omega)⟩
      clear hall
      go_wp2_with fail
      go_returns
      exact ⟨k, by first | rfl | (simp; done), HF, hnx⟩
end Go.Proofs.Ytfdmiaoljepcmaa
