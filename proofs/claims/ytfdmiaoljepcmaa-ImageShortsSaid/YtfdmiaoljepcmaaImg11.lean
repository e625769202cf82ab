/- Layer 25: the walk of ImageShorts. -/
import Derived.Test.YtfdmiaoljepcmaaImg10
import Derived.Laws.IdiomStrings
namespace Go.Proofs.Ytfdmiaoljepcmaa
open Go Go.RowKit
set_option linter.unusedSimpArgs false
set_option linter.unusedVariables false

theorem part_unique {s b b' : List Int} {n n' : Nat} (h : PartIs s b n) (k : PartIs s b' n') : b = b' ∧ n = n' := by
  rcases h with ⟨h1, _, rfl, rfl⟩ | ⟨h1, _, rfl, rfl⟩ <;> rcases k with ⟨k1, _, rfl, rfl⟩ | ⟨k1, _, rfl, rfl⟩
  · exact ⟨rfl, rfl⟩
  · omega
  · omega
  · exact ⟨rfl, rfl⟩
theorem part_not {s b : List Int} {n : Nat} (h : PartIs s b n) (k : NoPart s) : False := by
  obtain ⟨_, ⟨k1, k2⟩ | ⟨k1, k2⟩⟩ := k <;> rcases h with ⟨h1, h2, _, _⟩ | ⟨h1, h2, _, _⟩ <;> omega
theorem long_unique {acc s : List Int} {R : Value} (h : LongIs acc s R) : ∀ {R' : Value}, LongIs acc s R' → R = R' := by
  induction h with
  | nil =>
    intro R' h'
    exact (long_end h').symm
  | short hn =>
    intro R' h'
    cases h' with
    | nil => simp [NoPart] at hn
    | short => rfl
    | long _ hp => exact (part_not hp hn).elim
    | step _ hp => exact (part_not hp hn).elim
  | long h0 hp hb =>
    intro R' h'
    cases h' with
    | nil => simp at h0
    | short hn => exact (part_not hp hn).elim
    | long => rfl
    | step _ hp' hb' => obtain ⟨rfl, rfl⟩ := part_unique hp hp'; omega
  | step h0 hp hb _ ih =>
    intro R' h'
    cases h' with
    | nil => simp at h0
    | short hn => exact (part_not hp hn).elim
    | long _ hp' hb' => obtain ⟨rfl, rfl⟩ := part_unique hp hp'; omega
    | step _ hp' _ hs' => obtain ⟨rfl, rfl⟩ := part_unique hp hp'; exact ih hs'
theorem long_form {acc s : List Int} {R : Value} (h : LongIs acc s R) : ∃ str k, R = .tuple #[.string str, i6 k] := by
  induction h with
  | nil => exact ⟨_, _, rfl⟩
  | short => exact ⟨_, _, rfl⟩
  | long => exact ⟨_, _, rfl⟩
  | step _ _ _ _ ih => exact ih
theorem bytes_made (w : World) (l : List Int) (hb : IsBytes l) (cap : Nat) (fr : Nat × Nat) (t : TypeId) : BytesAt (w.alloc (.cells (bytesRow (strOfNums l) cap) t fr)) w.heap.size l := by
  refine ⟨by simp [World.size_alloc], fun j hj => cell_new ?_⟩
  have hsz : (strOfNums l).data.size = l.length := strOfNums_size l
  have hj' : j < (strOfNums l).size := by rw [strOfNums_size]; exact hj
  rw [bytesRow_at _ _ j (by rw [hsz]; exact hj)]
  have := str_at hb j hj hj'
  rw [ByteArray.getElem_eq_getElem_data] at this
  rw [← this]
theorem conv_ownU {w : World} {B : Nat} {v : Value} {xs : List Int} (h : OwnU w B v xs) : (convert 28 9 v).run Try.prog w = .ok (.string (strOfNums xs)) w := by
  have hown0 := h
  obtain ⟨_, hcase⟩ := h
  rcases hcase with ⟨rfl, h0⟩ | ⟨g2, cap', cur, rfl, hg, hh, hn, hcap, hsz, htake⟩
  · obtain rfl := List.length_eq_zero_iff.1 h0
    exact run_convert_bytes_nil (P := Try.prog) w 28 5 und_bytes und_byte 0 0 9 und_string
  · refine run_convert_bytes_arg (P := Try.prog) w 28 5 und_bytes und_byte g2 0 xs.length cap' xs rfl (fun i hi => ?_) 9 und_string
    rw [Nat.zero_add, hown0.cellAt i (by simpa using hi)]
    simp [List.getD, List.getElem?_eq_getElem hi]
theorem conv_none (w : World) : (convert 28 9 (.slice none 0 0)).run Try.prog w = .ok (.string ⟨#[]⟩) w :=
  run_convert_bytes_nil (P := Try.prog) w 28 5 und_bytes und_byte 0 0 9 und_string
theorem grown_le (w : World) (l : List Int) : l.length ≤ grownCap w (strOfNums l).size 0 5 := by
  have := grownCap_ge w (strOfNums l).size 0 5
  rwa [strOfNums_size] at this ⊢

set_option maxRecDepth 100000 in
set_option maxHeartbeats 2000000 in
theorem lshorts_any (b s : List Int) (w : World) (hb : IsBytes b) (hs : IsBytes s) :
    Calls Try.prog 4 #[.string (strOfNums b), .string (strOfNums s)] w fun e w' => e = .returned (.bool true) ∧ Below w.heap.size w w' := by
  have hsb := strOfNums_size b
  have hss := strOfNums_size s
  have HB := Lib.hid hb
  have HS := Lib.hid hs
  clear hb hs
  by_cases h1 : 5000 < b.length
  · have g1 : (5000 : Int) < (b.length : Int) := by omega
    go_enter Try.func4, Try.ntmps4
    go_wp2_with fail
    refine (awake_any _).mono ?_
    rintro e w1 ⟨rfl, hq⟩
    go_wp2_with fail
    go_returns
    exact ⟨by first | rfl | (simp; done), hq⟩
  have g1 : ¬ (5000 : Int) < (b.length : Int) := by omega
  by_cases h2 : 3000 < s.length
  · have g2 : (3000 : Int) < (s.length : Int) := by omega
    go_enter Try.func4, Try.ntmps4
    go_wp2_with fail
    refine (awake_any _).mono ?_
    rintro e w1 ⟨rfl, hq⟩
    go_wp2_with fail
    go_returns
    exact ⟨by first | rfl | (simp; done), hq⟩
  have g2 : ¬ (3000 : Int) < (s.length : Int) := by omega
  go_enter Try.func4, Try.ntmps4
  go_wp2_with fail
  refine (long_any s _ HS.out (by omega)).mono ?_
  rintro e w1 ⟨R, rfl, hR, hq1⟩
  obtain ⟨str, k, rfl⟩ := long_form hR
  have HR := Lib.hid hR
  have hconv := run_bytes_of_string (P := Try.prog) w1 9 28 5 (strOfNums s) und_string und_bytes und_byte
  have hba := bytes_made w1.drew s HS.out (grownCap w1 (strOfNums s).size 0 5) ((bytesRow (strOfNums s) (grownCap w1 (strOfNums s).size 0 5)).size, (bytesRow (strOfNums s) (grownCap w1 (strOfNums s).size 0 5)).size + 1) 5
  have hq2 : Below w.heap.size w (w1.drew.alloc (.cells (bytesRow (strOfNums s) (grownCap w1 (strOfNums s).size 0 5)) 5 ((bytesRow (strOfNums s) (grownCap w1 (strOfNums s).size 0 5)).size, (bytesRow (strOfNums s) (grownCap w1 (strOfNums s).size 0 5)).size + 1))) := q_alloc (q_drew hq1) _
  have hcp := grown_le w1 s
  rw [hss] at hconv hba hq2 hcp
  generalize grownCap w1 s.length 0 5 = cp at hconv hba hq2 hcp
  generalize w1.drew.alloc (.cells (bytesRow (strOfNums s) cp) 5 ((bytesRow (strOfNums s) cp).size, (bytesRow (strOfNums s) cp).size + 1)) = W2 at hconv hba hq2
  have HBA := Lib.hid hba
  clear hR hba
  go_wp2_with fail
  refine (rlong_any s w1.heap.size cp W2 HBA.out HS.out (by omega) hcp).mono ?_
  rintro e W3 ⟨v, k', R', rfl, hR', halt, hb3⟩
  have hRR := long_unique HR.out hR'
  clear hR'
  rcases halt with ⟨rfl, acc, rfl, hv3⟩ | ⟨rfl, rfl, hk⟩
  · obtain ⟨rfl, rfl⟩ : str = strOfNums acc ∧ k = 0 := by simpa using hRR
    clear hRR
    have hq3 := q_step hq2 hb3
    clear hb3 hq2 hq1 hconv HBA HR hcp
    go_wp2_with fail
    refine (awake_any _).mono ?_
    rintro e W4 ⟨rfl, hb4⟩
    have hq4 := q_step hq3 hb4
    have hv4 := ownU_below hv3 hb4
    clear hv3
    clear hb4 hq3
    go_wp2_with fail
    refine (short_any b _ HB.out (by omega)).mono ?_
    rintro e W5 ⟨t, rfl, ht, htb, hb5⟩
    have HT := Lib.hid ht
    have hq5 := q_step hq4 hb5
    have hv5 := ownU_below hv4 hb5
    clear hv4
    clear ht htb hb5 hq4
    have hconv := run_bytes_of_string (P := Try.prog) W5 9 28 5 (strOfNums b) und_string und_bytes und_byte
    have hba := bytes_made W5.drew b HB.out (grownCap W5 (strOfNums b).size 0 5) ((bytesRow (strOfNums b) (grownCap W5 (strOfNums b).size 0 5)).size, (bytesRow (strOfNums b) (grownCap W5 (strOfNums b).size 0 5)).size + 1) 5
    have hbn : Below W5.heap.size W5 (W5.drew.alloc (.cells (bytesRow (strOfNums b) (grownCap W5 (strOfNums b).size 0 5)) 5 ((bytesRow (strOfNums b) (grownCap W5 (strOfNums b).size 0 5)).size, (bytesRow (strOfNums b) (grownCap W5 (strOfNums b).size 0 5)).size + 1))) := q_alloc (q_drew (Below.refl _ _)) _
    have hcp := grown_le W5 b
    rw [hsb] at hconv hba hbn hcp
    generalize grownCap W5 b.length 0 5 = cp2 at hconv hba hbn hcp
    generalize W5.drew.alloc (.cells (bytesRow (strOfNums b) cp2) 5 ((bytesRow (strOfNums b) cp2).size, (bytesRow (strOfNums b) cp2).size + 1)) = W6 at hconv hba hbn
    have HBA := Lib.hid hba
    have hq6 := q_step hq5 hbn
    have hv6 := ownU_below hv5 hbn
    clear hv5
    clear hba hbn
    go_wp2_with fail
    refine (rshort_any b W5.heap.size cp2 W6 HBA.out HB.out (by omega) hcp).mono ?_
    rintro e W7 ⟨v2, s2, rfl, hs2, hv2, hb7⟩
    obtain rfl := short_unique HT.out hs2
    have hq7 := q_step hq6 hb7
    have e1 := conv_ownU hv2
    have e2 := conv_ownU (ownU_below hv6 hb7)
    clear hv6
    clear hs2 hv2 hb7 hconv HT
    go_wp2_with fail
    go_returns
    exact ⟨by first | rfl | (simp; done), hq7⟩
  · obtain ⟨rfl, rfl⟩ : str = ⟨#[]⟩ ∧ k = k' := by simpa using hRR
    clear hRR hk
    have hq3 := q_step hq2 hb3
    clear hb3 hq2 hq1 hconv HBA HR hcp
    go_wp2_with fail
    refine (awake_any _).mono ?_
    rintro e W4 ⟨rfl, hb4⟩
    have hq4 := q_step hq3 hb4
    clear hb4 hq3
    go_wp2_with fail
    refine (short_any b _ HB.out (by omega)).mono ?_
    rintro e W5 ⟨t, rfl, ht, htb, hb5⟩
    have HT := Lib.hid ht
    have hq5 := q_step hq4 hb5
    clear ht htb hb5 hq4
    have hconv := run_bytes_of_string (P := Try.prog) W5 9 28 5 (strOfNums b) und_string und_bytes und_byte
    have hba := bytes_made W5.drew b HB.out (grownCap W5 (strOfNums b).size 0 5) ((bytesRow (strOfNums b) (grownCap W5 (strOfNums b).size 0 5)).size, (bytesRow (strOfNums b) (grownCap W5 (strOfNums b).size 0 5)).size + 1) 5
    have hbn : Below W5.heap.size W5 (W5.drew.alloc (.cells (bytesRow (strOfNums b) (grownCap W5 (strOfNums b).size 0 5)) 5 ((bytesRow (strOfNums b) (grownCap W5 (strOfNums b).size 0 5)).size, (bytesRow (strOfNums b) (grownCap W5 (strOfNums b).size 0 5)).size + 1))) := q_alloc (q_drew (Below.refl _ _)) _
    have hcp := grown_le W5 b
    rw [hsb] at hconv hba hbn hcp
    generalize grownCap W5 b.length 0 5 = cp2 at hconv hba hbn hcp
    generalize W5.drew.alloc (.cells (bytesRow (strOfNums b) cp2) 5 ((bytesRow (strOfNums b) cp2).size, (bytesRow (strOfNums b) cp2).size + 1)) = W6 at hconv hba hbn
    have HBA := Lib.hid hba
    have hq6 := q_step hq5 hbn
    clear hba hbn
    go_wp2_with fail
    refine (rshort_any b W5.heap.size cp2 W6 HBA.out HB.out (by omega) hcp).mono ?_
    rintro e W7 ⟨v2, s2, rfl, hs2, hv2, hb7⟩
    obtain rfl := short_unique HT.out hs2
    have hq7 := q_step hq6 hb7
    have e1 := conv_ownU hv2
    have e2 := conv_none W7
    clear hs2 hv2 hb7 hconv HT
    go_wp2_with fail
    go_returns
    exact ⟨by first | rfl | (simp; done), hq7⟩
theorem lshorts_str (a b : ByteArray) (w : World) :
    Calls Try.prog 4 #[.string a, .string b] w fun e w' => e = .returned (.bool true) ∧ Below w.heap.size w w' := by
  have := lshorts_any (numsOf a) (numsOf b) w (numsOf_bytes a) (numsOf_bytes b)
  rwa [str_numsOf, str_numsOf] at this
end Go.Proofs.Ytfdmiaoljepcmaa
