/- Layer 25: the document's examples; the walks of ImageJoins and ImageBack. -/
import Derived.Test.YtfdmiaoljepcmaaImg6
import Derived.Deep.OwnRows
import Derived.Laws.OwnMore
import Derived.Laws.Concat
namespace Go.Proofs.Ytfdmiaoljepcmaa
open Go Go.RowKit
set_option linter.unusedSimpArgs false
set_option linter.unusedVariables false

theorem short_nil {s : List Int} (h : ShortOf [] s) : s = [] := by
  generalize hE : ([] : List Int) = E at h
  cases h with
  | nil => rfl
  | run q => subst hE; simp at q
  | plain q => subst hE; simp at q
theorem short_unique {l s : List Int} (h : ShortOf l s) : ∀ {s' : List Int}, ShortOf l s' → s = s' := by
  induction h with
  | nil => intro s' h'; exact (short_nil h').symm
  | @run l s n h0 hr h3 hs ih =>
    intro s' h'
    cases h' with
    | nil => simp at h0
    | run _ hr' _ hs' =>
      obtain rfl := hr.unique hr'
      rw [ih hs']
    | plain _ hr' h3' => have := hr.unique hr'; omega
  | @plain l s m n h0 hr h3 hp h1 hs ih =>
    intro s' h'
    cases h' with
    | nil => simp at h0
    | run _ hr' h3' => have := hr.unique hr'; omega
    | plain _ _ _ hp' _ hs' =>
      obtain rfl := hp.unique hp'
      rw [ih hs']
theorem ex_short : ShortOf [7, 7, 7, 7, 1, 2] [129, 7, 1, 1, 2] := by
  have r1 : IsRun [7, 7, 7, 7, 1, 2] 4 := ⟨by decide, by decide, by decide, by decide, by decide⟩
  have r2 : IsRun [1, 2] 1 := ⟨by decide, by decide, by decide, by decide, by decide⟩
  have r3 : IsRun [2] 1 := ⟨by decide, by decide, by decide, by decide, by decide⟩
  have p2 : IsPlain [1, 2] 2 := ⟨by decide, by decide, fun j hj => by
    match j, hj with
    | 0, _ => exact ⟨1, r2, by decide⟩
    | 1, _ => exact ⟨1, r3, by decide⟩, .inl rfl⟩
  have h2 : ShortOf [1, 2] [1, 1, 2] := ShortOf.plain (l := [1, 2]) (s := []) (n := 2) (by decide) r2 (by decide) p2 (by decide) ShortOf.nil
  exact ShortOf.run (l := [7, 7, 7, 7, 1, 2]) (s := [1, 1, 2]) (n := 4) (by decide) r1 (by decide) h2
theorem ex_long {R : Value} (h : LongIs [] [0, 9, 128, 5] R) : R = strOk [9, 5, 5, 5] := by
  have h1 := says_plain (ys := [9]) (rest := [128, 5]) (acc := []) (by decide) (by decide) (by decide) h
  have h2 := says_run (n := 3) (x := 5) (rest := []) (acc := [] ++ [9]) (by decide) (by decide) h1
  exact long_end h2
theorem bytes_ex1 : IsBytes [7, 7, 7, 7, 1, 2] := by
  intro x hx
  simp at hx
  omega
theorem bytes_ex2 : IsBytes [0, 9, 128, 5] := by
  intro x hx
  simp at hx
  omega

set_option maxRecDepth 100000 in
theorem awake_any (w : World) : Calls Try.prog 7 #[] w fun e w' => e = .returned (.bool true) ∧ Below w.heap.size w w' := by
  have HL := long_any [0, 9, 128, 5] w bytes_ex2 (by decide)
  have e1 : (strOfNums [9, 5, 5, 5]).toList = [9, 5, 5, 5] := by rw [ByteArray.toList_eq]; rfl
  have e2 : (strOfNums [129, 7, 1, 1, 2]).toList = [129, 7, 1, 1, 2] := by rw [ByteArray.toList_eq]; rfl
  go_enter Try.func7, Try.ntmps7
  go_wp2_with fail
  refine HL.mono ?_
  rintro e w1 ⟨R, rfl, hR, hq⟩
  obtain rfl := ex_long hR
  clear hR HL
  go_wp2_with fail
  refine (short_any [7, 7, 7, 7, 1, 2] w1 bytes_ex1 (by decide)).mono ?_
  rintro e w2 ⟨s, rfl, hs, hsb, hq2⟩
  obtain rfl := short_unique hs ex_short
  have hq3 := q_step hq hq2
  clear hs hsb
  go_wp2_with fail
  go_returns
  exact ⟨by first | rfl | (simp; done) | decide, hq3⟩

/-- Long, of a short form. -/
theorem long_back {l s : List Int} (w : World) (h : ShortOf l s) (hb : IsBytes s) (hl : l.length ≤ 65536) :
    Calls Try.prog 8 #[.string (strOfNums s)] w fun e w' => e = .returned (strOk l) ∧ Below w.heap.size w w' := by
  have hlen := (short_len h).1
  refine (long_any s w hb (by omega)).mono ?_
  rintro e w' ⟨R, rfl, hR, hq⟩
  exact ⟨by rw [back h hl hR], hq⟩
theorem long_join {a b s t : List Int} (w : World) (h : ShortOf a s) (k : ShortOf b t) (hs : IsBytes s) (ht : IsBytes t) (ha : a.length ≤ 5000) (hb : b.length ≤ 5000) :
    Calls Try.prog 8 #[.string (strOfNums (s ++ t))] w fun e w' => e = .returned (strOk (a ++ b)) ∧ Below w.heap.size w w' := by
  have hlen := (short_len h).1
  have hlen2 := (short_len k).1
  refine (long_any (s ++ t) w (hs.append ht) (by rw [List.length_append]; omega)).mono ?_
  rintro e w' ⟨R, rfl, hR, hq⟩
  exact ⟨by rw [join h k (by omega) hR], hq⟩

set_option maxRecDepth 100000 in
set_option maxHeartbeats 1000000 in
theorem ljoins_any (a b : List Int) (w : World) (ha : IsBytes a) (hb : IsBytes b) :
    Calls Try.prog 3 #[.string (strOfNums a), .string (strOfNums b)] w fun e w' => e = .returned (.bool true) ∧ Below w.heap.size w w' := by
  have hsa := strOfNums_size a
  have hsb := strOfNums_size b
  have HA := Lib.hid ha
  have HB := Lib.hid hb
  clear ha hb
  by_cases h1 : 5000 < a.length
  · have g1 : (5000 : Int) < (a.length : Int) := by omega
    go_enter Try.func3, Try.ntmps3
    go_wp2_with fail
    refine (awake_any _).mono ?_
    rintro e w1 ⟨rfl, hq⟩
    go_wp2_with fail
    go_returns
    exact ⟨by first | rfl | (simp; done), hq⟩
  have g1 : ¬ (5000 : Int) < (a.length : Int) := by omega
  by_cases h2 : 5000 < b.length
  · have g2 : (5000 : Int) < (b.length : Int) := by omega
    go_enter Try.func3, Try.ntmps3
    go_wp2_with fail
    refine (awake_any _).mono ?_
    rintro e w1 ⟨rfl, hq⟩
    go_wp2_with fail
    go_returns
    exact ⟨by first | rfl | (simp; done), hq⟩
  have g2 : ¬ (5000 : Int) < (b.length : Int) := by omega
  go_enter Try.func3, Try.ntmps3
  go_wp2_with fail
  refine (short_any a _ HA.out (by omega)).mono ?_
  rintro e w1 ⟨s, rfl, hs, hsb1, hq1⟩
  have HS := Lib.hid hs
  have HSB := Lib.hid hsb1
  have hl1 := (short_len hs).1
  clear hs hsb1
  go_wp2_with fail
  refine (short_any b _ HB.out (by omega)).mono ?_
  rintro e w2 ⟨t, rfl, ht, htb1, hq2⟩
  have HT := Lib.hid ht
  have HTB := Lib.hid htb1
  have hl2 := (short_len ht).1
  have hq3 := q_step hq1 hq2
  clear ht htb1 hq1 hq2
  have hss := strOfNums_size s
  have hts := strOfNums_size t
  have n1 : ¬ 9223372036854775807 < s.length + t.length := by omega
  have n2 : ¬ 9223372036854775807 < a.length + b.length := by omega
  have j1 := str_append s t
  have j2 := str_append a b
  go_wp2_with fail
  refine (long_join _ HS.out HT.out HSB.out HTB.out (by omega) (by omega)).mono ?_
  rintro e w3 ⟨rfl, hb3⟩
  have hq4 := q_step hq3 hb3
  clear j1
  go_wp2_with fail
  refine (awake_any _).mono ?_
  rintro e w4 ⟨rfl, hb4⟩
  have hq5 := q_step hq4 hb4
  go_wp2_with fail
  go_returns
  exact ⟨by first | rfl | (simp; done), hq5⟩
theorem ljoins_str (a b : ByteArray) (w : World) :
    Calls Try.prog 3 #[.string a, .string b] w fun e w' => e = .returned (.bool true) ∧ Below w.heap.size w w' := by
  have := ljoins_any (numsOf a) (numsOf b) w (numsOf_bytes a) (numsOf_bytes b)
  rwa [str_numsOf, str_numsOf] at this
end Go.Proofs.Ytfdmiaoljepcmaa
