/- Layer 7: the document's answer to Fresh; the walk of IdentFresh. -/
import Derived.Test.YtipgmhldlobjdaaId5
import Derived.Test.YtipgmhldlobjdaaInts
namespace Go.Proofs.Ytipgmhldlobjdaa
open Go Go.RowKit Go.Maps
set_option linter.unusedSimpArgs false
set_option linter.unusedVariables false

theorem rfresh_no (c : Int) (v : Value) (w : World) (h : c < 1 ∨ 8 < c) :
    Calls Try.prog 16 #[i6 c, v] w fun e w' => e = .returned (u3 0) ∧ w = w' := by
  by_cases c1 : c < 1
  · go_enter Try.func16, Try.ntmps16
    go_wp2_with fail
    go_returns
    exact ⟨rfl, rfl⟩
  · have c2 : 8 < c := by omega
    go_enter Try.func16, Try.ntmps16
    go_wp2_with fail
    go_returns
    exact ⟨rfl, rfl⟩

theorem rfresh_none (c : Int) (a : Option Addr) (cap : Nat) (w : World) (hcl : 1 ≤ c) (hcl' : c ≤ 8) :
    Calls Try.prog 16 #[i6 c, .slice a 0 cap] w fun e w' => e = .returned (u3 (freshOf (c * 1048576) [])) ∧ w = w' := by
  have hl : Least (c * 1048576) [] (c * 1048576 + 1) := ⟨by omega, by omega, by simp, fun x h1 h2 => by omega⟩
  rw [freshOf_least hl]
  have c1 : ¬ c < 1 := by omega
  have c2 : ¬ 8 < c := by omega
  have e0 : IntKind.i64.wrap (c * 1048576) = c * 1048576 := i64_in (by omega) (by omega)
  have e1 : IntKind.i64.wrap (c * 1048576 + 1) = c * 1048576 + 1 := i64_in (by omega) (by omega)
  have e2 : IntKind.u32.wrap (c * 1048576 + 1) = c * 1048576 + 1 := u32_in (by omega) (by omega)
  go_enter Try.func16, Try.ntmps16
  go_wp2_with fail
  refine wp_loop_rounds 1 ?_
  rw [rounds_succ]
  go_wp2_with fail
  refine wp_loop_rounds 1 ?_
  rw [rounds_succ]
  go_wp2_with fail
  go_returns
  exact ⟨rfl, rfl⟩

set_option maxRecDepth 100000 in
set_option maxHeartbeats 2000000 in
theorem rfresh_some (c : Int) (b off len cap : Nat) (us : List Int) (w : World) (hcl : 1 ≤ c) (hcl' : c ≤ 8) (hlen : len = us.length) (hreach : len ≤ 1000) (hb : b < w.heap.size)
    (hc : ∀ j, j < us.length → w.cell? ⟨b, off + j, none⟩ = some (u3 (us.getD j 0))) :
    Calls Try.prog 16 #[i6 c, .slice (some ⟨b, off, none⟩) len cap] w fun e w' => e = .returned (u3 (freshOf (c * 1048576) us)) ∧ w = w' := by
  subst hlen
  have HC := Lib.hid hc
  clear hc
  have c1 : ¬ c < 1 := by omega
  have c2 : ¬ 8 < c := by omega
  have e0 : IntKind.i64.wrap (c * 1048576) = c * 1048576 := i64_in (by omega) (by omega)
  go_enter Try.func16, Try.ntmps16
  go_wp2_with fail
  go_loop [5] (fun i => ∃ m : Int, i = .int .i64 m ∧ 1 ≤ m ∧ m ≤ 1048576 ∧ ∀ x, c * 1048576 < x → x < c * 1048576 + m → x ∈ us)
    (fun i => (1048576 - intOf i).toNat)
  case atStart => exact ⟨1, rfl, by omega, by omega, fun x h1 h2 => by omega⟩
  case round =>
    obtain ⟨m, rfl, hm1, hm2, hall⟩ := hrel
    by_cases hend : m < 1048576
    · have e1 : IntKind.i64.wrap (c * 1048576 + m) = c * 1048576 + m := i64_in (by omega) (by omega)
      have e2 : IntKind.u32.wrap (c * 1048576 + m) = c * 1048576 + m := u32_in (by omega) (by omega)
      have e3 : IntKind.i64.wrap (m + 1) = m + 1 := i64_in (by omega) (by omega)
      go_wp2_with fail
      go_loop [7, 8] (fun f k => ∃ (j : Nat) (t : Bool), j ≤ us.length ∧ k = .int .i64 j ∧ f = .bool t ∧ (t = true ↔ ¬ c * 1048576 + m ∈ us.take j))
        (fun _ k => us.length - (intOf k).toNat)
      case atStart => exact ⟨0, true, by omega, rfl, rfl, by simp⟩
      case round =>
        obtain ⟨j, t, hj, rfl, rfl, ht⟩ := hrel
        by_cases hlt : j < us.length
        · have hcx := HC.out j hlt
          have hst := take_step us j hlt (c * 1048576 + m)
          generalize us.getD j 0 = y at hcx hst
          have HST := Lib.hid hst
          have HT := Lib.hid ht
          clear hst ht
          cases t
          · go_wp2_with fail
            go_round
            case rel => exact ⟨j + 1, false, by omega, by go_num, rfl, by rw [← HST.out]; have ht := HT.out; simp at ht; simp [ht]⟩
            case measure => simp [intOf]; omega
          · by_cases hy : y = c * 1048576 + m
            · have hyb : (y == c * 1048576 + m) = true := by simp [hy]
              go_wp2_with fail
              go_round
              case rel => exact ⟨j + 1, false, by omega, by go_num, by first | rfl | simp [hy], by rw [← HST.out]; simp [hy]⟩
              case measure => simp [intOf]; omega
            · have hyb : (y == c * 1048576 + m) = false := by simp [hy]
              go_wp2_with fail
              go_round
              case rel => exact ⟨j + 1, true, by omega, by go_num, by first | rfl | simp [hy], by rw [← HST.out]; have ht := HT.out; simp at ht; simp [ht]; omega⟩
              case measure => simp [intOf]; omega
        · have : j = us.length := by omega
          subst this
          rw [List.take_length] at ht
          cases t
          · have hmem : c * 1048576 + m ∈ us := by simpa using ht
            have HM := Lib.hid hmem
            clear ht hmem
            go_wp2_with fail
            go_round
            case rel => exact ⟨m + 1, by first | rfl | simp [e3], by omega, by omega, fun x h1 h2 => by
              by_cases hx : x = c * 1048576 + m
              · rw [hx]; exact HM.out
              · exact hall x h1 (by omega)⟩
            case measure => simp [intOf]; omega
          · have hmem : ¬ c * 1048576 + m ∈ us := by simpa using ht
            have hl : Least (c * 1048576) us (c * 1048576 + m) := ⟨by omega, by omega, hmem, hall⟩
            have HF := Lib.hid (freshOf_least hl)
            clear ht hmem hl
            go_wp2_with fail
            go_returns
            exact ⟨by rw [HF.out]; first | rfl | simp [e1, e2], rfl⟩
    · have hf := freshOf_full (base := c * 1048576) (us := us) fun x h1 h2 => hall x h1 (by omega)
      have HF := Lib.hid hf
      clear hf
      go_wp2_with fail
      go_returns
      exact ⟨by rw [HF.out]; rfl, rfl⟩

theorem freshOf_pos {c : Int} {us : List Int} (h : 1 ≤ c) : 0 ≤ freshOf (c * 1048576) us := by
  by_cases he : ∃ g, Least (c * 1048576) us g
  · obtain ⟨g, hg⟩ := he
    rw [freshOf_least hg]
    have := hg.1
    omega
  · unfold freshOf
    rw [dif_neg he]
    omega

/-- Both answers, whatever slice is handed in. -/
theorem fresh_any (c : Int) (us : List Int) (v : Value) (w : World) (hcl : 1 ≤ c) (hcl' : c ≤ 8) (hreach : us.length ≤ 1000) (hv : IsInts w .u32 v us) (hwz : ∀ n ∈ us, 0 ≤ n ∧ n < 4294967296) :
    Calls Try.prog 15 #[i6 c, v] w fun e w' => e = .returned (freshRes (c * 1048576) us) ∧ Below w.heap.size w w' := by
  rcases hv with ⟨a, cap, rfl, rfl⟩ | ⟨b, off, cap, rfl, h0, _, _, hb, hc⟩
  · exact fresh_none c a cap w hcl hcl'
  · exact fresh_some c b off _ cap us w hcl hcl' rfl hreach hb hc hwz
theorem rfresh_any (c : Int) (us : List Int) (v : Value) (w : World) (hcl : 1 ≤ c) (hcl' : c ≤ 8) (hreach : us.length ≤ 1000) (hv : IsInts w .u32 v us) :
    Calls Try.prog 16 #[i6 c, v] w fun e w' => e = .returned (u3 (freshOf (c * 1048576) us)) ∧ w = w' := by
  rcases hv with ⟨a, cap, rfl, rfl⟩ | ⟨b, off, cap, rfl, h0, _, _, hb, hc⟩
  · exact rfresh_none c a cap w hcl hcl'
  · exact rfresh_some c b off _ cap us w hcl hcl' rfl hreach hb hc
theorem isInts_below {w w' : World} {k : IntKind} {v : Value} {us : List Int} (h : IsInts w k v us) (hb : Below w.heap.size w w') : IsInts w' k v us := by
  rcases h with h | ⟨b, off, cap, rfl, h0, h1, h2, h3, hc⟩
  · exact Or.inl h
  · exact Or.inr ⟨b, off, cap, rfl, h0, h1, h2, Nat.lt_of_lt_of_le h3 hb.size, fun j hj => (hb.cell (p := ⟨b, off + j, none⟩) h3).trans (hc j hj)⟩

set_option maxHeartbeats 1000000 in
theorem lfresh_any (c : Int) (us : List Int) (a : Option Addr) (len cap : Nat) (w : World) (hlen : us.length = len) (hl9 : len ≤ maxLen) (hv : IsInts w .u32 (.slice a len cap) us) (hwz : ∀ n ∈ us, 0 ≤ n ∧ n < 4294967296) :
    Calls Try.prog 5 #[i6 c, .slice a len cap] w fun e w' => e = .returned (.bool true) ∧ Below w.heap.size w w' := by
  have HV := Lib.hid hv
  have HW := Lib.hid hwz
  clear hv hwz
  by_cases hbig : 200 < len
  · go_enter Try.func5, Try.ntmps5
    go_wp2_with fail
    refine (awake_any _).mono ?_
    rintro e w1 ⟨rfl, hq⟩
    go_wp2_with fail
    go_returns
    exact ⟨rfl, hq⟩
  · by_cases hc : 1 ≤ c ∧ c ≤ 8
    · have hp := freshOf_pos (us := us) hc.1
      go_enter Try.func5, Try.ntmps5
      go_wp2_with fail
      refine (fresh_any c us _ _ hc.1 hc.2 (by omega) HV.out HW.out).mono ?_
      rintro e w1 ⟨rfl, hq⟩
      unfold freshRes
      generalize hF : freshOf (c * 1048576) us = f at hp
      have HF := Lib.hid hF
      clear hF
      go_wp2_with fail
      refine (rfresh_any c us _ _ hc.1 hc.2 (by omega) (isInts_below HV.out hq)).mono ?_
      rintro e w2 ⟨rfl, rfl⟩
      rw [HF.out]
      by_cases hf0 : f = 0
      · have hd : decide (0 < f) = false := decide_eq_false (by omega)
        have hd2 : (f != 0) = false := by simp [hf0]
        go_wp2_with fail
        refine (awake_any _).mono ?_
        rintro e w2 ⟨rfl, hq2⟩
        have hq3 := q_step hq hq2
        go_wp2_with fail
        go_returns
        exact ⟨by first | rfl | simp [hf0] | (simp; omega), hq3⟩
      · have hd : decide (0 < f) = true := decide_eq_true (by omega)
        have hd2 : (f != 0) = true := by simp [hf0]
        go_wp2_with fail
        refine (awake_any _).mono ?_
        rintro e w2 ⟨rfl, hq2⟩
        have hq3 := q_step hq hq2
        go_wp2_with fail
        go_returns
        exact ⟨by first | rfl | simp [hf0] | (simp; omega), hq3⟩
    · go_enter Try.func5, Try.ntmps5
      go_wp2_with fail
      refine (fresh_no c _ _ (by omega)).mono ?_
      rintro e w1 ⟨rfl, rfl⟩
      go_wp2_with fail
      refine (rfresh_no c _ _ (by omega)).mono ?_
      rintro e w2 ⟨rfl, rfl⟩
      go_wp2_with fail
      refine (awake_any _).mono ?_
      rintro e w2 ⟨rfl, hq2⟩
      go_wp2_with fail
      go_returns
      exact ⟨rfl, hq2⟩
end Go.Proofs.Ytipgmhldlobjdaa
