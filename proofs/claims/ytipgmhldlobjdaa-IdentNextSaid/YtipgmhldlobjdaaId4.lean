/- Layer 7: the walks of IdentBase and IdentOnce. -/
import Derived.Test.YtipgmhldlobjdaaId3
namespace Go.Proofs.Ytipgmhldlobjdaa
open Go Go.RowKit Go.Maps
set_option linter.unusedSimpArgs false
set_option linter.unusedVariables false

theorem whose_base {c : Int} (h : 1 ≤ c) (h' : c ≤ 8) : whose (c * 1048576) = -1 := by
  unfold whose; rw [if_neg (by omega), if_neg (by omega)]
theorem whose_in {c r : Int} (h : 1 ≤ c) (h' : c ≤ 8) (hr : 0 < r) (hr' : r < 1048576) : whose (c * 1048576 + r) = c := by
  have e : (c * 1048576 + r) / 1048576 = c := by omega
  unfold whose; rw [if_neg (by omega), if_pos ⟨by omega, by omega, by omega⟩, e]

set_option maxHeartbeats 1000000 in
theorem lbase_any (c ix : Int) (w : World) (h : 0 ≤ ix) (h' : ix < 4294967296) :
    Calls Try.prog 4 #[i6 c, .int .u32 ix] w fun e w' => e = .returned (.bool true) ∧ Below w.heap.size w w' := by
  by_cases hc : 1 ≤ c ∧ c ≤ 8
  · have d2 : ix.tmod 1048576 = ix % 1048576 := by rw [Int.tmod_eq_emod_of_nonneg h]
    have d5 : IntKind.u32.wrap (ix % 1048576) = ix % 1048576 := u32_in (by omega) (by omega)
    have d6 : IntKind.u32.wrap (c * 1048576 + ix % 1048576) = c * 1048576 + ix % 1048576 := u32_in (by omega) (by omega)
    have d7 : IntKind.u32.wrap c = c := u32_in (by omega) (by omega)
    have d8 : IntKind.u32.wrap (c * 1048576) = c * 1048576 := u32_in (by omega) (by omega)
    have hm : mineB c (c * 1048576) = false := decide_eq_false (by rw [whose_base hc.1 hc.2]; omega)
    have HM := Lib.hid hm
    clear hm
    have c1 : ¬ c < 1 := by omega
    have c2 : ¬ 8 < c := by omega
    by_cases h0 : ix % 1048576 = 0
    · go_enter Try.func4, Try.ntmps4
      go_wp2_with fail
      refine (base_ok _ _ hc.1 hc.2).mono ?_
      rintro e w1 ⟨rfl, rfl⟩
      go_wp2_with fail
      refine (mine_any _ _ _ (by omega) (by omega)).mono ?_
      rintro e w1 ⟨rfl, rfl⟩
      rw [HM.out]
      go_wp2_with fail
      refine (mine_any _ _ _ (by omega) (by omega)).mono ?_
      rintro e w1 ⟨rfl, rfl⟩
      rw [HM.out]
      go_wp2_with fail
      refine (awake_any _).mono ?_
      rintro e w1 ⟨rfl, hq⟩
      go_wp2_with fail
      go_returns
      exact ⟨by first | rfl | (simp; done) | (simp; omega), hq⟩
    · have hm : mineB c (c * 1048576 + ix % 1048576) = true := decide_eq_true (by rw [whose_in hc.1 hc.2 (by omega) (by omega)]; omega)
      have HI := Lib.hid hm
      clear hm
      have hne : (c * 1048576 + ix % 1048576 == c * 1048576) = false := by simp; omega
      go_enter Try.func4, Try.ntmps4
      go_wp2_with fail
      refine (base_ok _ _ hc.1 hc.2).mono ?_
      rintro e w1 ⟨rfl, rfl⟩
      go_wp2_with fail
      refine (mine_any _ _ _ (by omega) (by omega)).mono ?_
      rintro e w1 ⟨rfl, rfl⟩
      rw [HM.out]
      go_wp2_with fail
      refine (mine_any _ _ _ (by omega) (by omega)).mono ?_
      rintro e w1 ⟨rfl, rfl⟩
      rw [HI.out]
      go_wp2_with fail
      refine (awake_any _).mono ?_
      rintro e w1 ⟨rfl, hq⟩
      go_wp2_with fail
      go_returns
      exact ⟨by first | rfl | (simp; done) | (simp; omega), hq⟩
  · go_enter Try.func4, Try.ntmps4
    go_wp2_with fail
    refine (base_no _ _ (by omega)).mono ?_
    rintro e w1 ⟨rfl, rfl⟩
    by_cases c1 : c < 1
    · go_wp2_with fail
      refine (awake_any _).mono ?_
      rintro e w1 ⟨rfl, hq⟩
      go_wp2_with fail
      go_returns
      exact ⟨rfl, hq⟩
    · have c2 : 8 < c := by omega
      go_wp2_with fail
      refine (awake_any _).mono ?_
      rintro e w1 ⟨rfl, hq⟩
      go_wp2_with fail
      go_returns
      exact ⟨rfl, hq⟩

set_option maxHeartbeats 2000000 in
theorem lonce_any (g : Int) (w : World) (h : 0 ≤ g) (h' : g < 4294967296) :
    Calls Try.prog 7 #[u3 g] w fun e w' => e = .returned (.bool true) ∧ Below w.heap.size w w' := by
  have hrg := whose_range g
  go_enter Try.func7, Try.ntmps7
  go_wp2_with fail
  go_loop [3, 4] (fun n i => ∃ c m : Int, i = i6 c ∧ n = i6 m ∧ -1 ≤ c ∧ c ≤ 11 ∧ ((1 ≤ whose g ∧ whose g < c → m = 1) ∧ (whose g < 1 ∨ c ≤ whose g → m = 0)))
    (fun _ i => (11 - intOf i).toNat)
  case atStart => exact ⟨-1, 0, rfl, rfl, by omega, by omega, by omega, by omega⟩
  case round =>
    obtain ⟨c, m, rfl, rfl, hc1, hc2, hm1, hm2⟩ := hrel
    by_cases hend : c ≤ 10
    · by_cases hw : 1 ≤ whose g ∧ whose g = c
      · have hm : mineB c g = true := decide_eq_true hw
        have HM := Lib.hid hm
        have hr : cliRes g = .tuple #[i6 c, .bool true] := by unfold cliRes; rw [if_neg (by omega), hw.2]
        have HR := Lib.hid hr
        have m0 : m = 0 := hm2 (by omega)
        subst m0
        clear hm hr
        go_wp2_with fail
        refine (mine_any _ _ _ h h').mono ?_
        rintro e w1 ⟨rfl, rfl⟩
        rw [HM.out]
        go_wp2_with fail
        refine (client_any _ _ h h').mono ?_
        rintro e w1 ⟨rfl, rfl⟩
        rw [HR.out]
        go_wp2_with fail
        go_round
        case rel => exact ⟨c + 1, 1, by go_num, by first | rfl | go_num, by omega, by omega, by omega, by omega⟩
        case measure => simp [intOf]; omega
      · have hm : mineB c g = false := decide_eq_false hw
        have HM := Lib.hid hm
        clear hm
        go_wp2_with fail
        refine (mine_any _ _ _ h h').mono ?_
        rintro e w1 ⟨rfl, rfl⟩
        rw [HM.out]
        go_wp2_with fail
        go_round
        case rel => exact ⟨c + 1, m, by go_num, rfl, by omega, by omega, by omega, by omega⟩
        case measure => simp [intOf]; omega
    · have : c = 11 := by omega
      subst this
      by_cases hw : 1 ≤ whose g
      · have m1 : m = 1 := hm1 (by omega)
        subst m1
        have hr : cliRes g = .tuple #[i6 (whose g), .bool true] := by unfold cliRes; rw [if_neg (by omega)]
        have HR := Lib.hid hr
        have hg1 : ¬ g = 1 := by
          intro e; subst e; unfold whose at hw; omega
        have hq0 : (whose g == 0) = false := by simp; omega
        have hq1 : (g == 1) = false := by simp [hg1]
        clear hr
        go_wp2_with fail
        refine (client_any _ _ h h').mono ?_
        rintro e w1 ⟨rfl, rfl⟩
        rw [HR.out]
        go_wp2_with fail
        refine (awake_any _).mono ?_
        rintro e w1 ⟨rfl, hq⟩
        go_wp2_with fail
        go_returns
        exact ⟨by first | rfl | (simp; done) | (simp; omega), hq⟩
      · have m0 : m = 0 := hm2 (by omega)
        subst m0
        by_cases h0 : whose g = 0
        · have hg : g = 1 := by
            unfold whose at h0
            split at h0
            · assumption
            · split at h0 <;> omega
          subst hg
          have hr : cliRes 1 = .tuple #[i6 0, .bool true] := cliRes_root
          have HR := Lib.hid hr
          clear hr
          go_wp2_with fail
          refine (client_any _ _ h h').mono ?_
          rintro e w1 ⟨rfl, rfl⟩
          rw [HR.out]
          go_wp2_with fail
          refine (awake_any _).mono ?_
          rintro e w1 ⟨rfl, hq⟩
          go_wp2_with fail
          go_returns
          exact ⟨by first | rfl | (simp; done) | (simp; omega), hq⟩
        · have hr : cliRes g = .tuple #[i6 0, .bool false] := by unfold cliRes; rw [if_pos (by omega)]
          have HR := Lib.hid hr
          have hg1 : ¬ g = 1 := by
            intro e; subst e; unfold whose at h0; omega
          clear hr
          go_wp2_with fail
          refine (client_any _ _ h h').mono ?_
          rintro e w1 ⟨rfl, rfl⟩
          rw [HR.out]
          go_wp2_with fail
          refine (awake_any _).mono ?_
          rintro e w1 ⟨rfl, hq⟩
          go_wp2_with fail
          go_returns
          exact ⟨by first | rfl | (simp; done) | (simp; omega), hq⟩
end Go.Proofs.Ytipgmhldlobjdaa
