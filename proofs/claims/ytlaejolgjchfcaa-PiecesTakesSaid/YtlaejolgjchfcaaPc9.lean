/- Layer 42: the reference's right. -/
import Derived.Test.YtlaejolgjchfcaaPc8
namespace Go.Proofs.Ytlaejolgjchfcaa
open Go Go.RowKit
set_option linter.unusedSimpArgs false
set_option linter.unusedVariables false
set_option maxRecDepth 100000 in
theorem rright_any (v : Value) (us : List Int) (w : World) (hv : IsI w v us) (hl : us.length ≤ 1000000) :
    Calls Try.prog 29 #[v] w fun e w' => e = .returned (.bool (numsB us)) ∧ w = w' := by
  obtain ⟨a, cap, rfl, hf⟩ := isI_form hv
  have HF := Lib.hid hf
  clear hf hv
  go_enter Try.func29, Try.ntmps29
  go_wp2_with fail
  go_loopw [3] (fun i wr => ∃ k : Nat, k ≤ us.length ∧ i = .int .i64 k ∧ Hid ((us.take k).all okN = true) ∧ w = wr)
    (fun i _ => us.length - (intOf i).toNat)
  case atStart => exact ⟨0, by omega, rfl, Lib.hid rfl, rfl⟩
  case round =>
    obtain ⟨k, hk, rfl, hall, rfl⟩ := hrel
    by_cases hlt : k < us.length
    · obtain ⟨b, off, rfl, hc1, hc2, hb, hlay⟩ := HF.out (by omega)
      have hlk : us[k]? = some us[k] := List.getElem?_eq_getElem hlt
      have d0 := hlay k _ hlk
      have htk := take_ok hlk
      rw [hall.out] at htk
      clear hlay hlk
      generalize us[k] = u at d0 htk
      have HT := Lib.hid htk
      clear htk
      by_cases h0 : u < 0
      · have hu : okN u = false := by unfold okN; simp; omega
        have HN := Lib.hid (show numsB us = false from ok_not (k := k + 1) (by rw [HT.out, hu]; rfl))
        clear HT hu hall
        go_wp2_with fail
        go_returns
        exact ⟨by rw [HN.out]; rfl, rfl⟩
      · by_cases h1 : 4294967295 < u
        · have hu : okN u = false := by unfold okN; simp; omega
          have HN := Lib.hid (show numsB us = false from ok_not (k := k + 1) (by rw [HT.out, hu]; rfl))
          clear HT hu hall
          go_wp2_with fail
          go_returns
          exact ⟨by rw [HN.out]; rfl, rfl⟩
        · have hu : okN u = true := by unfold okN; simp; omega
          have HT2 : Hid ((us.take (k + 1)).all okN = true) := Lib.hid (by rw [HT.out, hu]; rfl)
          clear HT hu
          go_wp2_with fail
          go_roundw
          case rel => exact ⟨k + 1, by omega, by go_num, HT2, by trivial⟩
          case measure => simp [intOf]; omega
    · obtain rfl : k = us.length := by omega
      have hn : numsB us = true := by have := hall.out; rwa [List.take_length] at this
      have HN := Lib.hid hn
      clear hn hall
      go_wp2_with fail
      go_returns
      exact ⟨by rw [HN.out]; rfl, rfl⟩
end Go.Proofs.Ytlaejolgjchfcaa
