/- Layer 38: the error that a wrong grab is refused with. -/
import Derived.Test.YtmcndiljldbkcaaPs2
namespace Go.Proofs.Ytmcndiljldbkcaa
open Go Go.RowKit
set_option linter.unusedSimpArgs false
set_option linter.unusedVariables false
/-- The number of the error that a grab is refused with; 0: it is right. -/
def chkN (g : G) : Int :=
  if g.cl < 1 ∨ 8 < g.cl then 1 else if g.wi = 0 then 6 else if g.co < 0 ∨ mostC g.bu < g.co then 1 else if g.mo ≠ 32768 ∧ (g.mo < 0 ∨ 255 < g.mo) then 22
  else if g.ma < 0 ∨ 8191 < g.ma then 1 else if ¬ ((g.pt = 0 ∨ g.pt = 1) ∧ (g.kb = 0 ∨ g.kb = 1)) then 10 else 0
theorem chk_right {g : G} (h : RightG g) : chkN g = 0 := by
  obtain ⟨h1, h2, h3, h4, h5, h6, h7⟩ := h
  unfold chkN
  rw [if_neg (by omega), if_neg h2, if_neg (by omega), if_neg (by omega), if_neg (by omega), if_neg (by omega)]
theorem chk_wrong {g : G} (h : ¬ RightG g) : chkN g ≠ 0 := by
  intro hc
  apply h
  unfold chkN at hc
  by_cases c1 : g.cl < 1 ∨ 8 < g.cl
  · rw [if_pos c1] at hc; omega
  rw [if_neg c1] at hc
  by_cases c2 : g.wi = 0
  · rw [if_pos c2] at hc; omega
  rw [if_neg c2] at hc
  by_cases c3 : g.co < 0 ∨ mostC g.bu < g.co
  · rw [if_pos c3] at hc; omega
  rw [if_neg c3] at hc
  by_cases c4 : g.mo ≠ 32768 ∧ (g.mo < 0 ∨ 255 < g.mo)
  · rw [if_pos c4] at hc; omega
  rw [if_neg c4] at hc
  by_cases c5 : g.ma < 0 ∨ 8191 < g.ma
  · rw [if_pos c5] at hc; omega
  rw [if_neg c5] at hc
  by_cases c6 : ¬ ((g.pt = 0 ∨ g.pt = 1) ∧ (g.kb = 0 ∨ g.kb = 1))
  · rw [if_pos c6] at hc; omega
  have c7 := Classical.not_not.1 c6
  exact ⟨by omega, c2, by omega, by omega, by omega, c7.1, c7.2⟩
theorem mode_bad (n : Int) (h0 : ¬ n = 0) (h1 : ¬ n = 1) (w : World) : Calls Try.prog 43 #[i6 n] w fun e w' => e = .returned (.bool false) ∧ w = w' := by
  have q0 : (n == 0) = false := by simpa using h0
  have q1 : (n == 1) = false := by simpa using h1
  go_enter Try.func43, Try.ntmps43
  go_wp2_with fail
  go_returns
  exact ⟨rfl, rfl⟩
theorem right_mkfalse (a0 a1 : Int) (a2 : Bool) (a3 a4 : Int) (a5 : Bool) (a6 a7 a8 : Int) (h1 : 1 ≤ a0 ∧ a0 ≤ 8) (h2 : ¬ a1 = 0) (h3 : 0 ≤ a3) (h4 : a3 ≤ mostC a2) (h5 : a4 = 32768 ∨ 0 ≤ a4 ∧ a4 ≤ 255) (h6 : 0 ≤ a6 ∧ a6 ≤ 8191) (h7 : a7 = 0 ∨ a7 = 1) (h8 : a8 = 0 ∨ a8 = 1) : RightG ⟨a0, a1, a2, a3, a4, a5, a6, a7, a8⟩ := ⟨h1, h2, ⟨h3, h4⟩, h5, h6, h7, h8⟩
theorem right_mktrue (a0 a1 : Int) (a2 : Bool) (a3 a4 : Int) (a5 : Bool) (a6 a7 a8 : Int) (h1 : 1 ≤ a0 ∧ a0 ≤ 8) (h2 : ¬ a1 = 0) (h3 : 0 ≤ a3) (h4 : a3 ≤ mostC a2) (h5 : a4 = 32768 ∨ 0 ≤ a4 ∧ a4 ≤ 255) (h6 : 0 ≤ a6 ∧ a6 ≤ 8191) (h7 : a7 = 0 ∨ a7 = 1) (h8 : a8 = 0 ∨ a8 = 1) : RightG ⟨a0, a1, a2, a3, a4, a5, a6, a7, a8⟩ := ⟨h1, h2, ⟨h3, h4⟩, h5, h6, h7, h8⟩
end Go.Proofs.Ytmcndiljldbkcaa
