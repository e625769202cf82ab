/- Layer 7: whose a number is: contracts of the small functions. -/
import Derived.Test.YtipgmhldlobjdaaProg
import Derived.Test.YtipgmhldlobjdaaLib
import Derived.Outline
import Derived.Handy
import Derived.KernelRfl
import Derived.Lib.Hide
import Derived.Deep.QuietTactic
import Derived.BigQuiet
import Derived.Deep.RegionWith
namespace Go.Proofs.Ytipgmhldlobjdaa
open Go Go.RowKit
set_option linter.unusedSimpArgs false

abbrev i6 (n : Int) : Value := .int .i64 n
abbrev u3 (n : Int) : Value := .int .u32 n

theorem u32_in {n : Int} (h : 0 ≤ n) (h' : n < 4294967296) : IntKind.u32.wrap n = n := by
  simp only [IntKind.wrap, IntKind.bits, IntKind.signed]; simp; omega
theorem i64_in {n : Int} (h : -9223372036854775808 ≤ n) (h' : n < 9223372036854775808) : IntKind.i64.wrap n = n := by
  simp only [IntKind.wrap, IntKind.bits, IntKind.signed]; simp; omega

def cliB (c : Int) : Bool := decide (1 ≤ c ∧ c ≤ 8)
theorem cliB_true {c : Int} (h : 1 ≤ c) (h' : c ≤ 8) : cliB c = true := decide_eq_true ⟨h, h'⟩
theorem cliB_false {c : Int} (h : c < 1 ∨ 8 < c) : cliB c = false := decide_eq_false (by omega)

theorem cli_any (c : Int) (w : World) : Calls Try.prog 17 #[i6 c] w fun e w' => e = .returned (.bool (cliB c)) ∧ w = w' := by
  unfold cliB
  by_cases h1 : 1 ≤ c
  · by_cases h2 : c ≤ 8
    · rw [decide_eq_true (by omega)]
      go_enter Try.func17, Try.ntmps17
      go_wp2
      go_returns
      exact ⟨ret_bool (by first | rfl | (simp; done) | (simp; omega)), rfl⟩
    · rw [decide_eq_false (by omega)]
      go_enter Try.func17, Try.ntmps17
      go_wp2
      go_returns
      exact ⟨ret_bool (by first | rfl | (simp; done) | (simp; omega)), rfl⟩
  · rw [decide_eq_false (by omega)]
    go_enter Try.func17, Try.ntmps17
    go_wp2
    go_returns
    exact ⟨ret_bool (by first | rfl | (simp; done) | (simp; omega)), rfl⟩

theorem base_ok (c : Int) (w : World) (h : 1 ≤ c) (h' : c ≤ 8) : Calls Try.prog 14 #[i6 c] w fun e w' => e = .returned (.tuple #[u3 (c * 1048576), .bool true]) ∧ w = w' := by
  have e1 : IntKind.i64.wrap (c * 1048576) = c * 1048576 := i64_in (by omega) (by omega)
  have e2 : IntKind.u32.wrap (c * 1048576) = c * 1048576 := u32_in (by omega) (by omega)
  go_enter Try.func14, Try.ntmps14
  go_wp2_with fail
  refine (cli_any _ _).mono ?_
  rintro e w1 ⟨rfl, rfl⟩
  rw [cliB_true h h']
  go_wp2_with fail
  go_returns
  exact ⟨by simp [e1, e2], rfl⟩

theorem base_no (c : Int) (w : World) (h : c < 1 ∨ 8 < c) : Calls Try.prog 14 #[i6 c] w fun e w' => e = .returned (.tuple #[u3 0, .bool false]) ∧ w = w' := by
  go_enter Try.func14, Try.ntmps14
  go_wp2_with fail
  refine (cli_any _ _).mono ?_
  rintro e w1 ⟨rfl, rfl⟩
  rw [cliB_false h]
  go_wp2_with fail
  go_returns
  exact ⟨rfl, rfl⟩

/-- Whose a number is; -1: it is no id. -/
def whose (g : Int) : Int := if g = 1 then 0 else if 1 ≤ g / 1048576 ∧ g / 1048576 ≤ 8 ∧ ¬ g % 1048576 = 0 then g / 1048576 else -1
/-- What Client tells. -/
def cliRes (g : Int) : Value := if whose g < 0 then .tuple #[i6 0, .bool false] else .tuple #[i6 (whose g), .bool true]

theorem whose_range (g : Int) : -1 ≤ whose g ∧ whose g ≤ 8 := by
  unfold whose
  repeat' split
  all_goals omega

theorem cliRes_root : cliRes 1 = .tuple #[i6 0, .bool true] := by unfold cliRes whose; simp
theorem cliRes_no {g : Int} (h1 : ¬ g = 1) (h : g / 1048576 < 1 ∨ 8 < g / 1048576 ∨ g % 1048576 = 0) : cliRes g = .tuple #[i6 0, .bool false] := by
  have : whose g = -1 := by unfold whose; rw [if_neg h1, if_neg (by omega)]
  unfold cliRes; rw [this, if_pos (by omega)]
theorem cliRes_ok {g : Int} (h1 : ¬ g = 1) (h : 1 ≤ g / 1048576) (h' : g / 1048576 ≤ 8) (hm : ¬ g % 1048576 = 0) : cliRes g = .tuple #[i6 (g / 1048576), .bool true] := by
  have : whose g = g / 1048576 := by unfold whose; rw [if_neg h1, if_pos ⟨h, h', hm⟩]
  unfold cliRes; rw [this, if_neg (by omega)]

set_option maxHeartbeats 1000000 in
theorem client_any (g : Int) (w : World) (h : 0 ≤ g) (h' : g < 4294967296) : Calls Try.prog 9 #[u3 g] w fun e w' => e = .returned (cliRes g) ∧ w = w' := by
  have d1 : g.tdiv 1048576 = g / 1048576 := by rw [Int.tdiv_eq_ediv_of_nonneg h]
  have d2 : g.tmod 1048576 = g % 1048576 := by rw [Int.tmod_eq_emod_of_nonneg h]
  have d3 : IntKind.u32.wrap (g / 1048576) = g / 1048576 := u32_in (by omega) (by omega)
  have d4 : IntKind.i64.wrap (g / 1048576) = g / 1048576 := i64_in (by omega) (by omega)
  have d5 : IntKind.u32.wrap (g % 1048576) = g % 1048576 := u32_in (by omega) (by omega)
  by_cases g1 : g = 1
  · subst g1
    rw [cliRes_root]
    go_enter Try.func9, Try.ntmps9
    go_wp2
    go_returns
    exact ⟨rfl, rfl⟩
  · by_cases hc : 1 ≤ g / 1048576 ∧ g / 1048576 ≤ 8
    · by_cases hm : g % 1048576 = 0
      · rw [cliRes_no g1 (by omega)]
        go_enter Try.func9, Try.ntmps9
        go_wp2_with fail
        refine (cli_any _ _).mono ?_
        rintro e w1 ⟨rfl, rfl⟩
        try simp only [d1, d3, d4]
        rw [cliB_true hc.1 hc.2]
        go_wp2_with fail
        go_returns
        exact ⟨rfl, rfl⟩
      · rw [cliRes_ok g1 hc.1 hc.2 hm]
        go_enter Try.func9, Try.ntmps9
        go_wp2_with fail
        refine (cli_any _ _).mono ?_
        rintro e w1 ⟨rfl, rfl⟩
        try simp only [d1, d3, d4]
        rw [cliB_true hc.1 hc.2]
        go_wp2_with fail
        go_returns
        exact ⟨by simp [d1, d3, d4], rfl⟩
    · rw [cliRes_no g1 (by omega)]
      go_enter Try.func9, Try.ntmps9
      go_wp2_with fail
      refine (cli_any _ _).mono ?_
      rintro e w1 ⟨rfl, rfl⟩
      try simp only [d1, d3, d4]
      rw [cliB_false (by omega)]
      go_wp2_with fail
      go_returns
      exact ⟨rfl, rfl⟩

/-- The document's answer. -/
theorem rclient_any (g : Int) (w : World) (h : 0 ≤ g) (h' : g < 4294967296) : Calls Try.prog 10 #[u3 g] w fun e w' => e = .returned (i6 (whose g)) ∧ w = w' := by
  have d1 : g.tdiv 1048576 = g / 1048576 := by rw [Int.tdiv_eq_ediv_of_nonneg h]
  have d2 : g.tmod 1048576 = g % 1048576 := by rw [Int.tmod_eq_emod_of_nonneg h]
  have d3 : IntKind.u32.wrap (g / 1048576) = g / 1048576 := u32_in (by omega) (by omega)
  have d4 : IntKind.i64.wrap (g / 1048576) = g / 1048576 := i64_in (by omega) (by omega)
  have d5 : IntKind.u32.wrap (g % 1048576) = g % 1048576 := u32_in (by omega) (by omega)
  unfold whose
  by_cases g1 : g = 1
  · subst g1
    rw [if_pos rfl]
    go_enter Try.func10, Try.ntmps10
    go_wp2
    go_returns
    exact ⟨rfl, rfl⟩
  · rw [if_neg g1]
    by_cases c1 : 1 ≤ g / 1048576
    · by_cases c2 : g / 1048576 ≤ 8
      · by_cases hm : g % 1048576 = 0
        · rw [if_neg (by omega)]
          have hb : (g % 1048576 == 0) = true := by simp [hm]
          have hb1 : ¬ g / 1048576 < 1 := by omega
          have hb2 : ¬ 8 < g / 1048576 := by omega
          go_enter Try.func10, Try.ntmps10
          go_wp2
          go_returns
          exact ⟨rfl, rfl⟩
        · rw [if_pos ⟨c1, c2, hm⟩]
          have hb : (g % 1048576 == 0) = false := by simp [hm]
          have hb1 : ¬ g / 1048576 < 1 := by omega
          have hb2 : ¬ 8 < g / 1048576 := by omega
          go_enter Try.func10, Try.ntmps10
          go_wp2
          go_returns
          exact ⟨by simp [d1, d3, d4], rfl⟩
      · rw [if_neg (by omega)]
        have hb1 : ¬ g / 1048576 < 1 := by omega
        have hb2 : 8 < g / 1048576 := by omega
        go_enter Try.func10, Try.ntmps10
        go_wp2
        go_returns
        exact ⟨rfl, rfl⟩
    · rw [if_neg (by omega)]
      have hb1 : g / 1048576 < 1 := by omega
      go_enter Try.func10, Try.ntmps10
      go_wp2
      go_returns
      exact ⟨rfl, rfl⟩

/-- What Check tells: 6 ErrNone, 1 ErrRange, 0 OK. -/
theorem check_zero (w : World) : Calls Try.prog 11 #[u3 0] w fun e w' => e = .returned (i6 6) ∧ w = w' := by
  go_enter Try.func11, Try.ntmps11
  go_wp2
  go_returns
  exact ⟨rfl, rfl⟩
theorem check_no (g : Int) (w : World) (h : 0 < g) (h' : g < 4294967296) (hn : whose g < 0) : Calls Try.prog 11 #[u3 g] w fun e w' => e = .returned (i6 1) ∧ w = w' := by
  have hr : cliRes g = .tuple #[i6 0, .bool false] := by unfold cliRes; rw [if_pos hn]
  have HR := Lib.hid hr
  clear hr
  have hne : ¬ g = 0 := by omega
  go_enter Try.func11, Try.ntmps11
  go_wp2_with fail
  refine (client_any _ _ (by omega) h').mono ?_
  rintro e w1 ⟨rfl, rfl⟩
  rw [HR.out]
  go_wp2_with fail
  go_returns
  exact ⟨rfl, rfl⟩
theorem check_ok (g : Int) (w : World) (h : 0 < g) (h' : g < 4294967296) (hn : 0 ≤ whose g) : Calls Try.prog 11 #[u3 g] w fun e w' => e = .returned (i6 0) ∧ w = w' := by
  have hr : cliRes g = .tuple #[i6 (whose g), .bool true] := by unfold cliRes; rw [if_neg (by omega)]
  have HR := Lib.hid hr
  clear hr
  have hne : ¬ g = 0 := by omega
  go_enter Try.func11, Try.ntmps11
  go_wp2_with fail
  refine (client_any _ _ (by omega) h').mono ?_
  rintro e w1 ⟨rfl, rfl⟩
  rw [HR.out]
  go_wp2_with fail
  go_returns
  exact ⟨rfl, rfl⟩

/-- Is it that client's? -/
def mineB (c g : Int) : Bool := decide (1 ≤ whose g ∧ whose g = c)
theorem mine_any (c g : Int) (w : World) (h : 0 ≤ g) (h' : g < 4294967296) : Calls Try.prog 12 #[i6 c, u3 g] w fun e w' => e = .returned (.bool (mineB c g)) ∧ w = w' := by
  have hrg := whose_range g
  by_cases hn : whose g < 0
  · have hr : cliRes g = .tuple #[i6 0, .bool false] := by unfold cliRes; rw [if_pos hn]
    have HR := Lib.hid hr
    rw [show mineB c g = false from decide_eq_false (by omega)]
    clear hr
    go_enter Try.func12, Try.ntmps12
    go_wp2_with fail
    refine (client_any _ _ h h').mono ?_
    rintro e w1 ⟨rfl, rfl⟩
    rw [HR.out]
    go_wp2_with fail
    go_returns
    exact ⟨rfl, rfl⟩
  · have hr : cliRes g = .tuple #[i6 (whose g), .bool true] := by unfold cliRes; rw [if_neg hn]
    have HR := Lib.hid hr
    clear hr
    by_cases hc : whose g = c
    · have e1 : mineB c g = cliB c := by unfold mineB cliB; rw [decide_eq_decide]; omega
      rw [e1]
      go_enter Try.func12, Try.ntmps12
      go_wp2_with fail
      refine (client_any _ _ h h').mono ?_
      rintro e w1 ⟨rfl, rfl⟩
      rw [HR.out]
      go_wp2_with fail
      refine (cli_any _ _).mono ?_
      rintro e w1 ⟨rfl, rfl⟩
      go_wp2_with fail
      go_returns
      exact ⟨rfl, rfl⟩
    · rw [show mineB c g = false from decide_eq_false (by omega)]
      go_enter Try.func12, Try.ntmps12
      go_wp2_with fail
      refine (client_any _ _ h h').mono ?_
      rintro e w1 ⟨rfl, rfl⟩
      rw [HR.out]
      go_wp2_with fail
      go_returns
      exact ⟨rfl, rfl⟩
end Go.Proofs.Ytipgmhldlobjdaa
