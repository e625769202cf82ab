/- Layer 9: which texts are names; a name in a list of names; slices of strings. -/
import Derived.Test.YtdkdpjlkjamemaaDoorProg
import Derived.Test.YtdkdpjlkjamemaaDoorLib
import Derived.Test.YtdkdpjlkjamemaaDoorLib3
import Derived.Outline
import Derived.Handy
import Derived.KernelRfl
import Derived.Lib.Hide
import Derived.Deep.QuietTactic
import Derived.BigQuiet
import Derived.OwnWalk
import Derived.Laws.Strings2
import Derived.Laws.Strings3
import Derived.Lib.SmallJoins
namespace Go.Proofs.YtdkdpjlkjamemaaDoor
open Go Go.RowKit
set_option linter.unusedSimpArgs false
set_option linter.unusedVariables false

abbrev i6 (n : Int) : Value := .int .i64 n
abbrev u3 (n : Int) : Value := .int .u32 n
abbrev B := List UInt8
abbrev strV (b : B) : Value := .string ⟨b.toArray⟩
def okC (c : UInt8) : Bool := decide (32 ≤ c.toNat) && decide (c.toNat ≤ 126)
def nameB (s : B) : Bool := decide (1 ≤ s.length) && decide (s.length ≤ 255) && s.all okC
theorem take_all {s : B} {k : Nat} {c : UInt8} (h : s[k]? = some c) : (s.take (k + 1)).all okC = ((s.take k).all okC && okC c) := by
  rw [List.take_add_one, h]; simp
theorem all_not {s : B} {k : Nat} (h : (s.take k).all okC = false) : s.all okC = false := by
  rw [← List.take_append_drop k s, List.all_append, h]; rfl

set_option maxRecDepth 100000 in
set_option maxHeartbeats 2000000 in
theorem isName_any (s : B) (w : World) : Calls Tryd.prog 21 #[strV s] w fun e w' => e = .returned (.bool (nameB s)) ∧ w = w' := by
  by_cases h1 : 1 ≤ s.length
  · have hse : (s == []) = false := by
      cases s with
      | nil => simp at h1
      | cons a l => rfl
    by_cases h2 : s.length ≤ 255
    · have h2' : ¬ (255 : Int) < (s.length : Int) := by omega
      go_enter Tryd.func21, Tryd.ntmps21
      go_wp2_with fail
      go_loopw [3] (fun i wr => ∃ k : Nat, k ≤ s.length ∧ i = .int .i64 k ∧ Hid ((s.take k).all okC = true) ∧ wr = w)
        (fun i _ => s.length - (intOf i).toNat)
      case atStart => exact ⟨0, by omega, rfl, Lib.hid rfl, rfl⟩
      case round =>
        obtain ⟨k, hk, rfl, hall, rfl⟩ := hrel
        by_cases hlt : k < s.length
        · have hlk : s[k]? = some s[k] := List.getElem?_eq_getElem hlt
          have hst := take_all hlk
          have hlt' : (k : Int) < (s.length : Int) := by omega
          have hgk : (((⟨s.toArray⟩ : ByteArray)[k]'(by show k < s.toArray.size; simpa using hlt)).toNat : Int) = ((s[k]).toNat : Int) := rfl
          have hoc : okC s[k] = (decide (32 ≤ (s[k]).toNat) && decide ((s[k]).toNat ≤ 126)) := rfl
          generalize (s[k]).toNat = c at hgk hoc
          clear hlk
          by_cases c1 : 32 ≤ c
          · have c1' : ¬ (c : Int) < 32 := by omega
            by_cases c2 : c ≤ 126
            · have hf : (s.take (k + 1)).all okC = true := by rw [hst, hall.out, hoc, decide_eq_true c1, decide_eq_true c2]; rfl
              have HF := Lib.hid hf
              clear hf hst hall hoc
              have c2' : ¬ (126 : Int) < (c : Int) := by omega
              go_wp2_with fail
              go_roundw
              case rel => exact ⟨k + 1, by omega, by go_num, HF, by trivial⟩
              case measure => simp [intOf]; omega
            · have hf : (s.take (k + 1)).all okC = false := by rw [hst, hoc, decide_eq_false c2]; simp
              have HF := Lib.hid (all_not hf)
              clear hf hst hall hoc
              have c2' : (126 : Int) < (c : Int) := by omega
              go_wp2_with fail
              go_returns
              exact ⟨by unfold nameB; rw [HF.out]; simp, rfl⟩
          · have c1' : (c : Int) < 32 := by omega
            have hf : (s.take (k + 1)).all okC = false := by rw [hst, hoc, decide_eq_false c1]; simp
            have HF := Lib.hid (all_not hf)
            clear hf hst hall hoc
            go_wp2_with fail
            go_returns
            exact ⟨by unfold nameB; rw [HF.out]; simp, rfl⟩
        · have hkl : k = s.length := by omega
          subst hkl
          have hall' : s.all okC = true := by have := hall.out; rwa [List.take_length] at this
          have HF := Lib.hid hall'
          clear hall hall'
          go_wp2_with fail
          go_returns
          exact ⟨by unfold nameB; rw [HF.out, decide_eq_true h1, decide_eq_true h2]; rfl, rfl⟩

    · have h2' : (255 : Int) < (s.length : Int) := by omega
      have hn : nameB s = false := by unfold nameB; rw [decide_eq_false h2]; simp
      have HN := Lib.hid hn
      clear hn h2 h1
      go_enter Tryd.func21, Tryd.ntmps21
      go_wp2_with fail
      go_returns
      exact ⟨by rw [HN.out]; rfl, rfl⟩
  · have hs : s = [] := by cases s with
      | nil => rfl
      | cons a l => simp at h1
    subst hs
    go_enter Tryd.func21, Tryd.ntmps21
    go_wp2_with fail
    go_returns
    exact ⟨rfl, rfl⟩

set_option maxRecDepth 100000 in
set_option maxHeartbeats 2000000 in
theorem rright_any (s : B) (w : World) (hmx : s.length ≤ 1000000) : Calls Tryd.prog 25 #[strV s] w fun e w' => e = .returned (.bool (nameB s)) ∧ w = w' := by
  go_enter Tryd.func25, Tryd.ntmps25
  go_wp2_with fail
  go_loopw [3] (fun i wr => ∃ k : Nat, k ≤ s.length ∧ i = .int .i64 k ∧ Hid ((s.take k).all okC = true) ∧ wr = w)
    (fun i _ => s.length - (intOf i).toNat)
  case atStart => exact ⟨0, by omega, rfl, Lib.hid rfl, rfl⟩
  case round =>
    obtain ⟨k, hk, rfl, hall, rfl⟩ := hrel
    by_cases hlt : k < s.length
    · have hlk : s[k]? = some s[k] := List.getElem?_eq_getElem hlt
      have hst := take_all hlk
      have hlt' : (k : Int) < (s.length : Int) := by omega
      have hgk : (((⟨s.toArray⟩ : ByteArray)[k]'(by show k < s.toArray.size; simpa using hlt)).toNat : Int) = ((s[k]).toNat : Int) := rfl
      have hoc : okC s[k] = (decide (32 ≤ (s[k]).toNat) && decide ((s[k]).toNat ≤ 126)) := rfl
      generalize (s[k]).toNat = c at hgk hoc
      clear hlk
      by_cases c1 : 32 ≤ c
      · have c1' : ¬ (c : Int) < 32 := by omega
        by_cases c2 : c ≤ 126
        · have hf : (s.take (k + 1)).all okC = true := by rw [hst, hall.out, hoc, decide_eq_true c1, decide_eq_true c2]; rfl
          have HF := Lib.hid hf
          clear hf hst hall hoc
          have c2' : ¬ (126 : Int) < (c : Int) := by omega
          go_wp2_with fail
          go_roundw
          case rel => exact ⟨k + 1, by omega, by go_num, HF, by trivial⟩
          case measure => simp [intOf]; omega
        · have hf : (s.take (k + 1)).all okC = false := by rw [hst, hoc, decide_eq_false c2]; simp
          have HF := Lib.hid (all_not hf)
          clear hf hst hall hoc
          have c2' : (126 : Int) < (c : Int) := by omega
          go_wp2_with fail
          go_returns
          exact ⟨by unfold nameB; rw [HF.out]; simp, rfl⟩
      · have c1' : (c : Int) < 32 := by omega
        have hf : (s.take (k + 1)).all okC = false := by rw [hst, hoc, decide_eq_false c1]; simp
        have HF := Lib.hid (all_not hf)
        clear hf hst hall hoc
        go_wp2_with fail
        go_returns
        exact ⟨by unfold nameB; rw [HF.out]; simp, rfl⟩
    · have hkl : k = s.length := by omega
      subst hkl
      have hall' : s.all okC = true := by have := hall.out; rwa [List.take_length] at this
      have HF := Lib.hid hall'
      clear hall hall'
      have hn : nameB s = (decide (1 ≤ s.length) && decide (s.length ≤ 255)) := by unfold nameB; rw [HF.out]; simp
      have HN := Lib.hid hn
      clear hn HF
      by_cases h1 : 1 ≤ s.length
      · have h1' : (1 : Int) ≤ (s.length : Int) := by omega
        by_cases h2 : s.length ≤ 255
        · have h2' : (s.length : Int) ≤ 255 := by omega
          go_wp2_with fail
          go_returns
          exact ⟨by rw [HN.out, decide_eq_true h1, decide_eq_true h2]; rfl, rfl⟩
        · have h2' : ¬ (s.length : Int) ≤ 255 := by omega
          go_wp2_with fail
          go_returns
          exact ⟨by rw [HN.out, decide_eq_true h1, decide_eq_false h2]; rfl, rfl⟩
      · have h1' : ¬ (1 : Int) ≤ (s.length : Int) := by omega
        go_wp2_with fail
        go_returns
        exact ⟨by rw [HN.out, decide_eq_false h1]; rfl, rfl⟩

end Go.Proofs.YtdkdpjlkjamemaaDoor
