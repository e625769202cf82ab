/- Layer 9: Same, Short, Known, Clone, Len. -/
import Derived.Test.YtdkdpjlkjamemaaDoorAtom2
import Derived.Deep.Cut
import Derived.Deep.CutRange
import Derived.Deep.DeepCutAuto
namespace Go.Proofs.YtdkdpjlkjamemaaDoor
open Go Go.RowKit
set_option linter.unusedSimpArgs false
set_option linter.unusedVariables false

theorem take_eqS {rs ss : List B} {k : Nat} {a b : B} (h : rs.take k = ss.take k) (ha : rs[k]? = some a) (hb : ss[k]? = some b) : rs.take (k + 1) = ss.take (k + 1) ↔ a = b := by
  rw [List.take_add_one, List.take_add_one, ha, hb, h]
  simp
set_option maxRecDepth 100000 in
set_option maxHeartbeats 4000000 in
theorem rsame_some (b1 off1 cap1 b2 off2 cap2 n : Nat) (rs ss : List B) (w : World) (hn1 : rs.length = n) (hn2 : ss.length = n) (hlen : n ≤ 100000) (l1 : LayS w b1 off1 rs) (l2 : LayS w b2 off2 ss) :
    Calls Tryd.prog 14 #[.slice (some ⟨b1, off1, none⟩) n cap1, .slice (some ⟨b2, off2, none⟩) n cap2] w fun e w' => e = .returned (.bool (decide (rs = ss))) ∧ Below w.heap.size w w' := by
  have L1 := Lib.hid l1
  have L2 := Lib.hid l2
  have N1 := Lib.hid hn1
  have N2 := Lib.hid hn2
  clear l1 l2 hn1 hn2
  go_enter Tryd.func14, Tryd.ntmps14
  go_wp2_with fail
  go_loopw [5] (fun i wr => ∃ k : Nat, k ≤ n ∧ i = .int .i64 k ∧ rs.take k = ss.take k ∧ Below w.heap.size w wr)
    (fun i _ => n - (intOf i).toNat)
  case atStart => exact ⟨0, by omega, rfl, rfl, Below.refl _ _⟩
  case round =>
    obtain ⟨k, hk, rfl, htk, hnx⟩ := hrel
    by_cases hlt : k < n
    · have hk1 : rs[k]? = some (rs[k]'(by rw [N1.out]; exact hlt)) := List.getElem?_eq_getElem _
      have hk2 : ss[k]? = some (ss[k]'(by rw [N2.out]; exact hlt)) := List.getElem?_eq_getElem _
      have d0 := L1.out.below hnx k _ hk1
      have e0 := L2.out.below hnx k _ hk2
      have hte := take_eqS htk hk1 hk2
      clear htk hk1 hk2
      generalize rs[k]'_ = ra at hte d0
      generalize ss[k]'_ = rb at hte e0
      by_cases heq : ra = rb
      · have hbe : (ra == rb) = true := by simp [heq]
        have HY := Lib.hid (hte.2 heq)
        clear hte heq
        go_upto_region 6 with fail
        go_quiet (fail)
        go_wp2_with fail
        go_roundw
        case rel => exact ⟨k + 1, by omega, by go_num, HY.out, by (repeat' (first | with_reducible exact Below.refl _ _ | with_reducible assumption | with_reducible refine q_alloc ?_ _ | with_reducible refine q_drew ?_ | with_reducible refine q_drewN _ ?_ | with_reducible refine q_setCell ?_ ?_ _ | (left; simp; done) | (right; simp; done) | (right; dsimp only; omega) | (left; dsimp only; omega)))⟩
        case measure => simp [intOf]; omega
      · have hbe : (ra == rb) = false := by simp [heq]
        have hfin : decide (rs = ss) = false := decide_eq_false fun e => heq (hte.1 (by rw [e]))
        have HF := Lib.hid hfin
        clear hte heq hfin
        go_upto_region 6 with fail
        go_quiet (fail)
        go_wp2_with fail
        go_returns
        exact ⟨by rw [HF.out]; rfl, by (repeat' (first | with_reducible exact Below.refl _ _ | with_reducible assumption | with_reducible refine q_alloc ?_ _ | with_reducible refine q_drew ?_ | with_reducible refine q_drewN _ ?_ | with_reducible refine q_setCell ?_ ?_ _ | (left; simp; done) | (right; simp; done) | (right; dsimp only; omega) | (left; dsimp only; omega)))⟩
    · have hkn : k = n := by omega
      subst hkn
      have hfin : decide (rs = ss) = true := by
        rw [List.take_of_length_le (by rw [N1.out]; omega), List.take_of_length_le (by rw [N2.out]; omega)] at htk
        exact decide_eq_true htk
      have HF := Lib.hid hfin
      clear hfin htk
      go_wp2_with fail
      go_returns
      exact ⟨by rw [HF.out]; rfl, hnx⟩
theorem rsame_len (a1 a2 : Option Addr) (n m cap1 cap2 : Nat) (w : World) (h : ¬ n = m) :
    Calls Tryd.prog 14 #[.slice a1 n cap1, .slice a2 m cap2] w fun e w' => e = .returned (.bool false) ∧ Below w.heap.size w w' := by
  have h2 : ¬ (n : Int) = (m : Int) := by omega
  go_enter Tryd.func14, Tryd.ntmps14
  go_wp2_with fail
  go_returns
  exact ⟨rfl, Below.refl _ _⟩
theorem rsame_nil (a1 a2 : Option Addr) (cap1 cap2 : Nat) (w : World) :
    Calls Tryd.prog 14 #[.slice a1 0 cap1, .slice a2 0 cap2] w fun e w' => e = .returned (.bool true) ∧ Below w.heap.size w w' := by
  go_enter Tryd.func14, Tryd.ntmps14
  go_wp2_with fail
  refine wp_loop_rounds 1 ?_
  rw [rounds_succ]
  go_wp2_with fail
  go_returns
  exact ⟨rfl, Below.refl _ _⟩
theorem rsame_any (v u : Value) (rs ss : List B) (w : World) (h1 : IsStrs w v rs) (h2 : IsStrs w u ss) (hlen : rs.length ≤ 100000) :
    Calls Tryd.prog 14 #[v, u] w fun e w' => e = .returned (.bool (decide (rs = ss))) ∧ Below w.heap.size w w' := by
  rcases h1 with ⟨a, cap, rfl, rfl⟩ | ⟨b, off, cap, rfl, hp, _, _, hb, hl⟩ <;> rcases h2 with ⟨a', cap', rfl, rfl⟩ | ⟨b', off', cap', rfl, hp', _, _, hb', hl'⟩
  · exact rsame_nil _ _ _ _ w
  · rw [show decide (([] : List B) = ss) = false from decide_eq_false (by rintro rfl; simp at hp')]
    exact rsame_len _ _ _ _ _ _ w (by omega)
  · rw [show decide (rs = ([] : List B)) = false from decide_eq_false (by rintro rfl; simp at hp)]
    exact rsame_len _ _ _ _ _ _ w (by omega)
  · by_cases he : rs.length = ss.length
    · rw [← he]
      exact rsame_some b off cap b' off' cap' rs.length rs ss w rfl he.symm hlen hl hl'
    · rw [show decide (rs = ss) = false from decide_eq_false (by rintro rfl; exact he rfl)]
      exact rsame_len _ _ _ _ _ _ w he

/-- Short tells true of no more names than so many, none of them longer than 300. -/
def ShortIs (ss : List B) (m : Nat) (b : Bool) : Prop := b = true → ss.length ≤ m ∧ ∀ s ∈ ss, s.length ≤ 300
set_option maxRecDepth 100000 in
set_option maxHeartbeats 4000000 in
theorem short_some (b off cap m : Nat) (ss : List B) (w : World) (hl : LayS w b off ss) (hm : m ≤ 1000) (hmx : ss.length ≤ maxLen) :
    Calls Tryd.prog 10 #[.slice (some ⟨b, off, none⟩) ss.length cap, i6 m] w fun e w' => ∃ r : Bool, e = .returned (.bool r) ∧ ShortIs ss m r ∧ w = w' := by
  have HL := Lib.hid hl
  have hmx' : (ss.length : Int) ≤ 9223372036854775807 := by unfold maxLen at hmx; omega
  clear hl
  go_enter Tryd.func10, Tryd.ntmps10
  go_wp2_with fail
  go_loopw [5] (fun i wr => ∃ k : Nat, k ≤ ss.length ∧ k ≤ m + 1 ∧ i = .int .i64 k ∧ Hid (∀ s ∈ ss.take k, s.length ≤ 300) ∧ wr = w)
    (fun i _ => ss.length - (intOf i).toNat)
  case atStart => exact ⟨0, by omega, by omega, rfl, Lib.hid (by simp), rfl⟩
  case round =>
    obtain ⟨k, hk, hkm, rfl, hall, rfl⟩ := hrel
    by_cases hlt : k < ss.length
    · have h1' : (k : Int) < (ss.length : Int) := by omega
      by_cases hlm : k ≤ m
      · have h2' : (k : Int) ≤ (m : Int) := by omega
        have hlk : ss[k]? = some ss[k] := List.getElem?_eq_getElem hlt
        have d0 := HL.out k _ hlk
        by_cases hs : (ss[k]).length ≤ 300
        · have hf : ∀ s ∈ ss.take (k + 1), s.length ≤ 300 := by
            rw [List.take_add_one, hlk]
            intro s hs'
            rcases List.mem_append.1 hs' with h | h
            · exact hall.out s h
            · simp at h; rw [h]; exact hs
          have HF := Lib.hid hf
          clear hf hlk hall
          generalize ss[k] = a at d0 hs
          have hs' : ¬ (300 : Int) < (a.length : Int) := by omega
          go_wp2_with fail
          go_roundw
          case rel => exact ⟨k + 1, by omega, by omega, by go_num, HF, by trivial⟩
          case measure => simp [intOf]; omega
        · clear hlk hall
          generalize ss[k] = a at d0 hs
          have hs' : (300 : Int) < (a.length : Int) := by omega
          go_wp2_with fail
          go_returns
          first | exact Or.inl ⟨rfl, fun h => (by cases h), rfl⟩ | exact ⟨false, rfl, fun h => (by cases h), rfl⟩ | exact ⟨rfl, fun h => (by cases h), rfl⟩
      · have h2' : ¬ (k : Int) ≤ (m : Int) := by omega
        have h3' : ¬ (ss.length : Int) ≤ (m : Int) := by omega
        go_wp2_with fail
        go_returns
        first | exact Or.inl ⟨rfl, fun h => (by cases h), rfl⟩ | exact ⟨false, rfl, fun h => (by cases h), rfl⟩ | exact ⟨rfl, fun h => (by cases h), rfl⟩
    · have hkl : k = ss.length := by omega
      subst hkl
      have hf := hall.out
      rw [List.take_length] at hf
      have HF := Lib.hid hf
      clear hf hall
      by_cases h3 : ss.length ≤ m
      · have h3' : (ss.length : Int) ≤ (m : Int) := by omega
        go_wp2_with fail
        go_returns
        first | exact Or.inr ⟨rfl, fun _ => ⟨h3, HF.out⟩, rfl⟩ | exact ⟨true, rfl, fun _ => ⟨h3, HF.out⟩, rfl⟩ | exact ⟨rfl, fun _ => ⟨h3, HF.out⟩, rfl⟩
      · have h3' : ¬ (ss.length : Int) ≤ (m : Int) := by omega
        go_wp2_with fail
        go_returns
        first | exact Or.inl ⟨rfl, fun h => (by cases h), rfl⟩ | exact ⟨false, rfl, fun h => (by cases h), rfl⟩ | exact ⟨rfl, fun h => (by cases h), rfl⟩
theorem short_nil (a : Option Addr) (cap m : Nat) (w : World) :
    Calls Tryd.prog 10 #[.slice a 0 cap, i6 m] w fun e w' => ∃ r : Bool, e = .returned (.bool r) ∧ ShortIs [] m r ∧ w = w' := by
  have h0 : (0 : Int) ≤ (m : Int) := by omega
  have HM := Lib.hid h0
  clear h0
  go_enter Tryd.func10, Tryd.ntmps10
  go_wp2_with fail
  refine wp_loop_rounds 1 ?_
  rw [rounds_succ]
  go_wp2_with fail
  go_returns
  first | exact ⟨_, rfl, fun _ => ⟨by simp, by simp⟩, rfl⟩ | exact ⟨rfl, fun _ => ⟨by simp, by simp⟩, rfl⟩
theorem short_any (v : Value) (ss : List B) (m : Nat) (w : World) (h : IsStrs w v ss) (hm : m ≤ 1000) :
    Calls Tryd.prog 10 #[v, i6 m] w fun e w' => ∃ r : Bool, e = .returned (.bool r) ∧ ShortIs ss m r ∧ w = w' := by
  rcases h with ⟨a, cap, rfl, rfl⟩ | ⟨b, off, cap, rfl, _, h1, h2, _, hl⟩
  · exact short_nil a cap m w
  · exact short_some b off cap m ss w hl hm (by omega)

theorem und_strs : Tryd.prog.underlying 22 = some (.slice 9) := by kernel_rfl
theorem info_str : (Tryd.prog.info? 9).map (fun i => (i.zero, i.size, i.bytes)) = some (some (.string ⟨#[]⟩), 1, 16) := by kernel_rfl
theorem rknown_any (w : World) : Calls Tryd.prog 11 #[] w fun e w' => ∃ v, e = .returned v ∧ OwnS w' w.heap.size v knownL ∧ Below w.heap.size w w' := by
  go_enter Tryd.func11, Tryd.ntmps11
  go_wp2_with fail
  go_returns
  refine ⟨_, rfl, ?_, by (repeat' (first | with_reducible exact Below.refl _ _ | with_reducible assumption | with_reducible refine q_alloc ?_ _ | with_reducible refine q_drew ?_ | with_reducible refine q_drewN _ ?_ | with_reducible refine q_setCell ?_ ?_ _ | (left; simp; done) | (right; simp; done) | (right; dsimp only; omega) | (left; dsimp only; omega)))⟩
  exact World.ownsRow_lit w (knownL.map strV).toArray 10 (Nat.le_refl _) (by decide) rfl
end Go.Proofs.YtdkdpjlkjamemaaDoor
