/- The document's Same and Holds. -/
import Derived.Test.YtlofhbeifgaoeaaDoorRect14
import Derived.Test.YtlofhbeifgaoeaaDoorRect10
import Derived.BigQuiet
namespace Go.Proofs.YtlofhbeifgaoeaaDoor
open Go Go.RowKit
set_option linter.unusedSimpArgs false
set_option linter.unusedVariables false

theorem take_eq {rs ss : List R4} {k : Nat} {a b : R4} (h : rs.take k = ss.take k) (ha : rs[k]? = some a) (hb : ss[k]? = some b) : rs.take (k + 1) = ss.take (k + 1) ↔ a = b := by
  rw [List.take_add_one, List.take_add_one, ha, hb, h]
  simp
theorem ne_of_take {rs ss : List R4} {k : Nat} (h : ¬ rs.take k = ss.take k) : decide (rs = ss) = false := decide_eq_false fun e => h (by rw [e])

set_option maxRecDepth 100000 in
set_option maxHeartbeats 4000000 in
theorem same_some (b1 off1 cap1 b2 off2 cap2 n : Nat) (rs ss : List R4) (w : World) (hn1 : rs.length = n) (hn2 : ss.length = n) (hlen : n ≤ 100000) (l1 : LayR w b1 off1 rs) (l2 : LayR w b2 off2 ss) :
    Calls Tryd.prog 22 #[.slice (some ⟨b1, off1, none⟩) n cap1, .slice (some ⟨b2, off2, none⟩) n cap2] w fun e w' => e = .returned (.bool (decide (rs = ss))) ∧ Below w.heap.size w w' := by
  have L1 := Lib.hid l1
  have L2 := Lib.hid l2
  have N1 := Lib.hid hn1
  have N2 := Lib.hid hn2
  have HR := Lib.hid (rfl : decide (rs = ss) = decide (rs = ss))
  clear l1 l2 hn1 hn2
  go_enter Tryd.func22, Tryd.ntmps22
  go_wp2_with fail
  go_loopw [5] (fun i wr => ∃ k : Nat, k ≤ n ∧ i = .int .i64 k ∧ rs.take k = ss.take k ∧ Below w.heap.size w wr)
    (fun i _ => n - (intOf i).toNat)
  case atStart => exact ⟨0, by omega, rfl, rfl, Below.refl _ _⟩
  case round =>
    obtain ⟨k, hk, rfl, htk, hnx⟩ := hrel
    by_cases hlt : k < n
    · have hk1 : rs[k]? = some (rs[k]'(by rw [N1.out]; exact hlt)) := List.getElem?_eq_getElem _
      have hk2 : ss[k]? = some (ss[k]'(by rw [N2.out]; exact hlt)) := List.getElem?_eq_getElem _
      obtain ⟨d0, d1, d2, d3⟩ := L1.out.below hnx k _ hk1
      obtain ⟨e0, e1, e2, e3⟩ := L2.out.below hnx k _ hk2
      have hte := take_eq htk hk1 hk2
      clear htk hk1 hk2
      generalize rs[k]'_ = ra at hte d0 d1 d2 d3
      generalize ss[k]'_ = rb at hte e0 e1 e2 e3
      obtain ⟨x, y, r, h⟩ := ra
      obtain ⟨x', y', r', h'⟩ := rb
      dsimp only at d0 d1 d2 d3 e0 e1 e2 e3
      rcases heq : eqR x y r h x' y' r' h' with _ | _
      · have hrun := fun w => rect_neb heq w
        have hne : ¬ rs.take (k + 1) = ss.take (k + 1) := by
          rw [hte]
          intro e
          simp only [Prod.mk.injEq] at e
          unfold eqR at heq
          exact (of_decide_eq_false heq) e
        have hfin := ne_of_take hne
        have HF := Lib.hid hfin
        clear heq hte hne hfin HR
        go_upto_region 6 with fail
        go_quiet (fail)
        go_wp2_with fail
        go_returns
        exact ⟨by rw [HF.out]; rfl, by (repeat' (first | with_reducible exact Below.refl _ _ | with_reducible assumption | with_reducible refine q_alloc ?_ _ | with_reducible refine q_drew ?_ | with_reducible refine q_drewN _ ?_ | with_reducible refine q_setCell ?_ ?_ _ | (left; simp; done) | (right; simp; done) | (right; dsimp only; omega) | (left; dsimp only; omega)))⟩
      · have hrun := fun w => rect_neb heq w
        have hyes : rs.take (k + 1) = ss.take (k + 1) := by
          rw [hte]
          unfold eqR at heq
          have := of_decide_eq_true heq
          simp only [Prod.mk.injEq]
          exact this
        have HY := Lib.hid hyes
        clear heq hte hyes
        go_upto_region 6 with fail
        go_quiet (fail)
        go_wp2_with fail
        go_roundw
        case rel => exact ⟨k + 1, by omega, by go_num, HY.out, by (repeat' (first | with_reducible exact Below.refl _ _ | with_reducible assumption | with_reducible refine q_alloc ?_ _ | with_reducible refine q_drew ?_ | with_reducible refine q_drewN _ ?_ | with_reducible refine q_setCell ?_ ?_ _ | (left; simp; done) | (right; simp; done) | (right; dsimp only; omega) | (left; dsimp only; omega)))⟩
        case measure => simp [intOf]; omega
    · have hkn : k = n := by omega
      subst hkn
      have hfin : decide (rs = ss) = true := by
        rw [List.take_of_length_le (by rw [N1.out]; omega), List.take_of_length_le (by rw [N2.out]; omega)] at htk
        exact decide_eq_true htk
      have HF := Lib.hid hfin
      clear hfin htk HR
      go_wp2_with fail
      go_returns
      exact ⟨by rw [HF.out]; rfl, hnx⟩

theorem same_len (a1 a2 : Option Addr) (n m cap1 cap2 : Nat) (w : World) (h : ¬ n = m) :
    Calls Tryd.prog 22 #[.slice a1 n cap1, .slice a2 m cap2] w fun e w' => e = .returned (.bool false) ∧ Below w.heap.size w w' := by
  have h2 : ¬ (n : Int) = (m : Int) := by omega
  go_enter Tryd.func22, Tryd.ntmps22
  go_wp2_with fail
  go_returns
  exact ⟨rfl, Below.refl _ _⟩
theorem same_nil (a1 a2 : Option Addr) (cap1 cap2 : Nat) (w : World) :
    Calls Tryd.prog 22 #[.slice a1 0 cap1, .slice a2 0 cap2] w fun e w' => e = .returned (.bool true) ∧ Below w.heap.size w w' := by
  go_enter Tryd.func22, Tryd.ntmps22
  go_wp2_with fail
  refine wp_loop_rounds 1 ?_
  rw [rounds_succ]
  go_wp2_with fail
  go_returns
  exact ⟨rfl, Below.refl _ _⟩
theorem same_any (v u : Value) (rs ss : List R4) (w : World) (h1 : IsRects w v rs) (h2 : IsRects w u ss) (hlen : rs.length ≤ 100000) :
    Calls Tryd.prog 22 #[v, u] w fun e w' => e = .returned (.bool (decide (rs = ss))) ∧ Below w.heap.size w w' := by
  rcases h1 with ⟨a, cap, rfl, rfl⟩ | ⟨b, off, cap, rfl, hp, _, _, hb, hl⟩ <;> rcases h2 with ⟨a', cap', rfl, rfl⟩ | ⟨b', off', cap', rfl, hp', _, _, hb', hl'⟩
  · exact same_nil _ _ _ _ w
  · rw [show decide (([] : List R4) = ss) = false from decide_eq_false (by rintro rfl; simp at hp')]
    exact same_len _ _ _ _ _ _ w (by omega)
  · rw [show decide (rs = ([] : List R4)) = false from decide_eq_false (by rintro rfl; simp at hp)]
    exact same_len _ _ _ _ _ _ w (by omega)
  · by_cases he : rs.length = ss.length
    · rw [← he]
      exact same_some b off cap b' off' cap' rs.length rs ss w rfl he.symm hlen hl hl'
    · rw [show decide (rs = ss) = false from decide_eq_false (by rintro rfl; exact he rfl)]
      exact same_len _ _ _ _ _ _ w he
end Go.Proofs.YtlofhbeifgaoeaaDoor
