/- Layer 3: the document's forms of replies. -/
import Derived.Test.YtbffnobchjiaeaaDoorCd14
namespace Go.Proofs.YtbffnobchjiaeaaDoor
open Go Go.RowKit
set_option linter.unusedSimpArgs false
set_option linter.unusedVariables false
set_option maxRecDepth 100000 in
set_option maxHeartbeats 2000000 in
theorem rrep_out (n : Int) (w : World) (h : n < 1 ∨ 58 < n) : Calls Tryd.prog 13 #[i6 n] w (FormBack ([], false, 0) false w) := by
  by_cases h1 : n < 1
  · go_enter Tryd.func13, Tryd.ntmps13
    go_wp2_with fail
    exact bodyPost_ret (v := .tuple #[.agg #[.slice none 0 0, .bool false, i6 0], .bool false]) (by simp [results, Tryd.results13, go_sem]) rfl (formBack_zero (by (repeat' (first | with_reducible exact Below.refl _ _ | with_reducible assumption | with_reducible refine q_alloc ?_ _ | with_reducible refine q_drew ?_ | with_reducible refine q_drewN _ ?_ | with_reducible refine q_setCell ?_ ?_ _ | (left; simp; done) | (right; simp; done) | (right; dsimp only; omega) | (left; dsimp only; omega)))))
  · have h2 : 58 < n := by omega
    go_enter Tryd.func13, Tryd.ntmps13
    go_wp2_with fail
    refine (replies_any _).mono ?_
    rintro e w1 ⟨rfl, _, hb⟩
    have hq : Below w.heap.size w w1 := q_step (by (repeat' (first | with_reducible exact Below.refl _ _ | with_reducible assumption | with_reducible refine q_alloc ?_ _ | with_reducible refine q_drew ?_ | with_reducible refine q_drewN _ ?_ | with_reducible refine q_setCell ?_ ?_ _ | (left; simp; done) | (right; simp; done) | (right; dsimp only; omega) | (left; dsimp only; omega)))) hb
    have hd : Blk w1 w.heap.size [.slice none 0 0, .bool false, i6 0] := Blk.below (Blk.new rfl) hb
    have d0 := hd.cell 0 rfl
    have d1 := hd.cell 1 rfl
    have d2 := hd.cell 2 rfl
    have f0 := hd.froz 0 rfl
    have f1 := hd.froz 1 rfl
    have f2 := hd.froz 2 rfl
    go_wp2_with fail
    refine body_world (fun W => Below w.heap.size w W ∧ Blk W w.heap.size [.slice none 0 0, .bool false, i6 0]) ⟨by (repeat' (first | with_reducible exact Below.refl _ _ | with_reducible assumption | with_reducible refine q_alloc ?_ _ | with_reducible refine q_drew ?_ | with_reducible refine q_drewN _ ?_ | with_reducible refine q_setCell ?_ ?_ _ | (left; simp; done) | (right; simp; done) | (right; dsimp only; omega) | (left; dsimp only; omega))), ((hd.set 0 _ (by simp) rfl).set 1 _ (by simp) rfl).set 2 _ (by simp) rfl⟩ ?_
    intro W9 ⟨hq9, b9⟩
    clear d0 d1 d2 f0 f1 f2
    have d0 := b9.cell 0 rfl
    have d1 := b9.cell 1 rfl
    have d2 := b9.cell 2 rfl
    exact bodyPost_ret (v := .tuple #[.agg #[.slice none 0 0, .bool false, i6 0], .bool false]) (by simp [results, Tryd.results13, go_sem, d0, d1, d2]) rfl (formBack_zero hq9)
set_option maxRecDepth 100000 in
set_option maxHeartbeats 2000000 in
theorem rrep_none (k : Nat) (hk : k < 58) (w : World) (hs : repL[k]? = some [45]) : Calls Tryd.prog 13 #[i6 ((k : Int) + 1)] w (FormBack ([], false, 0) false w) := by
  have hwr : IntKind.i64.wrap ((k : Int) + 1 - 1) = (k : Int) := by rw [IntWalk.i64_in _ (by omega)]; omega
  have hsb : (k : Int) + 1 - 1 = (k : Int) := by omega
  have HS := Lib.hid hs
  clear hs
  go_enter Tryd.func13, Tryd.ntmps13
  go_wp2_with fail
  refine (replies_any _).mono ?_
  rintro e w1 ⟨rfl, _, hb1⟩
  have hd1 : Blk w1 w.heap.size [.slice none 0 0, .bool false, i6 0] := Blk.below (Blk.new rfl) hb1
  have hq1 : Below w.heap.size w w1 := q_step (by (repeat' (first | with_reducible exact Below.refl _ _ | with_reducible assumption | with_reducible refine q_alloc ?_ _ | with_reducible refine q_drew ?_ | with_reducible refine q_drewN _ ?_ | with_reducible refine q_setCell ?_ ?_ _ | (left; simp; done) | (right; simp; done) | (right; dsimp only; omega) | (left; dsimp only; omega)))) hb1
  clear hb1
  go_wp2_with fail
  refine (replies_any _).mono ?_
  rintro e w2 ⟨rfl, hl2, hb2⟩
  have hd2 := hd1.below hb2
  have hq2 := q_step hq1 hb2
  have dk := hl2.2 k _ (by rw [List.getElem?_map, HS.out]; rfl)
  clear hl2 hd1 hb2 hq1
  have d0 := hd2.cell 0 rfl
  have d1 := hd2.cell 1 rfl
  have d2 := hd2.cell 2 rfl
  have f0 := hd2.froz 0 rfl
  have f1 := hd2.froz 1 rfl
  have f2 := hd2.froz 2 rfl
  go_wp2_with fail
  refine body_world (fun W => Below w.heap.size w W ∧ Blk W w.heap.size [.slice none 0 0, .bool false, i6 0]) ⟨by (repeat' (first | with_reducible exact Below.refl _ _ | with_reducible assumption | with_reducible refine q_alloc ?_ _ | with_reducible refine q_drew ?_ | with_reducible refine q_drewN _ ?_ | with_reducible refine q_setCell ?_ ?_ _ | (left; simp; done) | (right; simp; done) | (right; dsimp only; omega) | (left; dsimp only; omega))), ((hd2.set 0 _ (by simp) rfl).set 1 _ (by simp) rfl).set 2 _ (by simp) rfl⟩ ?_
  intro W9 ⟨hq9, b9⟩
  clear d0 d1 d2 f0 f1 f2
  have d0 := b9.cell 0 rfl
  have d1 := b9.cell 1 rfl
  have d2 := b9.cell 2 rfl
  exact bodyPost_ret (v := .tuple #[.agg #[.slice none 0 0, .bool false, i6 0], .bool false]) (by simp [results, Tryd.results13, go_sem, d0, d1, d2]) rfl (formBack_zero hq9)
set_option maxRecDepth 100000 in
set_option maxHeartbeats 4000000 in
theorem rrep_in (k : Nat) (hk : k < 58) (s : B8) (F : F3) (w : World) (hs : repL[k]? = some s) (hne : s ≠ [45]) (hok : okR s = true) (hF : F = formR s) : Calls Tryd.prog 13 #[i6 ((k : Int) + 1)] w (FormBack F true w) := by
  have HOK := Lib.hid hok
  have HFM := Lib.hid hF
  have ene : (s == [45]) = false := by simpa using hne
  clear hok hF hne
  have hwr : IntKind.i64.wrap ((k : Int) + 1 - 1) = (k : Int) := by rw [IntWalk.i64_in _ (by omega)]; omega
  have hsb : (k : Int) + 1 - 1 = (k : Int) := by omega
  have HS := Lib.hid hs
  clear hs
  go_enter Tryd.func13, Tryd.ntmps13
  go_wp2_with fail
  refine (replies_any _).mono ?_
  rintro e w1 ⟨rfl, _, hb1⟩
  have hd1 : Blk w1 w.heap.size [.slice none 0 0, .bool false, i6 0] := Blk.below (Blk.new rfl) hb1
  have hq1 : Below w.heap.size w w1 := q_step (by (repeat' (first | with_reducible exact Below.refl _ _ | with_reducible assumption | with_reducible refine q_alloc ?_ _ | with_reducible refine q_drew ?_ | with_reducible refine q_drewN _ ?_ | with_reducible refine q_setCell ?_ ?_ _ | (left; simp; done) | (right; simp; done) | (right; dsimp only; omega) | (left; dsimp only; omega)))) hb1
  clear hb1
  go_wp2_with fail
  refine (replies_any _).mono ?_
  rintro e w2 ⟨rfl, hl2, hb2⟩
  have hd2 := hd1.below hb2
  have hq2 := q_step hq1 hb2
  have dk := hl2.2 k _ (by rw [List.getElem?_map, HS.out]; rfl)
  clear hl2 hd1 hb2 hq1
  have HD2 := Lib.hid hd2
  clear hd2
  go_wp2_with fail
  refine (replies_any _).mono ?_
  rintro e w3 ⟨rfl, hl3, hb3⟩
  have hd3 := HD2.out.below hb3
  have hq3 := q_step hq2 hb3
  have dk3 := hl3.2 k (strV s) (by rw [List.getElem?_map, HS.out]; rfl)
  clear hl3 dk hb3 hq2
  have HD3 := Lib.hid hd3
  clear hd3
  go_wp2_with fail
  refine (rform_any s _ HOK.out).mono ?_
  rintro e w4 ⟨fv, rfl, hI, hb4⟩
  rw [← HFM.out] at hI ⊢
  obtain ⟨fa, fm, fc, rfl⟩ := own_slice hI
  have hd4 := HD3.out.below hb4
  have hq4 := q_step hq3 hb4
  have HI := Lib.hid (own_le (base' := w.heap.size + 1) hI (by have := HD3.out.lt; omega))
  have d0 := hd4.cell 0 rfl
  have d1 := hd4.cell 1 rfl
  have d2 := hd4.cell 2 rfl
  have f0 := hd4.froz 0 rfl
  have f1 := hd4.froz 1 rfl
  have f2 := hd4.froz 2 rfl
  clear hI dk3 hb4 hq3
  go_wp2_with fail
  refine body_world (fun W => Below w.heap.size w W ∧ Blk W w.heap.size [.slice fa fm fc, .bool F.2.1, i6 F.2.2] ∧ OwnI W (w.heap.size + 1) (.slice fa fm fc) F.1) ⟨by (repeat' (first | with_reducible exact Below.refl _ _ | with_reducible assumption | with_reducible refine q_alloc ?_ _ | with_reducible refine q_drew ?_ | with_reducible refine q_drewN _ ?_ | with_reducible refine q_setCell ?_ ?_ _ | (left; simp; done) | (right; simp; done) | (right; dsimp only; omega) | (left; dsimp only; omega))), ((hd4.set 0 _ (by simp) rfl).set 1 _ (by simp) rfl).set 2 _ (by simp) rfl, own_set (own_set (own_set HI.out (by omega)) (by omega)) (by omega)⟩ ?_
  intro W9 ⟨hq9, b9, i9⟩
  clear d0 d1 d2 f0 f1 f2
  have d0 := b9.cell 0 rfl
  have d1 := b9.cell 1 rfl
  have d2 := b9.cell 2 rfl
  exact bodyPost_ret (v := .tuple #[.agg #[.slice fa fm fc, .bool F.2.1, i6 F.2.2], .bool true]) (by simp [results, Tryd.results13, go_sem, d0, d1, d2]) rfl ⟨_, rfl, own_le i9 (by omega), hq9⟩
theorem repIs (k : Nat) (h : k < 58) : ((reqT ((k : Int) + 1)).2.2 = [45] ∧ repL[k]? = some [45]) ∨ ((reqT ((k : Int) + 1)).2.2 ≠ [45] ∧ ∃ s, repL[k]? = some s ∧ s ≠ [45] ∧ okR s = true ∧ (formF (reqT ((k : Int) + 1)).2.2).1 = formR s) := by
  have h1 := (List.all_eq_true.1 rep_eq) k (by simpa using h)
  have hk : k < repL.length := by rw [req_n.2.2]; exact h
  have hg : repL.getD k [] = repL[k] := by simp [List.getD, List.getElem?_eq_getElem hk]
  unfold eqRep at h1
  rw [hg] at h1
  simp only [Bool.or_eq_true, Bool.and_eq_true, beq_iff_eq, Bool.not_eq_true', beq_eq_false_iff_ne] at h1
  rcases h1 with ⟨a, b⟩ | ⟨⟨⟨a, b⟩, c⟩, d⟩
  · exact Or.inl ⟨a, by rw [List.getElem?_eq_getElem hk, b]⟩
  · exact Or.inr ⟨a, _, List.getElem?_eq_getElem hk, b, c, d⟩
/-- What both tell of a code. -/
theorem req_both (n : Int) : ∃ F ok, (ok = true ↔ 1 ≤ n ∧ n ≤ 58) ∧ (ok = true → F = (formF (reqT n).2.1).1) ∧ (ok = false → F = ([], false, 0)) ∧
    (∀ w, RowAt 0 spaceC w → Calls Tryd.prog 9 #[i6 n] w (FormBack F ok w)) ∧ (∀ w, Calls Tryd.prog 12 #[i6 n] w (FormBack F ok w)) := by
  by_cases h : n < 1 ∨ 58 < n
  · exact ⟨_, false, ⟨fun h => by simp at h, fun h => by omega⟩, fun h => by simp at h, fun _ => rfl, fun w _ => preq_out n w h, fun w => rreq_out n w h⟩
  · obtain ⟨k, hk, rfl⟩ : ∃ k : Nat, k < 58 ∧ n = (k : Int) + 1 := ⟨(n - 1).toNat, by omega, by omega⟩
    obtain ⟨s, hs⟩ := reqIs k hk
    have hm := tab_fact (reqT_mem ((k : Int) + 1) (by omega) (by omega))
    exact ⟨_, true, ⟨fun _ => by omega, fun _ => rfl⟩, fun _ => rfl, fun h => by simp at h, fun w hw => preq_in _ _ w rfl hm.2.1 hm.1 hw, fun w => rreq_in k hk _ s _ hs rfl w⟩
theorem eve_both (n : Int) : ∃ F ok, (ok = true ↔ 1 ≤ n ∧ n ≤ 25) ∧ (ok = true → F = (formF (eveT n).2.1).1) ∧ (ok = false → F = ([], false, 0)) ∧
    (∀ w, RowAt 0 spaceC w → Calls Tryd.prog 11 #[i6 n] w (FormBack F ok w)) ∧ (∀ w, Calls Tryd.prog 14 #[i6 n] w (FormBack F ok w)) := by
  by_cases h : n < 1 ∨ 25 < n
  · exact ⟨_, false, ⟨fun h => by simp at h, fun h => by omega⟩, fun h => by simp at h, fun _ => rfl, fun w _ => peve_out n w h, fun w => reve_out n w h⟩
  · obtain ⟨k, hk, rfl⟩ : ∃ k : Nat, k < 25 ∧ n = (k : Int) + 1 := ⟨(n - 1).toNat, by omega, by omega⟩
    obtain ⟨s, hs⟩ := eveIs k hk
    have hm := tab_fact (eveT_mem ((k : Int) + 1) (by omega) (by omega))
    exact ⟨_, true, ⟨fun _ => by omega, fun _ => rfl⟩, fun _ => rfl, fun h => by simp at h, fun w hw => peve_in _ _ w rfl hm.2.1 hm.1 hw, fun w => reve_in k hk _ s _ hs rfl w⟩
theorem rep_both (n : Int) : ∃ F ok, (ok = true → 1 ≤ n ∧ n ≤ 58 ∧ (reqT n).2.2 ≠ [45] ∧ F = (formF (reqT n).2.2).1) ∧ (ok = false → F = ([], false, 0)) ∧ (n = 9 → ok = true) ∧
    (∀ w, RowAt 0 spaceC w → Calls Tryd.prog 10 #[i6 n] w (FormBack F ok w)) ∧ (∀ w, Calls Tryd.prog 13 #[i6 n] w (FormBack F ok w)) := by
  by_cases h : n < 1 ∨ 58 < n
  · exact ⟨_, false, fun h => by simp at h, fun _ => rfl, fun h9 => by omega, fun w _ => prep_out n w h, fun w => rrep_out n w h⟩
  · obtain ⟨k, hk, rfl⟩ : ∃ k : Nat, k < 58 ∧ n = (k : Int) + 1 := ⟨(n - 1).toNat, by omega, by omega⟩
    have hm := tab_fact (reqT_mem ((k : Int) + 1) (by omega) (by omega))
    rcases repIs k hk with ⟨h1, h2⟩ | ⟨h1, s, h2, h3, h4, h5⟩
    · refine ⟨_, false, fun h => by simp at h, fun _ => rfl, fun h9 => ?_, fun w _ => prep_none _ _ w rfl hm.2.1 h1, fun w => rrep_none k hk w h2⟩
      obtain rfl : k = 8 := by omega
      exact absurd h1 (by decide +kernel)
    · exact ⟨_, true, fun _ => ⟨by omega, by omega, h1, rfl⟩, fun h => by simp at h, fun _ => rfl, fun w hw => prep_in _ _ w rfl hm.2.1 (hm.2.2.resolve_left h1) (by simpa using h1) hw, fun w => rrep_in k hk s _ w h2 h3 h4 h5⟩
end Go.Proofs.YtbffnobchjiaeaaDoor
