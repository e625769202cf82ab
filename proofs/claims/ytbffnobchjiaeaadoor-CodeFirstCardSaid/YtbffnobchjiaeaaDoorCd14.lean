/- Layer 3: the document's forms of codes. -/
import Derived.Test.YtbffnobchjiaeaaDoorCd13
namespace Go.Proofs.YtbffnobchjiaeaaDoor
open Go Go.RowKit
set_option linter.unusedSimpArgs false
set_option linter.unusedVariables false
set_option maxRecDepth 100000 in
set_option maxHeartbeats 2000000 in
theorem rreq_out (n : Int) (w : World) (h : n < 1 ∨ 58 < n) : Calls Tryd.prog 12 #[i6 n] w (FormBack ([], false, 0) false w) := by
  by_cases h1 : n < 1
  · go_enter Tryd.func12, Tryd.ntmps12
    go_wp2_with fail
    exact bodyPost_ret (v := .tuple #[.agg #[.slice none 0 0, .bool false, i6 0], .bool false]) (by simp [results, Tryd.results12, go_sem]) rfl (formBack_zero (by (repeat' (first | with_reducible exact Below.refl _ _ | with_reducible assumption | with_reducible refine q_alloc ?_ _ | with_reducible refine q_drew ?_ | with_reducible refine q_drewN _ ?_ | with_reducible refine q_setCell ?_ ?_ _ | (left; simp; done) | (right; simp; done) | (right; dsimp only; omega) | (left; dsimp only; omega)))))
  · have h2 : 58 < n := by omega
    go_enter Tryd.func12, Tryd.ntmps12
    go_wp2_with fail
    refine (requests_any _).mono ?_
    rintro e w1 ⟨rfl, _, hb⟩
    have hq : Below w.heap.size w w1 := q_step (by (repeat' (first | with_reducible exact Below.refl _ _ | with_reducible assumption | with_reducible refine q_alloc ?_ _ | with_reducible refine q_drew ?_ | with_reducible refine q_drewN _ ?_ | with_reducible refine q_setCell ?_ ?_ _ | (left; simp; done) | (right; simp; done) | (right; dsimp only; omega) | (left; dsimp only; omega)))) hb
    have hd : Blk w1 w.heap.size [.slice none 0 0, .bool false, i6 0] := Blk.below (Blk.new rfl) hb
    have d0 := hd.cell 0 rfl
    have d1 := hd.cell 1 rfl
    have d2 := hd.cell 2 rfl
    have f0 := hd.froz 0 rfl
    have f1 := hd.froz 1 rfl
    have f2 := hd.froz 2 rfl
    go_wp2_with fail
    refine body_world (fun W => Below w.heap.size w W ∧ Blk W w.heap.size [.slice none 0 0, .bool false, i6 0]) ⟨by (repeat' (first | with_reducible exact Below.refl _ _ | with_reducible assumption | with_reducible refine q_alloc ?_ _ | with_reducible refine q_drew ?_ | with_reducible refine q_drewN _ ?_ | with_reducible refine q_setCell ?_ ?_ _ | (left; simp; done) | (right; simp; done) | (right; dsimp only; omega) | (left; dsimp only; omega))), ((hd.set 0 _ (by simp) rfl).set 1 _ (by simp) rfl).set 2 _ (by simp) rfl⟩ ?_
    intro W9 ⟨hq9, b9⟩
    clear d0 d1 d2 f0 f1 f2
    have d0 := b9.cell 0 rfl
    have d1 := b9.cell 1 rfl
    have d2 := b9.cell 2 rfl
    exact bodyPost_ret (v := .tuple #[.agg #[.slice none 0 0, .bool false, i6 0], .bool false]) (by simp [results, Tryd.results12, go_sem, d0, d1, d2]) rfl (formBack_zero hq9)
set_option maxRecDepth 100000 in
set_option maxHeartbeats 4000000 in
theorem rreq_in (k : Nat) (hk : k < 58) (F : F3) (s : B8) (e : E3) (hs : ReqIs k reqL e s) (hF : (formF e.2.1).1 = F) (w : World) : Calls Tryd.prog 12 #[i6 ((k : Int) + 1)] w (FormBack F true w) := by
  have hform := hs.form
  rw [hF] at hform
  have HS := Lib.hid hs
  have HFM := Lib.hid hform
  clear hs hF hform
  obtain ⟨ps, hps⟩ : ∃ ps, partsF s 124 = ps := ⟨_, rfl⟩
  have htwo : ps.length = 2 := by rw [← hps]; exact HS.out.two
  have hok := HS.out.ok
  rw [hps] at hok
  have HPS := Lib.hid hps
  have hfm := HFM.out
  rw [hps] at hfm
  clear hps HFM
  obtain ⟨p0, p1, rfl⟩ : ∃ p0 p1, ps = [p0, p1] := by
    match ps, htwo with
    | [p0, p1], _ => exact ⟨p0, p1, rfl⟩
  clear htwo
  have HOK : Hid (okR p1 = true) := Lib.hid hok
  have HFM : Hid (F = formR p1) := Lib.hid hfm
  clear hok hfm
  have hwr : IntKind.i64.wrap ((k : Int) + 1 - 1) = (k : Int) := by rw [IntWalk.i64_in _ (by omega)]; omega
  have hsb : (k : Int) + 1 - 1 = (k : Int) := by omega
  go_enter Tryd.func12, Tryd.ntmps12
  go_wp2_with fail
  refine (requests_any _).mono ?_
  rintro e w1 ⟨rfl, _, hb1⟩
  have hd1 : Blk w1 w.heap.size [.slice none 0 0, .bool false, i6 0] := Blk.below (Blk.new rfl) hb1
  have hq1 : Below w.heap.size w w1 := q_step (by (repeat' (first | with_reducible exact Below.refl _ _ | with_reducible assumption | with_reducible refine q_alloc ?_ _ | with_reducible refine q_drew ?_ | with_reducible refine q_drewN _ ?_ | with_reducible refine q_setCell ?_ ?_ _ | (left; simp; done) | (right; simp; done) | (right; dsimp only; omega) | (left; dsimp only; omega)))) hb1
  clear hb1
  go_wp2_with fail
  refine (requests_any _).mono ?_
  rintro e w2 ⟨rfl, hl2, hb2⟩
  have hd2 := hd1.below hb2
  have hq2 := q_step hq1 hb2
  have dk := hl2.2 k (strV s) (by rw [List.getElem?_map, HS.out.at_]; rfl)
  clear hl2 hd1 hb2 hq1
  have HD2 := Lib.hid hd2
  clear hd2
  go_wp2_with fail
  refine (parts_any s 124 _ HS.out.len).mono ?_
  rintro e w3 ⟨v, rfl, hown, hb3⟩
  rw [HPS.out] at hown
  obtain ⟨g, cap, rfl⟩ := Joins.ownsRow_form hown (by simp)
  have e1 := hown.cellAt 1 (by simp)
  simp at e1
  have hd3 := HD2.out.below hb3
  have hq3 := q_step hq2 hb3
  clear hown dk hb3 hq2
  have HD3 := Lib.hid hd3
  clear hd3
  go_wp2_with fail
  refine (rform_any p1 _ HOK.out).mono ?_
  rintro e w4 ⟨fv, rfl, hI, hb4⟩
  rw [← HFM.out] at hI ⊢
  obtain ⟨fa, fm, fc, rfl⟩ := own_slice hI
  have hd4 := HD3.out.below hb4
  have hq4 := q_step hq3 hb4
  have HI := Lib.hid (own_le (base' := w.heap.size + 1) hI (by have := HD3.out.lt; omega))
  have d0 := hd4.cell 0 rfl
  have d1 := hd4.cell 1 rfl
  have d2 := hd4.cell 2 rfl
  have f0 := hd4.froz 0 rfl
  have f1 := hd4.froz 1 rfl
  have f2 := hd4.froz 2 rfl
  clear hI e1 hb4 hq3
  go_wp2_with fail
  refine body_world (fun W => Below w.heap.size w W ∧ Blk W w.heap.size [.slice fa fm fc, .bool F.2.1, i6 F.2.2] ∧ OwnI W (w.heap.size + 1) (.slice fa fm fc) F.1) ⟨by (repeat' (first | with_reducible exact Below.refl _ _ | with_reducible assumption | with_reducible refine q_alloc ?_ _ | with_reducible refine q_drew ?_ | with_reducible refine q_drewN _ ?_ | with_reducible refine q_setCell ?_ ?_ _ | (left; simp; done) | (right; simp; done) | (right; dsimp only; omega) | (left; dsimp only; omega))), ((hd4.set 0 _ (by simp) rfl).set 1 _ (by simp) rfl).set 2 _ (by simp) rfl, own_set (own_set (own_set HI.out (by omega)) (by omega)) (by omega)⟩ ?_
  intro W9 ⟨hq9, b9, i9⟩
  clear d0 d1 d2 f0 f1 f2
  have d0 := b9.cell 0 rfl
  have d1 := b9.cell 1 rfl
  have d2 := b9.cell 2 rfl
  exact bodyPost_ret (v := .tuple #[.agg #[.slice fa fm fc, .bool F.2.1, i6 F.2.2], .bool true]) (by simp [results, Tryd.results12, go_sem, d0, d1, d2]) rfl ⟨_, rfl, own_le i9 (by omega), hq9⟩
set_option maxRecDepth 100000 in
set_option maxHeartbeats 2000000 in
theorem reve_out (n : Int) (w : World) (h : n < 1 ∨ 25 < n) : Calls Tryd.prog 14 #[i6 n] w (FormBack ([], false, 0) false w) := by
  by_cases h1 : n < 1
  · go_enter Tryd.func14, Tryd.ntmps14
    go_wp2_with fail
    exact bodyPost_ret (v := .tuple #[.agg #[.slice none 0 0, .bool false, i6 0], .bool false]) (by simp [results, Tryd.results14, go_sem]) rfl (formBack_zero (by (repeat' (first | with_reducible exact Below.refl _ _ | with_reducible assumption | with_reducible refine q_alloc ?_ _ | with_reducible refine q_drew ?_ | with_reducible refine q_drewN _ ?_ | with_reducible refine q_setCell ?_ ?_ _ | (left; simp; done) | (right; simp; done) | (right; dsimp only; omega) | (left; dsimp only; omega)))))
  · have h2 : 25 < n := by omega
    go_enter Tryd.func14, Tryd.ntmps14
    go_wp2_with fail
    refine (events_any _).mono ?_
    rintro e w1 ⟨rfl, _, hb⟩
    have hq : Below w.heap.size w w1 := q_step (by (repeat' (first | with_reducible exact Below.refl _ _ | with_reducible assumption | with_reducible refine q_alloc ?_ _ | with_reducible refine q_drew ?_ | with_reducible refine q_drewN _ ?_ | with_reducible refine q_setCell ?_ ?_ _ | (left; simp; done) | (right; simp; done) | (right; dsimp only; omega) | (left; dsimp only; omega)))) hb
    have hd : Blk w1 w.heap.size [.slice none 0 0, .bool false, i6 0] := Blk.below (Blk.new rfl) hb
    have d0 := hd.cell 0 rfl
    have d1 := hd.cell 1 rfl
    have d2 := hd.cell 2 rfl
    have f0 := hd.froz 0 rfl
    have f1 := hd.froz 1 rfl
    have f2 := hd.froz 2 rfl
    go_wp2_with fail
    refine body_world (fun W => Below w.heap.size w W ∧ Blk W w.heap.size [.slice none 0 0, .bool false, i6 0]) ⟨by (repeat' (first | with_reducible exact Below.refl _ _ | with_reducible assumption | with_reducible refine q_alloc ?_ _ | with_reducible refine q_drew ?_ | with_reducible refine q_drewN _ ?_ | with_reducible refine q_setCell ?_ ?_ _ | (left; simp; done) | (right; simp; done) | (right; dsimp only; omega) | (left; dsimp only; omega))), ((hd.set 0 _ (by simp) rfl).set 1 _ (by simp) rfl).set 2 _ (by simp) rfl⟩ ?_
    intro W9 ⟨hq9, b9⟩
    clear d0 d1 d2 f0 f1 f2
    have d0 := b9.cell 0 rfl
    have d1 := b9.cell 1 rfl
    have d2 := b9.cell 2 rfl
    exact bodyPost_ret (v := .tuple #[.agg #[.slice none 0 0, .bool false, i6 0], .bool false]) (by simp [results, Tryd.results14, go_sem, d0, d1, d2]) rfl (formBack_zero hq9)
set_option maxRecDepth 100000 in
set_option maxHeartbeats 4000000 in
theorem reve_in (k : Nat) (hk : k < 25) (F : F3) (s : B8) (e : E3) (hs : ReqIs k evL e s) (hF : (formF e.2.1).1 = F) (w : World) : Calls Tryd.prog 14 #[i6 ((k : Int) + 1)] w (FormBack F true w) := by
  have hform := hs.form
  rw [hF] at hform
  have HS := Lib.hid hs
  have HFM := Lib.hid hform
  clear hs hF hform
  obtain ⟨ps, hps⟩ : ∃ ps, partsF s 124 = ps := ⟨_, rfl⟩
  have htwo : ps.length = 2 := by rw [← hps]; exact HS.out.two
  have hok := HS.out.ok
  rw [hps] at hok
  have HPS := Lib.hid hps
  have hfm := HFM.out
  rw [hps] at hfm
  clear hps HFM
  obtain ⟨p0, p1, rfl⟩ : ∃ p0 p1, ps = [p0, p1] := by
    match ps, htwo with
    | [p0, p1], _ => exact ⟨p0, p1, rfl⟩
  clear htwo
  have HOK : Hid (okR p1 = true) := Lib.hid hok
  have HFM : Hid (F = formR p1) := Lib.hid hfm
  clear hok hfm
  have hwr : IntKind.i64.wrap ((k : Int) + 1 - 1) = (k : Int) := by rw [IntWalk.i64_in _ (by omega)]; omega
  have hsb : (k : Int) + 1 - 1 = (k : Int) := by omega
  go_enter Tryd.func14, Tryd.ntmps14
  go_wp2_with fail
  refine (events_any _).mono ?_
  rintro e w1 ⟨rfl, _, hb1⟩
  have hd1 : Blk w1 w.heap.size [.slice none 0 0, .bool false, i6 0] := Blk.below (Blk.new rfl) hb1
  have hq1 : Below w.heap.size w w1 := q_step (by (repeat' (first | with_reducible exact Below.refl _ _ | with_reducible assumption | with_reducible refine q_alloc ?_ _ | with_reducible refine q_drew ?_ | with_reducible refine q_drewN _ ?_ | with_reducible refine q_setCell ?_ ?_ _ | (left; simp; done) | (right; simp; done) | (right; dsimp only; omega) | (left; dsimp only; omega)))) hb1
  clear hb1
  go_wp2_with fail
  refine (events_any _).mono ?_
  rintro e w2 ⟨rfl, hl2, hb2⟩
  have hd2 := hd1.below hb2
  have hq2 := q_step hq1 hb2
  have dk := hl2.2 k (strV s) (by rw [List.getElem?_map, HS.out.at_]; rfl)
  clear hl2 hd1 hb2 hq1
  have HD2 := Lib.hid hd2
  clear hd2
  go_wp2_with fail
  refine (parts_any s 124 _ HS.out.len).mono ?_
  rintro e w3 ⟨v, rfl, hown, hb3⟩
  rw [HPS.out] at hown
  obtain ⟨g, cap, rfl⟩ := Joins.ownsRow_form hown (by simp)
  have e1 := hown.cellAt 1 (by simp)
  simp at e1
  have hd3 := HD2.out.below hb3
  have hq3 := q_step hq2 hb3
  clear hown dk hb3 hq2
  have HD3 := Lib.hid hd3
  clear hd3
  go_wp2_with fail
  refine (rform_any p1 _ HOK.out).mono ?_
  rintro e w4 ⟨fv, rfl, hI, hb4⟩
  rw [← HFM.out] at hI ⊢
  obtain ⟨fa, fm, fc, rfl⟩ := own_slice hI
  have hd4 := HD3.out.below hb4
  have hq4 := q_step hq3 hb4
  have HI := Lib.hid (own_le (base' := w.heap.size + 1) hI (by have := HD3.out.lt; omega))
  have d0 := hd4.cell 0 rfl
  have d1 := hd4.cell 1 rfl
  have d2 := hd4.cell 2 rfl
  have f0 := hd4.froz 0 rfl
  have f1 := hd4.froz 1 rfl
  have f2 := hd4.froz 2 rfl
  clear hI e1 hb4 hq3
  go_wp2_with fail
  refine body_world (fun W => Below w.heap.size w W ∧ Blk W w.heap.size [.slice fa fm fc, .bool F.2.1, i6 F.2.2] ∧ OwnI W (w.heap.size + 1) (.slice fa fm fc) F.1) ⟨by (repeat' (first | with_reducible exact Below.refl _ _ | with_reducible assumption | with_reducible refine q_alloc ?_ _ | with_reducible refine q_drew ?_ | with_reducible refine q_drewN _ ?_ | with_reducible refine q_setCell ?_ ?_ _ | (left; simp; done) | (right; simp; done) | (right; dsimp only; omega) | (left; dsimp only; omega))), ((hd4.set 0 _ (by simp) rfl).set 1 _ (by simp) rfl).set 2 _ (by simp) rfl, own_set (own_set (own_set HI.out (by omega)) (by omega)) (by omega)⟩ ?_
  intro W9 ⟨hq9, b9, i9⟩
  clear d0 d1 d2 f0 f1 f2
  have d0 := b9.cell 0 rfl
  have d1 := b9.cell 1 rfl
  have d2 := b9.cell 2 rfl
  exact bodyPost_ret (v := .tuple #[.agg #[.slice fa fm fc, .bool F.2.1, i6 F.2.2], .bool true]) (by simp [results, Tryd.results14, go_sem, d0, d1, d2]) rfl ⟨_, rfl, own_le i9 (by omega), hq9⟩
end Go.Proofs.YtbffnobchjiaeaaDoor
