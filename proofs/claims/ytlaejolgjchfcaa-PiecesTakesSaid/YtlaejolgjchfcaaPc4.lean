/- Layer 42: the piece that is to be written now. -/
import Derived.Test.YtlaejolgjchfcaaPc3
import Derived.Deep.RegionWith
namespace Go.Proofs.Ytlaejolgjchfcaa
open Go Go.RowKit
set_option linter.unusedSimpArgs false
set_option linter.unusedVariables false
theorem below_drew {w w' : World} (h : Below w.drew.heap.size w.drew w') : Below w.heap.size w w' := (Below.refl _ _).drew.trans h
set_option maxRecDepth 100000 in
set_option maxHeartbeats 4000000 in
theorem put_done (da : Option Addr) (cap : Nat) (us : List Int) (m a n : Nat) (w : World) (hv : IsI w (.slice da us.length cap) us) (hd : n ≤ a) :
    Calls Try.prog 13 #[gV (.slice da us.length cap) m a n] w fun e w' => e = .returned (.tuple #[pV false 0 (.slice none 0 0) false, .bool false]) ∧ Below w.heap.size w w' := by
  have HV := Lib.hid hv
  clear hv
  obtain ⟨D, hD⟩ : ∃ D, decide ((n : Int) ≤ (a : Int)) = D := ⟨_, rfl⟩
  obtain rfl : true = D := by rw [← hD]; simp; omega
  go_enter Try.func13, Try.ntmps13
  go_wp2_with fail
  refine calls_world (fun W => Below w.heap.size w W ∧ Blk W w.heap.size [.slice da us.length cap, i6 m, i6 a, i6 n] ∧ Blk W (w.heap.size + 1) [.bool false, i6 0, .slice none 0 0, .bool false]) ⟨by (repeat' (first | with_reducible exact Below.refl _ _ | with_reducible assumption | with_reducible refine q_alloc ?_ _ | with_reducible refine q_drew ?_ | with_reducible refine q_drewN _ ?_ | with_reducible refine q_setCell ?_ ?_ _ | (left; simp; done) | (right; simp; done) | (right; dsimp only; omega) | (left; dsimp only; omega))), (Blk.new rfl).alloc _, blk_new1 rfl⟩ ?_
  intro W1 ⟨hq1, b0, b1⟩
  refine (done_any (.slice da us.length cap) m a n _).mono ?_
  rintro e w2 ⟨rfl, hb⟩
  rw [hD]
  clear hD
  replace b0 := b0.below hb
  replace b1 := b1.below hb
  have hq := q_step hq1 hb
  clear hb hq1
  have c0 := b0.cell 0 rfl
  have c1 := b0.cell 1 rfl
  have c2 := b0.cell 2 rfl
  have c3 := b0.cell 3 rfl
  have d0 := b1.cell 0 rfl
  have d1 := b1.cell 1 rfl
  have d2 := b1.cell 2 rfl
  have d3 := b1.cell 3 rfl
  have e0 := b1.froz 0 rfl
  have e1 := b1.froz 1 rfl
  have e2 := b1.froz 2 rfl
  have e3 := b1.froz 3 rfl
  go_wp2_with fail
  refine body_world (fun W => Below w.heap.size w W ∧ Blk W (w.heap.size + 1) [.bool false, i6 0, .slice none 0 0, .bool false]) ⟨by (repeat' (first | with_reducible exact Below.refl _ _ | with_reducible assumption | with_reducible refine q_alloc ?_ _ | with_reducible refine q_drew ?_ | with_reducible refine q_drewN _ ?_ | with_reducible refine q_setCell ?_ ?_ _ | (left; simp; done) | (right; simp; done) | (right; dsimp only; omega) | (left; dsimp only; omega))), b1.set4⟩ ?_
  intro W4 ⟨hq4, b5⟩
  clear d0 d1 d2 d3 e0 e1 e2 e3
  have d0 := b5.cell 0 rfl
  have d1 := b5.cell 1 rfl
  have d2 := b5.cell 2 rfl
  have d3 := b5.cell 3 rfl
  exact bodyPost_ret (v := .tuple #[pV false 0 (.slice none 0 0) false, .bool false]) (by simp [results, Try.results13, go_sem, d0, d1, d2, d3]) rfl ⟨rfl, hq4⟩
set_option maxRecDepth 100000 in
set_option maxHeartbeats 4000000 in
theorem put_first (da : Option Addr) (cap : Nat) (us : List Int) (m a n : Nat) (w : World) (hv : IsI w (.slice da us.length cap) us) (hl : us.length ≤ 65536) (hd : 1 < n) :
    Calls Try.prog 13 #[gV (.slice da us.length cap) m 0 n] w fun e w' => e = .returned (.tuple #[pV true us.length (.slice none 0 0) false, .bool true]) ∧ Below w.heap.size w w' := by
  have HV := Lib.hid hv
  clear hv
  have g1 : ¬ (n : Int) = 1 := by omega
  obtain ⟨D, hD⟩ : ∃ D, decide ((n : Int) ≤ (0 : Int)) = D := ⟨_, rfl⟩
  obtain rfl : false = D := by rw [← hD]; simp; omega
  go_enter Try.func13, Try.ntmps13
  go_wp2_with fail
  refine calls_world (fun W => Below w.heap.size w W ∧ Blk W w.heap.size [.slice da us.length cap, i6 m, i6 0, i6 n] ∧ Blk W (w.heap.size + 1) [.bool false, i6 0, .slice none 0 0, .bool false]) ⟨by (repeat' (first | with_reducible exact Below.refl _ _ | with_reducible assumption | with_reducible refine q_alloc ?_ _ | with_reducible refine q_drew ?_ | with_reducible refine q_drewN _ ?_ | with_reducible refine q_setCell ?_ ?_ _ | (left; simp; done) | (right; simp; done) | (right; dsimp only; omega) | (left; dsimp only; omega))), (Blk.new rfl).alloc _, blk_new1 rfl⟩ ?_
  intro W1 ⟨hq1, b0, b1⟩
  refine (done_any (.slice da us.length cap) m 0 n _).mono ?_
  rintro e w2 ⟨rfl, hb⟩
  rw [hD]
  clear hD
  replace b0 := b0.below hb
  replace b1 := b1.below hb
  have hq := q_step hq1 hb
  clear hb hq1
  have c0 := b0.cell 0 rfl
  have c1 := b0.cell 1 rfl
  have c2 := b0.cell 2 rfl
  have c3 := b0.cell 3 rfl
  have d0 := b1.cell 0 rfl
  have d1 := b1.cell 1 rfl
  have d2 := b1.cell 2 rfl
  have d3 := b1.cell 3 rfl
  have e0 := b1.froz 0 rfl
  have e1 := b1.froz 1 rfl
  have e2 := b1.froz 2 rfl
  have e3 := b1.froz 3 rfl
  go_wp2_with fail
  refine body_world (fun W => Below w.heap.size w W ∧ Blk W (w.heap.size + 1) [.bool true, i6 us.length, .slice none 0 0, .bool false]) ⟨by (repeat' (first | with_reducible exact Below.refl _ _ | with_reducible assumption | with_reducible refine q_alloc ?_ _ | with_reducible refine q_drew ?_ | with_reducible refine q_drewN _ ?_ | with_reducible refine q_setCell ?_ ?_ _ | (left; simp; done) | (right; simp; done) | (right; dsimp only; omega) | (left; dsimp only; omega))), b1.set4⟩ ?_
  intro W4 ⟨hq4, b5⟩
  clear d0 d1 d2 d3 e0 e1 e2 e3
  have d0 := b5.cell 0 rfl
  have d1 := b5.cell 1 rfl
  have d2 := b5.cell 2 rfl
  have d3 := b5.cell 3 rfl
  exact bodyPost_ret (v := .tuple #[pV true us.length (.slice none 0 0) false, .bool true]) (by simp [results, Try.results13, go_sem, d0, d1, d2, d3]) rfl ⟨rfl, hq4⟩
set_option maxRecDepth 100000 in
set_option maxHeartbeats 4000000 in
theorem put_last (da : Option Addr) (cap : Nat) (us : List Int) (m a n : Nat) (w : World) (hv : IsI w (.slice da us.length cap) us) (hl : us.length ≤ 65536) (hd : 1 < n) (hn : n ≤ 100000) (ha : a + 1 = n) :
    Calls Try.prog 13 #[gV (.slice da us.length cap) m a n] w fun e w' => e = .returned (.tuple #[pV true 0 (.slice none 0 0) true, .bool true]) ∧ Below w.heap.size w w' := by
  have HV := Lib.hid hv
  clear hv
  have g1 : ¬ (n : Int) = 1 := by omega
  have g2 : ¬ (a : Int) = 0 := by omega
  have g3 : IntKind.i64.wrap ((n : Int) - 1) = (a : Int) := by rw [show ((n : Int) - 1) = (a : Int) by omega]; exact IntWalk.i64_in _ (by omega)
  obtain ⟨D, hD⟩ : ∃ D, decide ((n : Int) ≤ (a : Int)) = D := ⟨_, rfl⟩
  obtain rfl : false = D := by rw [← hD]; simp; omega
  go_enter Try.func13, Try.ntmps13
  go_wp2_with fail
  refine calls_world (fun W => Below w.heap.size w W ∧ Blk W w.heap.size [.slice da us.length cap, i6 m, i6 a, i6 n] ∧ Blk W (w.heap.size + 1) [.bool false, i6 0, .slice none 0 0, .bool false]) ⟨by (repeat' (first | with_reducible exact Below.refl _ _ | with_reducible assumption | with_reducible refine q_alloc ?_ _ | with_reducible refine q_drew ?_ | with_reducible refine q_drewN _ ?_ | with_reducible refine q_setCell ?_ ?_ _ | (left; simp; done) | (right; simp; done) | (right; dsimp only; omega) | (left; dsimp only; omega))), (Blk.new rfl).alloc _, blk_new1 rfl⟩ ?_
  intro W1 ⟨hq1, b0, b1⟩
  refine (done_any (.slice da us.length cap) m a n _).mono ?_
  rintro e w2 ⟨rfl, hb⟩
  rw [hD]
  clear hD
  replace b0 := b0.below hb
  replace b1 := b1.below hb
  have hq := q_step hq1 hb
  clear hb hq1
  have c0 := b0.cell 0 rfl
  have c1 := b0.cell 1 rfl
  have c2 := b0.cell 2 rfl
  have c3 := b0.cell 3 rfl
  have d0 := b1.cell 0 rfl
  have d1 := b1.cell 1 rfl
  have d2 := b1.cell 2 rfl
  have d3 := b1.cell 3 rfl
  have e0 := b1.froz 0 rfl
  have e1 := b1.froz 1 rfl
  have e2 := b1.froz 2 rfl
  have e3 := b1.froz 3 rfl
  go_wp2_with fail
  refine body_world (fun W => Below w.heap.size w W ∧ Blk W (w.heap.size + 1) [.bool true, i6 0, .slice none 0 0, .bool true]) ⟨by (repeat' (first | with_reducible exact Below.refl _ _ | with_reducible assumption | with_reducible refine q_alloc ?_ _ | with_reducible refine q_drew ?_ | with_reducible refine q_drewN _ ?_ | with_reducible refine q_setCell ?_ ?_ _ | (left; simp; done) | (right; simp; done) | (right; dsimp only; omega) | (left; dsimp only; omega))), b1.set4⟩ ?_
  intro W4 ⟨hq4, b5⟩
  clear d0 d1 d2 d3 e0 e1 e2 e3
  have d0 := b5.cell 0 rfl
  have d1 := b5.cell 1 rfl
  have d2 := b5.cell 2 rfl
  have d3 := b5.cell 3 rfl
  exact bodyPost_ret (v := .tuple #[pV true 0 (.slice none 0 0) true, .bool true]) (by simp [results, Try.results13, go_sem, d0, d1, d2, d3]) rfl ⟨rfl, hq4⟩
theorem elem_i64s : Try.prog.elem 22 = 2 := by kernel_rfl
theorem und_i64s' : Try.prog.underlying 22 = some (.slice (Try.prog.elem 22)) := by rw [elem_i64s]; exact und_i64s
theorem size_i64' (w : World) : (sizeOf (Try.prog.elem 22)).run Try.prog w = .ok 1 w := by rw [elem_i64s]; kernel_rfl
theorem slice_mid (a : Option Addr) (n cap F E : Nat) (us : List Int) (w0 : World) (h : IsI w0 (.slice a n cap) us) (hn : us.length = n) (hF : F ≤ E) (hE : E ≤ n) :
    ∃ v, (∀ w, (Instr.slice 22 (.slice a n cap) (some (.int .i64 (F : Int))) (some (.int .i64 (E : Int))) none).run Try.prog w = .ok v w) ∧ IsI w0 v ((us.drop F).take (E - F)) := by
  have hc : n ≤ cap ∨ n = 0 := by
    rcases h with ⟨_, _, e, h0⟩ | ⟨_, _, _, e, _, h2, _⟩
    · rw [h0] at hn; simp at hn; omega
    · simp only [Value.slice.injEq] at e; omega
  refine ⟨sliced a F E cap 1, fun w => ?_, ?_⟩
  · rw [run_slice_lh w _ a n cap und_i64s' .i64 .i64 (F : Int) (E : Int) (by omega) (by omega) (by omega), size_i64']
    simp [Result.andThen]
  · unfold sliced
    by_cases h0 : E - F = 0
    · exact Or.inl ⟨_, _, by rw [h0], by rw [h0]; rfl⟩
    · rcases h with ⟨_, _, e, h1⟩ | ⟨b, off, cap', e, h1, h2, h3, h4, h5⟩
      · rw [h1] at hn; simp at hn; omega
      · simp only [Value.slice.injEq] at e
        obtain ⟨rfl, _, rfl⟩ := e
        have hl : ((us.drop F).take (E - F)).length = E - F := by rw [List.length_take, List.length_drop]; omega
        refine Or.inr ⟨b, off + F, cap - F, ?_, by omega, by omega, by omega, h4, fun j r hj => ?_⟩
        · rw [if_neg (by omega), hl]; simp [addr_add]
        · rw [List.getElem?_take] at hj
          split at hj
          · rw [List.getElem?_drop] at hj
            have := h5 _ _ hj
            rw [show off + F + j = off + (F + j) by omega]
            exact this
          · simp at hj
set_option maxRecDepth 100000 in
set_option maxHeartbeats 4000000 in
theorem put_mid (da : Option Addr) (cap : Nat) (us : List Int) (m a n : Nat) (w : World) (hv : IsI w (.slice da us.length cap) us) (hl : us.length ≤ 65536) (hm1 : 1 ≤ m) (hm : m ≤ 16382) (ha : 0 < a) (hn : n ≤ 100000) (hd : a + 1 < n) (F E : Nat) (hF : F = (a - 1) * m) (hFl : F ≤ us.length) (hE : E = min (F + m) us.length) :
    Calls Try.prog 13 #[gV (.slice da us.length cap) m a n] w fun e w' => ∃ v, e = .returned (.tuple #[pV true 0 v false, .bool true]) ∧ IsI w' v ((us.drop F).take m) ∧ Below w.heap.size w w' := by
  have HV := Lib.hid hv
  clear hv
  obtain ⟨sv, hsl, hsv⟩ := slice_mid da us.length cap F E us w HV.out rfl (by omega) (by omega)
  have htk : (us.drop F).take (E - F) = (us.drop F).take m := by
    by_cases h : F + m ≤ us.length
    · rw [show E - F = m by omega]
    · rw [List.take_of_length_le (by rw [List.length_drop]; omega), List.take_of_length_le (by rw [List.length_drop]; omega)]
  rw [htk] at hsv
  have hpl : ((us.drop F).take m).length ≤ 16382 := by rw [List.length_take]; omega
  generalize (us.drop F).take m = ps at hsv hpl ⊢
  have HSV := Lib.hid hsv
  obtain ⟨sa, sc, rfl, _⟩ := isI_form hsv
  have g8 : (if (us.length : Int) < (F : Int) + (m : Int) then (us.length : Int) else (F : Int) + (m : Int)) = (E : Int) := by
    rcases Nat.le_total (F + m) us.length with h | h
    · have hE2 : E = F + m := by rw [hE]; exact Nat.min_eq_left h
      rw [if_neg (by omega), hE2]; omega
    · have hE2 : E = us.length := by rw [hE]; exact Nat.min_eq_right h
      rw [hE2]; split <;> omega
  clear hE
  have g1 : ¬ (n : Int) = 1 := by omega
  have g2 : ¬ (a : Int) = 0 := by omega
  have g3 : IntKind.i64.wrap ((n : Int) - 1) = (n : Int) - 1 := IntWalk.i64_in _ (by omega)
  have g4 : ¬ (a : Int) = (n : Int) - 1 := by omega
  have g5 : IntKind.i64.wrap ((a : Int) - 1) = (a : Int) - 1 := IntWalk.i64_in _ (by omega)
  have hFi : ((a : Int) - 1) * (m : Int) = (F : Int) := by rw [hF, Int.natCast_mul, show ((a - 1 : Nat) : Int) = (a : Int) - 1 by omega]
  have g6 : IntKind.i64.wrap (((a : Int) - 1) * (m : Int)) = (F : Int) := by rw [hFi]; exact IntWalk.i64_in _ (by omega)
  have g7 : IntKind.i64.wrap ((F : Int) + (m : Int)) = (F : Int) + (m : Int) := IntWalk.i64_in _ (by omega)
  clear hsv hFi hF hFl htk
  obtain ⟨D, hD⟩ : ∃ D, decide ((n : Int) ≤ (a : Int)) = D := ⟨_, rfl⟩
  obtain rfl : false = D := by rw [← hD]; simp; omega
  go_enter Try.func13, Try.ntmps13
  go_wp2_with fail
  refine calls_world (fun W => Below w.heap.size w W ∧ Blk W w.heap.size [.slice da us.length cap, i6 m, i6 a, i6 n] ∧ Blk W (w.heap.size + 1) [.bool false, i6 0, .slice none 0 0, .bool false]) ⟨by (repeat' (first | with_reducible exact Below.refl _ _ | with_reducible assumption | with_reducible refine q_alloc ?_ _ | with_reducible refine q_drew ?_ | with_reducible refine q_drewN _ ?_ | with_reducible refine q_setCell ?_ ?_ _ | (left; simp; done) | (right; simp; done) | (right; dsimp only; omega) | (left; dsimp only; omega))), (Blk.new rfl).alloc _, blk_new1 rfl⟩ ?_
  intro W1 ⟨hq1, b0, b1⟩
  refine (done_any (.slice da us.length cap) m a n _).mono ?_
  rintro e w2 ⟨rfl, hb⟩
  rw [hD]
  clear hD
  replace b0 := b0.below hb
  replace b1 := b1.below hb
  have hq := q_step hq1 hb
  clear hb hq1
  have c0 := b0.cell 0 rfl
  have c1 := b0.cell 1 rfl
  have c2 := b0.cell 2 rfl
  have c3 := b0.cell 3 rfl
  have d0 := b1.cell 0 rfl
  have d1 := b1.cell 1 rfl
  have d2 := b1.cell 2 rfl
  have d3 := b1.cell 3 rfl
  have e0 := b1.froz 0 rfl
  have e1 := b1.froz 1 rfl
  have e2 := b1.froz 2 rfl
  have e3 := b1.froz 3 rfl
  go_wp2_with fail
  refine (copied_any _ ps _ (HSV.out.below hq) (by omega)).mono ?_
  rintro e w5 ⟨rfl, hcp, hb⟩
  have hgt : w.heap.size + 1 < w2.heap.size := b1.lt
  replace b1 := b1.below hb
  replace hq := q_step hq hb
  have HCP := Lib.hid hcp
  have hne : w.heap.size + 1 ≠ w2.heap.size := by omega
  generalize w2.heap.size = g at HCP hne ⊢
  clear hb hcp d0 d1 d2 d3 e0 e1 e2 e3 c0 c1 c2 c3
  have d0 := b1.cell 0 rfl
  have d1 := b1.cell 1 rfl
  have d2 := b1.cell 2 rfl
  have d3 := b1.cell 3 rfl
  have e0 := b1.froz 0 rfl
  have e1 := b1.froz 1 rfl
  have e2 := b1.froz 2 rfl
  have e3 := b1.froz 3 rfl
  go_wp2_with fail
  refine body_world (fun W => Below w.heap.size w W ∧ Blk W (w.heap.size + 1) [.bool true, i6 0, .slice (some ⟨g, 0, none⟩) ps.length ps.length, .bool false] ∧ IsI W (.slice (some ⟨g, 0, none⟩) ps.length ps.length) ps) ⟨by (repeat' (first | with_reducible exact Below.refl _ _ | with_reducible assumption | with_reducible refine q_alloc ?_ _ | with_reducible refine q_drew ?_ | with_reducible refine q_drewN _ ?_ | with_reducible refine q_setCell ?_ ?_ _ | (left; simp; done) | (right; simp; done) | (right; dsimp only; omega) | (left; dsimp only; omega))), b1.set4, isI_set (isI_set (isI_set (isI_set HCP.out hne) hne) hne) hne⟩ ?_
  intro W4 ⟨hq4, b5, h6⟩
  clear d0 d1 d2 d3 e0 e1 e2 e3
  have d0 := b5.cell 0 rfl
  have d1 := b5.cell 1 rfl
  have d2 := b5.cell 2 rfl
  have d3 := b5.cell 3 rfl
  exact bodyPost_ret (v := .tuple #[pV true 0 (.slice (some ⟨g, 0, none⟩) ps.length ps.length) false, .bool true]) (by simp [results, Try.results13, go_sem, d0, d1, d2, d3]) rfl ⟨_, rfl, h6, hq4⟩
end Go.Proofs.Ytlaejolgjchfcaa
