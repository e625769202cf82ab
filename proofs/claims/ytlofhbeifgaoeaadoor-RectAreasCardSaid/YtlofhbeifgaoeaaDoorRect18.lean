import Derived.Test.YtlofhbeifgaoeaaDoorRect12
import Derived.Test.YtlofhbeifgaoeaaDoorRect17
import Derived.BigQuiet
namespace Go.Proofs.YtlofhbeifgaoeaaDoor
open Go Go.RowKit
set_option linter.unusedSimpArgs false
set_option linter.unusedVariables false
def posR (r : R4) : Bool := decide (0 < r.2.2.1)
theorem pkept_yes {rs : List R4} {k : Nat} {r : R4} (h : rs[k]? = some r) (hz : posR r = true) : (rs.take (k + 1)).filter posR = (rs.take k).filter posR ++ [r] := by
  rw [List.take_add_one, h]; simp [hz]
theorem pkept_no {rs : List R4} {k : Nat} {r : R4} (h : rs[k]? = some r) (hz : posR r = false) : (rs.take (k + 1)).filter posR = (rs.take k).filter posR := by
  rw [List.take_add_one, h]; simp [hz]
theorem cellR_cells0 {w : World} {r : R4} {t : TypeId} {fr : Nat × Nat} : ∀ j u, (cellR r)[j]? = some u → (w.alloc (.cells #[i6 r.1, i6 r.2.1, i6 r.2.2.1, i6 r.2.2.2] t fr)).cell? ((⟨w.heap.size, 0, none⟩ : Addr).add j) = some u := by
  intro j u hj
  match j, hj with
  | 0, hj => simp [cellR] at hj; subst hj; exact cell_new rfl
  | 1, hj => simp [cellR] at hj; subst hj; exact cell_new rfl
  | 2, hj => simp [cellR] at hj; subst hj; exact cell_new rfl
  | 3, hj => simp [cellR] at hj; subst hj; exact cell_new rfl
  | j + 4, hj => simp [cellR] at hj

set_option maxRecDepth 100000 in
set_option maxHeartbeats 8000000 in
theorem rminus_none (x y r h a b c d x' y' r' h' a' b' c' d' p q s t : Int) (w : World) (n : Norm x y r h a b c d) (n' : Norm x' y' r' h' a' b' c' d')
    (nb : Betw (max a a') (max b b') (min (a + c) (a' + c')) (min (b + d) (b' + d')) p q s t) (hp : s = 0) :
    Calls Tryd.prog 24 #[rectV x y r h, rectV x' y' r' h'] w fun e w' => ∃ v, e = .returned v ∧ OwnR w' w.heap.size v ([(a, b, c, d)].filter posR) ∧ Below w.heap.size w w' := by
  generalize hL : [(a, b, c, d)] = L
  have HLL := Lib.hid hL
  clear hL
  have HN := Lib.hid n
  have HN2 := Lib.hid n'
  have HB := Lib.hid nb
  subst hp
  clear n n' nb
  go_enter Tryd.func24, Tryd.ntmps24
  go_wp2_with fail
  refine calls_world (fun W => Below w.heap.size w W ∧ Blk W (w.heap.size) [i6 x, i6 y, i6 r, i6 h] ∧ Blk W (w.heap.size + 1) [i6 x', i6 y', i6 r', i6 h']) ⟨by (repeat' (first | with_reducible exact Below.refl _ _ | with_reducible assumption | with_reducible refine q_alloc ?_ _ | with_reducible refine q_drew ?_ | with_reducible refine q_drewN _ ?_ | with_reducible refine q_setCell ?_ ?_ _ | (left; simp; done) | (right; simp; done) | (right; dsimp only; omega) | (left; dsimp only; omega))), (Blk.new rfl).alloc _, blk_new1 rfl⟩ ?_
  intro W1 ⟨hq1, b1_0, b1_1⟩
  refine (as_norm HN.out _).mono ?_
  rintro e w2 ⟨rfl, hb⟩
  have hq2 : Below w.heap.size w w2 := q_step hq1 hb
  have b2_0 := b1_0.below hb
  have b2_1 := b1_1.below hb
  clear hb b1_0 b1_1 hq1
  have b2_0c0 := b2_0.cell 0 rfl
  have b2_0f0 := b2_0.froz 0 rfl
  have b2_0c1 := b2_0.cell 1 rfl
  have b2_0f1 := b2_0.froz 1 rfl
  have b2_0c2 := b2_0.cell 2 rfl
  have b2_0f2 := b2_0.froz 2 rfl
  have b2_0c3 := b2_0.cell 3 rfl
  have b2_0f3 := b2_0.froz 3 rfl
  have b2_0z := b2_0.lt
  have b2_1c0 := b2_1.cell 0 rfl
  have b2_1f0 := b2_1.froz 0 rfl
  have b2_1c1 := b2_1.cell 1 rfl
  have b2_1f1 := b2_1.froz 1 rfl
  have b2_1c2 := b2_1.cell 2 rfl
  have b2_1f2 := b2_1.froz 2 rfl
  have b2_1c3 := b2_1.cell 3 rfl
  have b2_1f3 := b2_1.froz 3 rfl
  have b2_1z := b2_1.lt
  go_upto_region 2 with fail
  clear b2_0c0 b2_0f0 b2_0c1 b2_0f1 b2_0c2 b2_0f2 b2_0c3 b2_0f3 b2_0z b2_1c0 b2_1f0 b2_1c1 b2_1f1 b2_1c2 b2_1f2 b2_1c3 b2_1f3 b2_1z
  refine code_world (fun W => Below w.heap.size w W ∧ Blk W (w.heap.size) [i6 a, i6 b, i6 c, i6 d] ∧ Blk W (w.heap.size + 1) [i6 x', i6 y', i6 r', i6 h']) ⟨by (repeat' (first | with_reducible exact Below.refl _ _ | with_reducible assumption | with_reducible refine q_alloc ?_ _ | with_reducible refine q_drew ?_ | with_reducible refine q_drewN _ ?_ | with_reducible refine q_setCell ?_ ?_ _ | (left; simp; done) | (right; simp; done) | (right; dsimp only; omega) | (left; dsimp only; omega))), (b2_0).set4, (b2_1).far4 (by omega)⟩ ?_
  intro W3 ⟨hq3, b3_0, b3_1⟩
  clear b2_0 b2_1 hq2
  have b3_0c0 := b3_0.cell 0 rfl
  have b3_0f0 := b3_0.froz 0 rfl
  have b3_0c1 := b3_0.cell 1 rfl
  have b3_0f1 := b3_0.froz 1 rfl
  have b3_0c2 := b3_0.cell 2 rfl
  have b3_0f2 := b3_0.froz 2 rfl
  have b3_0c3 := b3_0.cell 3 rfl
  have b3_0f3 := b3_0.froz 3 rfl
  have b3_0z := b3_0.lt
  have b3_1c0 := b3_1.cell 0 rfl
  have b3_1f0 := b3_1.froz 0 rfl
  have b3_1c1 := b3_1.cell 1 rfl
  have b3_1f1 := b3_1.froz 1 rfl
  have b3_1c2 := b3_1.cell 2 rfl
  have b3_1f2 := b3_1.froz 2 rfl
  have b3_1c3 := b3_1.cell 3 rfl
  have b3_1f3 := b3_1.froz 3 rfl
  have b3_1z := b3_1.lt
  go_wp2_with fail
  clear b3_0c0 b3_0f0 b3_0c1 b3_0f1 b3_0c2 b3_0f2 b3_0c3 b3_0f3 b3_0z b3_1c0 b3_1f0 b3_1c1 b3_1f1 b3_1c2 b3_1f2 b3_1c3 b3_1f3 b3_1z
  refine (rcross_any a b c d a b c d x' y' r' h' a' b' c' d' p q 0 t _ (norm_idem HN.out) HN2.out HB.out).mono ?_
  rintro e w4 ⟨rfl, hb⟩
  have hq4 : Below w.heap.size w w4 := q_step hq3 hb
  have b4_0 := b3_0.below hb
  have b4_1 := b3_1.below hb
  clear hb b3_0 b3_1 hq3
  have b4_0c0 := b4_0.cell 0 rfl
  have b4_0f0 := b4_0.froz 0 rfl
  have b4_0c1 := b4_0.cell 1 rfl
  have b4_0f1 := b4_0.froz 1 rfl
  have b4_0c2 := b4_0.cell 2 rfl
  have b4_0f2 := b4_0.froz 2 rfl
  have b4_0c3 := b4_0.cell 3 rfl
  have b4_0f3 := b4_0.froz 3 rfl
  have b4_0z := b4_0.lt
  have b4_1c0 := b4_1.cell 0 rfl
  have b4_1f0 := b4_1.froz 0 rfl
  have b4_1c1 := b4_1.cell 1 rfl
  have b4_1f1 := b4_1.froz 1 rfl
  have b4_1c2 := b4_1.cell 2 rfl
  have b4_1f2 := b4_1.froz 2 rfl
  have b4_1c3 := b4_1.cell 3 rfl
  have b4_1f3 := b4_1.froz 3 rfl
  have b4_1z := b4_1.lt
  go_upto_region 4 with fail
  refine code_world (fun W => (Below w.heap.size w W ∧ LayR W (w4.heap.size + 1) 0 L) ∧ Blk W w4.heap.size [i6 p, i6 q, i6 0, i6 t]) ⟨⟨by (repeat' (first | with_reducible exact Below.refl _ _ | with_reducible assumption | with_reducible refine q_alloc ?_ _ | with_reducible refine q_drew ?_ | with_reducible refine q_drewN _ ?_ | with_reducible refine q_setCell ?_ ?_ _ | (left; simp; done) | (right; simp; done) | (right; dsimp only; omega) | (left; dsimp only; omega))), by rw [← HLL.out]; exact layR_of fun j v hj => cell_new1 (by simpa [cellsR, cellR] using hj)⟩, (Blk.new rfl).alloc _⟩ ?_
  intro wc ⟨⟨hqc, hlay⟩, g0⟩
  have g0c2 := g0.cell 2 rfl
  have g0z := g0.lt
  clear hq4 b4_0c0 b4_0f0 b4_0c1 b4_0f1 b4_0c2 b4_0f2 b4_0c3 b4_0f3 b4_0z b4_1c0 b4_1f0 b4_1c1 b4_1f1 b4_1c2 b4_1f2 b4_1c3 b4_1f3 b4_1z b4_0 b4_1
  have hLl : L.length = 1 := by rw [← HLL.out]; rfl
  clear HLL
  have HLY := Lib.hid hlay
  clear hlay
  obtain ⟨i0, hi, hz0, hz1, hz2⟩ := info_parts info_rect
  go_wp2_with fail
  go_loopw [9, 10] (fun v i wr => ∃ k : Nat, k ≤ 1 ∧ i = .int .i64 k ∧ OwnR wr wc.heap.size v ((L.take k).filter posR) ∧ Below wc.heap.size wc wr)
    (fun _ i _ => 1 - (intOf i).toNat)
  case atStart => exact ⟨0, by omega, rfl, World.ownsRow_nil _ _ _ _, Below.refl _ _⟩
  case round =>
    obtain ⟨k, hk, rfl, hown, hnx⟩ := hrel
    by_cases hlt : k < 1
    · have hlk : L[k]? = some L[k] := List.getElem?_eq_getElem (by omega)
      obtain ⟨d0, d1, d2, d3⟩ := HLY.out.below hnx k _ hlk
      rw [Nat.zero_add] at d0 d1 d2 d3
      have HLK := Lib.hid hlk
      clear hlk
      generalize L[k] = re at HLK d0 d1 d2 d3
      obtain ⟨pa, pb, pc, pd⟩ := re
      dsimp only at d0 d1 d2 d3
      by_cases hpc : 0 < pc
      · have hkept := pkept_yes HLK.out (by unfold posR; exact decide_eq_true hpc)
        have hkl : k + 1 ≤ 1 := hlt
        have hnl : ((L.take k).filter posR).length ≤ 1 := Nat.le_trans (List.length_filter_le _ _) (by rw [List.length_take]; omega)
        go_wp2_with (at_builtin; refine wpList_append_own _ rfl _ _ 34 rfl wc.heap.size 23 i0 (.agg #[i6 0, i6 0, i6 0, i6 0]) 4 32 und_rects hi hz0 hz1 hz2 rfl (by decide) _ _ _ rfl (hown.alloc _) ⟨wr.heap.size, 0, none⟩ 1 1 (cellR (pa, pb, pc, pd)) rfl rfl cellR_cells0 cellR_one ?c3 ?c4 ?c5 ?_)
        case c3 => unfold maxLen; omega
        case c4 => omega
        case c5 => have := hnx.size; simp; omega
        intro v' w9 hown' hgrow _
        have hb1 : Below wc.heap.size wc w9 := (hnx.alloc hnx.size _).grown hgrow (by have := hnx.size; simp; omega) (fun j hj => (hown.lt j hj).1)
        have hown2 : OwnR w9 wc.heap.size v' ((L.take (k + 1)).filter posR) := by
          unfold OwnR
          rw [hkept, cellsR_snoc, List.length_append]; exact hown'
        clear hown' hgrow hown hnx
        go_wp2_with fail
        go_roundw
        case rel => exact ⟨k + 1, by omega, by go_num, hown2, hb1⟩
        case measure => simp [intOf]; omega
      · have hkept := pkept_no HLK.out (by unfold posR; exact decide_eq_false hpc)
        go_wp2_with fail
        go_roundw
        case rel => exact ⟨k + 1, by omega, by go_num, by rw [hkept]; exact hown, hnx⟩
        case measure => simp [intOf]; omega
    · have hk4 : k = 1 := by omega
      subst hk4
      have hown2 : OwnR wr w.heap.size u9 (L.filter posR) := by
        rw [List.take_of_length_le (by omega)] at hown
        exact Joins.ownsRow_le hown hqc.size
      go_wp2_with fail
      go_returns
      exact ⟨_, rfl, hown2, q_step hqc hnx⟩

end Go.Proofs.YtlofhbeifgaoeaaDoor
