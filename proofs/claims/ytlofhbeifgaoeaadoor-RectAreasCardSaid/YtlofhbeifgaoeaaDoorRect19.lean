import Derived.Test.YtlofhbeifgaoeaaDoorRect18
import Derived.Deep.RegionHeld3
namespace Go.Proofs.YtlofhbeifgaoeaaDoor
open Go Go.RowKit
set_option linter.unusedSimpArgs false
set_option linter.unusedVariables false
set_option maxRecDepth 100000 in
set_option maxHeartbeats 12000000 in
theorem rminus_some (x y r h a b c d x' y' r' h' a' b' c' d' p q s t p1 q1 s1 t1 p2 q2 s2 t2 p3 q3 s3 t3 p4 q4 s4 t4 : Int) (w : World) (n : Norm x y r h a b c d) (n' : Norm x' y' r' h' a' b' c' d')
    (nb : Betw (max a a') (max b b') (min (a + c) (a' + c')) (min (b + d) (b' + d')) p q s t) (hp : 1 ≤ s) (nb1 : Betw (a) (b) (a + c) (q) p1 q1 s1 t1) (nb2 : Betw (a) (q) (p) (q + t) p2 q2 s2 t2) (nb3 : Betw (p + s) (q) (a + c) (q + t) p3 q3 s3 t3) (nb4 : Betw (a) (q + t) (a + c) (b + d) p4 q4 s4 t4) :
    Calls Tryd.prog 24 #[rectV x y r h, rectV x' y' r' h'] w fun e w' => ∃ v, e = .returned v ∧ OwnR w' w.heap.size v ([(p1, q1, s1, t1), (p2, q2, s2, t2), (p3, q3, s3, t3), (p4, q4, s4, t4)].filter posR) ∧ Below w.heap.size w w' := by
  generalize hL : [(p1, q1, s1, t1), (p2, q2, s2, t2), (p3, q3, s3, t3), (p4, q4, s4, t4)] = L
  have HLL := Lib.hid hL
  clear hL
  have HN := Lib.hid n
  have HN2 := Lib.hid n'
  have HB := Lib.hid nb
  have bn := n.bounds
  have bn' := n'.bounds
  have hpb : a ≤ p ∧ p + s ≤ a + c ∧ b ≤ q ∧ q + t ≤ b + d ∧ 1 ≤ t ∧ 1 ≤ c := by rcases nb with ⟨_, _, rfl, rfl, rfl, rfl⟩ | ⟨_, _, _, rfl, _⟩ <;> omega
  have hps : 0 < s := by omega
  have W1' : IntKind.i64.wrap (a + c) = a + c := IntWalk.i64_in _ (by omega)
  have W2' : IntKind.i64.wrap (q + t) = q + t := IntWalk.i64_in _ (by omega)
  have W3' : IntKind.i64.wrap (p + s) = p + s := IntWalk.i64_in _ (by omega)
  have W4' : IntKind.i64.wrap (b + d) = b + d := IntWalk.i64_in _ (by omega)
  have B1 := Lib.hid nb1
  have B2 := Lib.hid nb2
  have B3 := Lib.hid nb3
  have B4 := Lib.hid nb4
  have LB := Lib.hid (show -4194304 ≤ a ∧ a + c ≤ 4194304 ∧ -4194304 ≤ b ∧ q ≤ 4194304 ∧ -4194304 ≤ a ∧ p ≤ 4194304 ∧ -4194304 ≤ q ∧ q + t ≤ 4194304 ∧ -4194304 ≤ p + s ∧ a + c ≤ 4194304 ∧ -4194304 ≤ q ∧ q + t ≤ 4194304 ∧ -4194304 ≤ a ∧ a + c ≤ 4194304 ∧ -4194304 ≤ q + t ∧ b + d ≤ 4194304 by omega)
  clear n n' nb nb1 nb2 nb3 nb4 bn bn' hpb hp
  go_enter Tryd.func24, Tryd.ntmps24
  go_wp2_with fail
  refine calls_world (fun W => Below w.heap.size w W ∧ Blk W (w.heap.size) [i6 x, i6 y, i6 r, i6 h] ∧ Blk W (w.heap.size + 1) [i6 x', i6 y', i6 r', i6 h']) ⟨by (repeat' (first | with_reducible exact Below.refl _ _ | with_reducible assumption | with_reducible refine q_alloc ?_ _ | with_reducible refine q_drew ?_ | with_reducible refine q_drewN _ ?_ | with_reducible refine q_setCell ?_ ?_ _ | (left; simp; done) | (right; simp; done) | (right; dsimp only; omega) | (left; dsimp only; omega))), (Blk.new rfl).alloc _, blk_new1 rfl⟩ ?_
  intro W1 ⟨hq1, b1_0, b1_1⟩
  refine (as_norm HN.out _).mono ?_
  rintro e w2 ⟨rfl, hb⟩
  have hq2 : Below w.heap.size w w2 := q_step hq1 hb
  have b2_0 := b1_0.below hb
  have b2_1 := b1_1.below hb
  clear hb b1_0 b1_1 hq1
  have b2_0c0 := b2_0.cell 0 rfl
  have b2_0f0 := b2_0.froz 0 rfl
  have b2_0c1 := b2_0.cell 1 rfl
  have b2_0f1 := b2_0.froz 1 rfl
  have b2_0c2 := b2_0.cell 2 rfl
  have b2_0f2 := b2_0.froz 2 rfl
  have b2_0c3 := b2_0.cell 3 rfl
  have b2_0f3 := b2_0.froz 3 rfl
  have b2_0z := b2_0.lt
  have b2_1c0 := b2_1.cell 0 rfl
  have b2_1f0 := b2_1.froz 0 rfl
  have b2_1c1 := b2_1.cell 1 rfl
  have b2_1f1 := b2_1.froz 1 rfl
  have b2_1c2 := b2_1.cell 2 rfl
  have b2_1f2 := b2_1.froz 2 rfl
  have b2_1c3 := b2_1.cell 3 rfl
  have b2_1f3 := b2_1.froz 3 rfl
  have b2_1z := b2_1.lt
  go_upto_region 2 with fail
  clear b2_0c0 b2_0f0 b2_0c1 b2_0f1 b2_0c2 b2_0f2 b2_0c3 b2_0f3 b2_0z b2_1c0 b2_1f0 b2_1c1 b2_1f1 b2_1c2 b2_1f2 b2_1c3 b2_1f3 b2_1z
  refine code_world (fun W => Below w.heap.size w W ∧ Blk W (w.heap.size) [i6 a, i6 b, i6 c, i6 d] ∧ Blk W (w.heap.size + 1) [i6 x', i6 y', i6 r', i6 h']) ⟨by (repeat' (first | with_reducible exact Below.refl _ _ | with_reducible assumption | with_reducible refine q_alloc ?_ _ | with_reducible refine q_drew ?_ | with_reducible refine q_drewN _ ?_ | with_reducible refine q_setCell ?_ ?_ _ | (left; simp; done) | (right; simp; done) | (right; dsimp only; omega) | (left; dsimp only; omega))), (b2_0).set4, (b2_1).far4 (by omega)⟩ ?_
  intro W3 ⟨hq3, b3_0, b3_1⟩
  clear b2_0 b2_1 hq2
  have b3_0c0 := b3_0.cell 0 rfl
  have b3_0f0 := b3_0.froz 0 rfl
  have b3_0c1 := b3_0.cell 1 rfl
  have b3_0f1 := b3_0.froz 1 rfl
  have b3_0c2 := b3_0.cell 2 rfl
  have b3_0f2 := b3_0.froz 2 rfl
  have b3_0c3 := b3_0.cell 3 rfl
  have b3_0f3 := b3_0.froz 3 rfl
  have b3_0z := b3_0.lt
  have b3_1c0 := b3_1.cell 0 rfl
  have b3_1f0 := b3_1.froz 0 rfl
  have b3_1c1 := b3_1.cell 1 rfl
  have b3_1f1 := b3_1.froz 1 rfl
  have b3_1c2 := b3_1.cell 2 rfl
  have b3_1f2 := b3_1.froz 2 rfl
  have b3_1c3 := b3_1.cell 3 rfl
  have b3_1f3 := b3_1.froz 3 rfl
  have b3_1z := b3_1.lt
  go_wp2_with fail
  clear b3_0c0 b3_0f0 b3_0c1 b3_0f1 b3_0c2 b3_0f2 b3_0c3 b3_0f3 b3_0z b3_1c0 b3_1f0 b3_1c1 b3_1f1 b3_1c2 b3_1f2 b3_1c3 b3_1f3 b3_1z
  refine (rcross_any a b c d a b c d x' y' r' h' a' b' c' d' p q s t _ (norm_idem HN.out) HN2.out HB.out).mono ?_
  rintro e w4 ⟨rfl, hb⟩
  have hq4 : Below w.heap.size w w4 := q_step hq3 hb
  have b4_0 := b3_0.below hb
  have b4_1 := b3_1.below hb
  clear hb b3_0 b3_1 hq3
  have b4_0c0 := b4_0.cell 0 rfl
  have b4_0f0 := b4_0.froz 0 rfl
  have b4_0c1 := b4_0.cell 1 rfl
  have b4_0f1 := b4_0.froz 1 rfl
  have b4_0c2 := b4_0.cell 2 rfl
  have b4_0f2 := b4_0.froz 2 rfl
  have b4_0c3 := b4_0.cell 3 rfl
  have b4_0f3 := b4_0.froz 3 rfl
  have b4_0z := b4_0.lt
  have b4_1c0 := b4_1.cell 0 rfl
  have b4_1f0 := b4_1.froz 0 rfl
  have b4_1c1 := b4_1.cell 1 rfl
  have b4_1f1 := b4_1.froz 1 rfl
  have b4_1c2 := b4_1.cell 2 rfl
  have b4_1f2 := b4_1.froz 2 rfl
  have b4_1c3 := b4_1.cell 3 rfl
  have b4_1f3 := b4_1.froz 3 rfl
  have b4_1z := b4_1.lt
  go_upto_region 4 with fail
  clear b4_0c0 b4_0f0 b4_0c1 b4_0f1 b4_0c2 b4_0f2 b4_0c3 b4_0f3 b4_0z b4_1c0 b4_1f0 b4_1c1 b4_1f1 b4_1c2 b4_1f2 b4_1c3 b4_1f3 b4_1z
  refine code_world (fun W => Below w.heap.size w W ∧ Blk W (w.heap.size) [i6 a, i6 b, i6 c, i6 d] ∧ Blk W (w.heap.size + 1) [i6 x', i6 y', i6 r', i6 h'] ∧ Blk W (w4.heap.size) [i6 p, i6 q, i6 s, i6 t] ∧ Blk W (w4.heap.size + 1) [i6 a, i6 b, i6 c, i6 d]) ⟨by (repeat' (first | with_reducible exact Below.refl _ _ | with_reducible assumption | with_reducible refine q_alloc ?_ _ | with_reducible refine q_drew ?_ | with_reducible refine q_drewN _ ?_ | with_reducible refine q_setCell ?_ ?_ _ | (left; simp; done) | (right; simp; done) | (right; dsimp only; omega) | (left; dsimp only; omega))), ((b4_0).alloc _).alloc _, ((b4_1).alloc _).alloc _, (Blk.new rfl).alloc _, blk_new1 rfl⟩ ?_
  intro W5 ⟨hq5, b5_0, b5_1, b5_2, b5_3⟩
  clear b4_0 b4_1 hq4
  have b5_0c0 := b5_0.cell 0 rfl
  have b5_0f0 := b5_0.froz 0 rfl
  have b5_0c1 := b5_0.cell 1 rfl
  have b5_0f1 := b5_0.froz 1 rfl
  have b5_0c2 := b5_0.cell 2 rfl
  have b5_0f2 := b5_0.froz 2 rfl
  have b5_0c3 := b5_0.cell 3 rfl
  have b5_0f3 := b5_0.froz 3 rfl
  have b5_0z := b5_0.lt
  have b5_1c0 := b5_1.cell 0 rfl
  have b5_1f0 := b5_1.froz 0 rfl
  have b5_1c1 := b5_1.cell 1 rfl
  have b5_1f1 := b5_1.froz 1 rfl
  have b5_1c2 := b5_1.cell 2 rfl
  have b5_1f2 := b5_1.froz 2 rfl
  have b5_1c3 := b5_1.cell 3 rfl
  have b5_1f3 := b5_1.froz 3 rfl
  have b5_1z := b5_1.lt
  have b5_2c0 := b5_2.cell 0 rfl
  have b5_2f0 := b5_2.froz 0 rfl
  have b5_2c1 := b5_2.cell 1 rfl
  have b5_2f1 := b5_2.froz 1 rfl
  have b5_2c2 := b5_2.cell 2 rfl
  have b5_2f2 := b5_2.froz 2 rfl
  have b5_2c3 := b5_2.cell 3 rfl
  have b5_2f3 := b5_2.froz 3 rfl
  have b5_2z := b5_2.lt
  have b5_3c0 := b5_3.cell 0 rfl
  have b5_3f0 := b5_3.froz 0 rfl
  have b5_3c1 := b5_3.cell 1 rfl
  have b5_3f1 := b5_3.froz 1 rfl
  have b5_3c2 := b5_3.cell 2 rfl
  have b5_3f2 := b5_3.froz 2 rfl
  have b5_3c3 := b5_3.cell 3 rfl
  have b5_3f3 := b5_3.froz 3 rfl
  have b5_3z := b5_3.lt
  go_upto_region 5 with fail
  go_quiet (fail)
  refine exit_world (fun W => Below w.heap.size w W ∧ W.cell? ⟨w.heap.size, 0, none⟩ = some (i6 a) ∧ W.cell? ⟨w.heap.size, 1, none⟩ = some (i6 b) ∧ W.cell? ⟨w.heap.size, 2, none⟩ = some (i6 c) ∧ W.cell? ⟨w.heap.size, 3, none⟩ = some (i6 d) ∧ W.cell? ⟨w4.heap.size, 0, none⟩ = some (i6 p) ∧ W.cell? ⟨w4.heap.size, 1, none⟩ = some (i6 q) ∧ W.cell? ⟨w4.heap.size, 2, none⟩ = some (i6 s) ∧ W.cell? ⟨w4.heap.size, 3, none⟩ = some (i6 t)) ⟨by (repeat' (first | with_reducible exact Below.refl _ _ | with_reducible assumption | with_reducible refine q_alloc ?_ _ | with_reducible refine q_drew ?_ | with_reducible refine q_drewN _ ?_ | with_reducible refine q_setCell ?_ ?_ _ | (left; simp; done) | (right; simp; done) | (right; dsimp only; omega) | (left; dsimp only; omega))), b5_0c0, b5_0c1, b5_0c2, b5_0c3, b5_2c0, b5_2c1, b5_2c2, b5_2c3⟩ ?_
  intro WJ J
  clear hq5 b5_0c0 b5_0f0 b5_0c1 b5_0f1 b5_0c2 b5_0f2 b5_0c3 b5_0f3 b5_0z b5_1c0 b5_1f0 b5_1c1 b5_1f1 b5_1c2 b5_1f2 b5_1c3 b5_1f3 b5_1z b5_2c0 b5_2f0 b5_2c1 b5_2f1 b5_2c2 b5_2f2 b5_2c3 b5_2f3 b5_2z b5_3c0 b5_3f0 b5_3c1 b5_3f1 b5_3c2 b5_3f2 b5_3c3 b5_3f3 b5_3z b5_0 b5_1 b5_2 b5_3
  generalize w4.heap.size = CB at J ⊢
  clear HN HN2 HB
  go_upto_region 6 with fail
  go_region_held3 (fun w' => Below w.heap.size w w' ∧ w'.cell? ⟨w.heap.size, 0, none⟩ = some (i6 a) ∧ w'.cell? ⟨w.heap.size, 1, none⟩ = some (i6 b) ∧ w'.cell? ⟨w.heap.size, 2, none⟩ = some (i6 c) ∧ w'.cell? ⟨w.heap.size, 3, none⟩ = some (i6 d) ∧ w'.cell? ⟨CB, 0, none⟩ = some (i6 p) ∧ w'.cell? ⟨CB, 1, none⟩ = some (i6 q) ∧ w'.cell? ⟨CB, 2, none⟩ = some (i6 s) ∧ w'.cell? ⟨CB, 3, none⟩ = some (i6 t))
    (first | exact J | exact ⟨J.1.drew, J.2⟩ | exact s_alloc _ J)
    (first | (go_at_call 32; have g1 := B1; refine (rof_any (a) (b) (a + c) (q) p1 q1 s1 t1 _ B1.out LB.out.1 LB.out.2.1 LB.out.2.2.1 LB.out.2.2.2.1).mono ?_; rintro e w5 ⟨rfl, hb⟩; (first | replace J := s_step J hb | replace J := s_step J (below_drew hb)); clear hb g1 B1) | (go_at_call 32; have g2 := B2; refine (rof_any (a) (q) (p) (q + t) p2 q2 s2 t2 _ B2.out LB.out.2.2.2.2.1 LB.out.2.2.2.2.2.1 LB.out.2.2.2.2.2.2.1 LB.out.2.2.2.2.2.2.2.1).mono ?_; rintro e w5 ⟨rfl, hb⟩; (first | replace J := s_step J hb | replace J := s_step J (below_drew hb)); clear hb g2 B2) | (go_at_call 32; have g3 := B3; refine (rof_any (p + s) (q) (a + c) (q + t) p3 q3 s3 t3 _ B3.out LB.out.2.2.2.2.2.2.2.2.1 LB.out.2.2.2.2.2.2.2.2.2.1 LB.out.2.2.2.2.2.2.2.2.2.2.1 LB.out.2.2.2.2.2.2.2.2.2.2.2.1).mono ?_; rintro e w5 ⟨rfl, hb⟩; (first | replace J := s_step J hb | replace J := s_step J (below_drew hb)); clear hb g3 B3) | (go_at_call 32; have g4 := B4; refine (rof_any (a) (q + t) (a + c) (b + d) p4 q4 s4 t4 _ B4.out LB.out.2.2.2.2.2.2.2.2.2.2.2.2.1 LB.out.2.2.2.2.2.2.2.2.2.2.2.2.2.1 LB.out.2.2.2.2.2.2.2.2.2.2.2.2.2.2.1 LB.out.2.2.2.2.2.2.2.2.2.2.2.2.2.2.2).mono ?_; rintro e w5 ⟨rfl, hb⟩; (first | replace J := s_step J hb | replace J := s_step J (below_drew hb)); clear hb g4 B4))
  refine exit_world (fun wx => Below w.heap.size w wx ∧ LayR wx w5.heap.size 0 L) ⟨q_alloc J.1 _, by rw [← HLL.out]; exact layR_of fun j v hj => cell_new (by simpa [cellsR, cellR] using hj)⟩ ?_
  intro wc ⟨hqc, hlay⟩
  clear J
  have hLl : L.length = 4 := by rw [← HLL.out]; rfl
  clear HLL
  have HLY := Lib.hid hlay
  clear hlay
  obtain ⟨i0, hi, hz0, hz1, hz2⟩ := info_parts info_rect
  go_wp2_with fail
  go_loopw [9, 10] (fun v i wr => ∃ k : Nat, k ≤ 4 ∧ i = .int .i64 k ∧ OwnR wr wc.heap.size v ((L.take k).filter posR) ∧ Below wc.heap.size wc wr)
    (fun _ i _ => 4 - (intOf i).toNat)
  case atStart => exact ⟨0, by omega, rfl, World.ownsRow_nil _ _ _ _, Below.refl _ _⟩
  case round =>
    obtain ⟨k, hk, rfl, hown, hnx⟩ := hrel
    by_cases hlt : k < 4
    · have hlk : L[k]? = some L[k] := List.getElem?_eq_getElem (by omega)
      obtain ⟨d0, d1, d2, d3⟩ := HLY.out.below hnx k _ hlk
      rw [Nat.zero_add] at d0 d1 d2 d3
      have HLK := Lib.hid hlk
      clear hlk
      generalize L[k] = re at HLK d0 d1 d2 d3
      obtain ⟨pa, pb, pc, pd⟩ := re
      dsimp only at d0 d1 d2 d3
      by_cases hpc : 0 < pc
      · have hkept := pkept_yes HLK.out (by unfold posR; exact decide_eq_true hpc)
        have hkl : k + 1 ≤ 4 := hlt
        have hnl : ((L.take k).filter posR).length ≤ 4 := Nat.le_trans (List.length_filter_le _ _) (by rw [List.length_take]; omega)
        go_wp2_with (at_builtin; refine wpList_append_own _ rfl _ _ 34 rfl wc.heap.size 23 i0 (.agg #[i6 0, i6 0, i6 0, i6 0]) 4 32 und_rects hi hz0 hz1 hz2 rfl (by decide) _ _ _ rfl (hown.alloc _) ⟨wr.heap.size, 0, none⟩ 1 1 (cellR (pa, pb, pc, pd)) rfl rfl cellR_cells0 cellR_one ?c3 ?c4 ?c5 ?_)
        case c3 => unfold maxLen; omega
        case c4 => omega
        case c5 => have := hnx.size; simp; omega
        intro v' w9 hown' hgrow _
        have hb1 : Below wc.heap.size wc w9 := (hnx.alloc hnx.size _).grown hgrow (by have := hnx.size; simp; omega) (fun j hj => (hown.lt j hj).1)
        have hown2 : OwnR w9 wc.heap.size v' ((L.take (k + 1)).filter posR) := by
          unfold OwnR
          rw [hkept, cellsR_snoc, List.length_append]; exact hown'
        clear hown' hgrow hown hnx
        go_wp2_with fail
        go_roundw
        case rel => exact ⟨k + 1, by omega, by go_num, hown2, hb1⟩
        case measure => simp [intOf]; omega
      · have hkept := pkept_no HLK.out (by unfold posR; exact decide_eq_false hpc)
        go_wp2_with fail
        go_roundw
        case rel => exact ⟨k + 1, by omega, by go_num, by rw [hkept]; exact hown, hnx⟩
        case measure => simp [intOf]; omega
    · have hk4 : k = 4 := by omega
      subst hk4
      have hown2 : OwnR wr w.heap.size u9 (L.filter posR) := by
        rw [List.take_of_length_le (by omega)] at hown
        exact Joins.ownsRow_le hown hqc.size
      go_wp2_with fail
      go_returns
      exact ⟨_, rfl, hown2, q_step hqc hnx⟩
end Go.Proofs.YtlofhbeifgaoeaaDoor
