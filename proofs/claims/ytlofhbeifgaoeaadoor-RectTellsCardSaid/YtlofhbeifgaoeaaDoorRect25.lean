import Derived.Test.YtlofhbeifgaoeaaDoorRect24
namespace Go.Proofs.YtlofhbeifgaoeaaDoor
open Go Go.RowKit
set_option linter.unusedSimpArgs false
set_option linter.unusedVariables false
theorem right_same (x y r h : Int) : rightB x y r h = rightC x y r h := by
  unfold rightB rightC wideB
  congr 1
  rw [Bool.eq_iff_iff, Bool.and_eq_true, decide_eq_true_iff, decide_eq_true_iff, decide_eq_true_iff]
  omega
theorem rholds_any (x y r h a b c d x' y' r' h' a' b' c' d' p q s t : Int) (w : World) (n : Norm x y r h a b c d) (n' : Norm x' y' r' h' a' b' c' d')
    (nb : Betw (max a a') (max b b') (min (a + c) (a' + c')) (min (b + d) (b' + d')) p q s t) :
    Calls Tryd.prog 17 #[rectV x y r h, rectV x' y' r' h'] w fun e w' => e = .returned (.bool (eqR p q s t a' b' c' d')) ∧ Below w.heap.size w w' := by
  by_cases hz : c' = 0
  · have := rholds_zero x y r h a b c d x' y' r' h' a' b' c' d' p q s t w n n' nb hz
    have b1 := n.bounds
    have b2 := n'.bounds
    have he : eqR p q s t a' b' c' d' = true := by
      refine decide_eq_true ?_
      rcases nb with ⟨h1, h2, _⟩ | ⟨_, rfl, rfl, rfl, rfl⟩ <;> omega
    rwa [he]
  · exact rholds_some x y r h a b c d x' y' r' h' a' b' c' d' p q s t w n n' nb hz

set_option maxRecDepth 100000 in
set_option maxHeartbeats 16000000 in
theorem tells_of (x y r h a b c d x' y' r' h' a' b' c' d' p q s t p1 q1 s1 t1 p2 q2 s2 t2 p3 q3 s3 t3 p4 q4 s4 t4 u v : Int) (w : World) (hs : RowAt 0 noneCells w) (n : Norm x y r h a b c d) (n' : Norm x' y' r' h' a' b' c' d')
    (nb : Betw (max a a') (max b b') (min (a + c) (a' + c')) (min (b + d) (b' + d')) p q s t) (nb1 : Betw (a) (b) (a + c) (q) p1 q1 s1 t1) (nb2 : Betw (a) (q) (p) (q + t) p2 q2 s2 t2) (nb3 : Betw (p + s) (q) (a + c) (q + t) p3 q3 s3 t3) (nb4 : Betw (a) (q + t) (a + c) (b + d) p4 q4 s4 t4) (ck : Int) (cb rb : Bool) (hck : (if rb then (0 : Int) else 1) = ck) (hrb : rightC x y r h = rb) (hcb : decide (c = 0) = cb) :
    Calls Tryd.prog 3 #[rectV x y r h, rectV x' y' r' h', i6 u, i6 v] w fun e w' => e = .returned (.bool true) ∧ Below w.heap.size w w' := by
  have HS := Lib.hid hs
  have HN := Lib.hid n
  have HN2 := Lib.hid n'
  have HB := Lib.hid nb
  have N1 := Lib.hid nb1
  have N2 := Lib.hid nb2
  have N3 := Lib.hid nb3
  have N4 := Lib.hid nb4
  have HRB := Lib.hid hrb
  have hck2 : (if rightB x y r h then (0 : Int) else 1) = ck := by rw [right_same, hrb]; exact hck
  have HCK := Lib.hid hck2
  have HCE := Lib.hid hcb
  have hcb2 : (c == 0) = cb := by rw [← hcb]; rfl
  have hfd : ∀ w : World, (Instr.field 23 (rectV a b c d) 2).run Tryd.prog w = .ok (i6 c) w := fun _ => by kernel_rfl
  have hml : (minusR c s (a, b, c, d) [(p1, q1, s1, t1), (p2, q2, s2, t2), (p3, q3, s3, t3), (p4, q4, s4, t4)]).length ≤ 100000 := Nat.le_trans (minusR_len _ _ _ _ _ _ _) (by decide)
  have hma : ∀ W : World, RowAt 0 noneCells W → Calls Tryd.prog 23 #[rectV x y r h, rectV x' y' r' h'] W fun e w' => ∃ v, e = .returned v ∧ IsRects w' v (minusR c s (a, b, c, d) [(p1, q1, s1, t1), (p2, q2, s2, t2), (p3, q3, s3, t3), (p4, q4, s4, t4)]) ∧ Below W.heap.size W w' :=
    fun W hW => (minus_any x y r h a b c d x' y' r' h' a' b' c' d' p q s t p1 q1 s1 t1 p2 q2 s2 t2 p3 q3 s3 t3 p4 q4 s4 t4 W hW n n' nb nb1 nb2 nb3 nb4).mono fun _ _ ⟨v, he, ho, hb⟩ => ⟨v, he, ownR_is ho, hb⟩
  have hmr : ∀ W : World, Calls Tryd.prog 24 #[rectV x y r h, rectV x' y' r' h'] W fun e w' => ∃ v, e = .returned v ∧ IsRects w' v (minusR c s (a, b, c, d) [(p1, q1, s1, t1), (p2, q2, s2, t2), (p3, q3, s3, t3), (p4, q4, s4, t4)]) ∧ Below W.heap.size W w' :=
    fun W => (rminus_any x y r h a b c d x' y' r' h' a' b' c' d' p q s t p1 q1 s1 t1 p2 q2 s2 t2 p3 q3 s3 t3 p4 q4 s4 t4 W n n' nb nb1 nb2 nb3 nb4).mono fun _ _ ⟨v, he, ho, hb⟩ => ⟨v, he, ownR_is ho, hb⟩
  generalize minusR c s (a, b, c, d) [(p1, q1, s1, t1), (p2, q2, s2, t2), (p3, q3, s3, t3), (p4, q4, s4, t4)] = LL at hml hma hmr
  have HSM := Lib.hid (show ∀ (W : World) (v u : Value), IsRects W v LL → IsRects W u LL → Calls Tryd.prog 22 #[v, u] W fun e w' => e = .returned (.bool true) ∧ Below W.heap.size W w' from
    fun W v u h1 h2 => (same_any v u LL LL W h1 h2 hml).mono fun _ _ ⟨he, hb⟩ => ⟨by rw [he, decide_eq_true rfl], hb⟩)
  have HMA := Lib.hid hma
  have HMR := Lib.hid hmr
  clear hml hma hmr
  have hr1 := fun w => rect_eqb (show eqR p q s t p q s t = true from decide_eq_true ⟨rfl, rfl, rfl, rfl⟩) w
  have G1 := Lib.hid (rfl : (1 : Nat) = 1)
  have G2 := Lib.hid (rfl : (2 : Nat) = 2)
  have G3 := Lib.hid (rfl : (3 : Nat) = 3)
  have G4 := Lib.hid (rfl : (4 : Nat) = 4)
  have G5 := Lib.hid (rfl : (5 : Nat) = 5)
  have G6 := Lib.hid (rfl : (6 : Nat) = 6)
  have G7 := Lib.hid (rfl : (7 : Nat) = 7)
  have G8 := Lib.hid (rfl : (8 : Nat) = 8)
  have G9 := Lib.hid (rfl : (9 : Nat) = 9)
  have G10 := Lib.hid (rfl : (10 : Nat) = 10)
  have G11 := Lib.hid (rfl : (11 : Nat) = 11)
  have G12 := Lib.hid (rfl : (12 : Nat) = 12)
  have G13 := Lib.hid (rfl : (13 : Nat) = 13)
  have G14 := Lib.hid (rfl : (14 : Nat) = 14)
  clear hs n n' nb nb1 nb2 nb3 nb4 hrb hck2 hcb
  go_enter Tryd.func3, Tryd.ntmps3
  go_wp2_with fail
  refine calls_world (fun W => Below w.heap.size w W ∧ Blk W (w.heap.size) [i6 x, i6 y, i6 r, i6 h] ∧ Blk W (w.heap.size + 1) [i6 x', i6 y', i6 r', i6 h']) ⟨by (repeat' (first | with_reducible exact Below.refl _ _ | with_reducible assumption | with_reducible refine q_alloc ?_ _ | with_reducible refine q_drew ?_ | with_reducible refine q_drewN _ ?_ | with_reducible refine q_setCell ?_ ?_ _ | (left; simp; done) | (right; simp; done) | (right; dsimp only; omega) | (left; dsimp only; omega))), (Blk.new rfl).alloc _, blk_new1 rfl⟩ ?_
  intro W1 ⟨hq1, b1_0, b1_1⟩
  refine (awake12 _ (HS.out.below hq1)).mono ?_
  rintro e w2 ⟨rfl, hb⟩
  have hq2 : Below w.heap.size w w2 := q_step hq1 hb
  have b2_0 := b1_0.below hb
  have b2_1 := b1_1.below hb
  clear hb b1_0 b1_1 hq1
  have b2_0c0 := b2_0.cell 0 rfl
  have b2_0f0 := b2_0.froz 0 rfl
  have b2_0c1 := b2_0.cell 1 rfl
  have b2_0f1 := b2_0.froz 1 rfl
  have b2_0c2 := b2_0.cell 2 rfl
  have b2_0f2 := b2_0.froz 2 rfl
  have b2_0c3 := b2_0.cell 3 rfl
  have b2_0f3 := b2_0.froz 3 rfl
  have b2_0z := b2_0.lt
  have b2_1c0 := b2_1.cell 0 rfl
  have b2_1f0 := b2_1.froz 0 rfl
  have b2_1c1 := b2_1.cell 1 rfl
  have b2_1f1 := b2_1.froz 1 rfl
  have b2_1c2 := b2_1.cell 2 rfl
  have b2_1f2 := b2_1.froz 2 rfl
  have b2_1c3 := b2_1.cell 3 rfl
  have b2_1f3 := b2_1.froz 3 rfl
  have b2_1z := b2_1.lt
  go_wp2_with fail
  clear b2_0c0 b2_0f0 b2_0c1 b2_0f1 b2_0c2 b2_0f2 b2_0c3 b2_0f3 b2_0z b2_1c0 b2_1f0 b2_1c1 b2_1f1 b2_1c2 b2_1f2 b2_1c3 b2_1f3 b2_1z
  refine (rright_any x y r h _).mono ?_
  rintro e w3 ⟨rfl, hb⟩
  have hq3 : Below w.heap.size w w3 := q_step hq2 hb
  have b3_0 := b2_0.below hb
  have b3_1 := b2_1.below hb
  clear hb b2_0 b2_1 hq2
  have b3_0c0 := b3_0.cell 0 rfl
  have b3_0f0 := b3_0.froz 0 rfl
  have b3_0c1 := b3_0.cell 1 rfl
  have b3_0f1 := b3_0.froz 1 rfl
  have b3_0c2 := b3_0.cell 2 rfl
  have b3_0f2 := b3_0.froz 2 rfl
  have b3_0c3 := b3_0.cell 3 rfl
  have b3_0f3 := b3_0.froz 3 rfl
  have b3_0z := b3_0.lt
  have b3_1c0 := b3_1.cell 0 rfl
  have b3_1f0 := b3_1.froz 0 rfl
  have b3_1c1 := b3_1.cell 1 rfl
  have b3_1f1 := b3_1.froz 1 rfl
  have b3_1c2 := b3_1.cell 2 rfl
  have b3_1f2 := b3_1.froz 2 rfl
  have b3_1c3 := b3_1.cell 3 rfl
  have b3_1f3 := b3_1.froz 3 rfl
  have b3_1z := b3_1.lt
  rw [HRB.out]
  have fin : ∀ W : World, Below w.heap.size w W ∧ Blk W (w.heap.size) [i6 x, i6 y, i6 r, i6 h] ∧ Blk W (w.heap.size + 1) [i6 x', i6 y', i6 r', i6 h'] → True := fun _ _ => trivial
  cases rb
  all_goals
    (first | (obtain rfl : 1 = ck := hck) | (obtain rfl : 0 = ck := hck))
    clear fin
    go_upto_region 6 with fail
    have J : Below w.heap.size w w3 ∧ w3.cell? ⟨w.heap.size, 0, none⟩ = some (i6 x) ∧ w3.cell? ⟨w.heap.size, 1, none⟩ = some (i6 y) ∧ w3.cell? ⟨w.heap.size, 2, none⟩ = some (i6 r) ∧ w3.cell? ⟨w.heap.size, 3, none⟩ = some (i6 h) ∧ w3.cell? ⟨w.heap.size + 1, 0, none⟩ = some (i6 x') ∧ w3.cell? ⟨w.heap.size + 1, 1, none⟩ = some (i6 y') ∧ w3.cell? ⟨w.heap.size + 1, 2, none⟩ = some (i6 r') ∧ w3.cell? ⟨w.heap.size + 1, 3, none⟩ = some (i6 h') := ⟨hq3, b3_0c0, b3_0c1, b3_0c2, b3_0c3, b3_1c0, b3_1c1, b3_1c2, b3_1c3⟩
    clear hq3 b3_0c0 b3_0f0 b3_0c1 b3_0f1 b3_0c2 b3_0f2 b3_0c3 b3_0f3 b3_0z b3_1c0 b3_1f0 b3_1c1 b3_1f1 b3_1c2 b3_1f2 b3_1c3 b3_1f3 b3_1z b3_0 b3_1
    go_cut [8] from 10 (fun sv wx => sv = .bool true ∧ Below w.heap.size w wx)
    case first =>
      go_region_held3 (fun w' => Below w.heap.size w w' ∧ w'.cell? ⟨w.heap.size, 0, none⟩ = some (i6 x) ∧ w'.cell? ⟨w.heap.size, 1, none⟩ = some (i6 y) ∧ w'.cell? ⟨w.heap.size, 2, none⟩ = some (i6 r) ∧ w'.cell? ⟨w.heap.size, 3, none⟩ = some (i6 h) ∧ w'.cell? ⟨w.heap.size + 1, 0, none⟩ = some (i6 x') ∧ w'.cell? ⟨w.heap.size + 1, 1, none⟩ = some (i6 y') ∧ w'.cell? ⟨w.heap.size + 1, 2, none⟩ = some (i6 r') ∧ w'.cell? ⟨w.heap.size + 1, 3, none⟩ = some (i6 h'))
        (first | exact J | exact ⟨J.1.drew, J.2⟩)
        (first | (go_at_call 11; have g1 := G1; refine (check_any x y r h _ ?_).mono ?_; (first | exact HS.out.below J.1 | exact (HS.out.below J.1).drew); rintro e w5 ⟨rfl, hb⟩; rw [HCK.out]; (first | replace J := s_step J hb | replace J := s_step J (below_drew hb)); clear hb g1 G1) | (go_at_call 12; have g2 := G2; refine (empty_norm x y r h a b c d _ ?_ HN.out).mono ?_; (first | exact HS.out.below J.1 | exact (HS.out.below J.1).drew); rintro e w5 ⟨rfl, hb⟩; rw [HCE.out]; (first | replace J := s_step J hb | replace J := s_step J (below_drew hb)); clear hb g2 G2) | (go_at_call 13; have g3 := G3; refine (as_norm HN.out _).mono ?_; rintro e w5 ⟨rfl, hb⟩; (first | replace J := s_step J hb | replace J := s_step J (below_drew hb)); clear hb g3 G3) | (go_at_call 14; have g4 := G4; refine (has_any x y r h a b c d u v _ ?_ HN.out).mono ?_; (first | exact HS.out.below J.1 | exact (HS.out.below J.1).drew); rintro e w5 ⟨rfl, hb⟩; (first | replace J := s_step J hb | replace J := s_step J (below_drew hb)); clear hb g4 G4) | (go_at_call 15; have g5 := G5; refine (rhas_any x y r h a b c d u v _ HN.out).mono ?_; rintro e w5 ⟨rfl, hb⟩; (first | replace J := s_step J hb | replace J := s_step J (below_drew hb)); clear hb g5 G5) | (go_at_call 16; have g6 := G6; refine (holds_any x y r h a b c d x' y' r' h' a' b' c' d' p q s t _ ?_ HN.out HN2.out HB.out).mono ?_; (first | exact HS.out.below J.1 | exact (HS.out.below J.1).drew); rintro e w5 ⟨rfl, hb⟩; (first | replace J := s_step J hb | replace J := s_step J (below_drew hb)); clear hb g6 G6) | (go_at_call 17; have g7 := G7; refine (rholds_any x y r h a b c d x' y' r' h' a' b' c' d' p q s t _ HN.out HN2.out HB.out).mono ?_; rintro e w5 ⟨rfl, hb⟩; (first | replace J := s_step J hb | replace J := s_step J (below_drew hb)); clear hb g7 G7) | (go_at_call 18; have g8 := G8; refine (area_any x y r h a b c d _ ?_ HN.out).mono ?_; (first | exact HS.out.below J.1 | exact (HS.out.below J.1).drew); rintro e w5 ⟨rfl, hb⟩; (first | replace J := s_step J hb | replace J := s_step J (below_drew hb)); clear hb g8 G8) | (go_at_call 19; have g9 := G9; refine (rarea_any x y r h a b c d _ HN.out).mono ?_; rintro e w5 ⟨rfl, hb⟩; (first | replace J := s_step J hb | replace J := s_step J (below_drew hb)); clear hb g9 G9) | (go_at_call 20; have g10 := G10; refine (cross_any x y r h a b c d x' y' r' h' a' b' c' d' p q s t _ ?_ HN.out HN2.out HB.out).mono ?_; (first | exact HS.out.below J.1 | exact (HS.out.below J.1).drew); rintro e w5 ⟨rfl, hb⟩; (first | replace J := s_step J hb | replace J := s_step J (below_drew hb)); clear hb g10 G10) | (go_at_call 21; have g11 := G11; refine (rcross_any x y r h a b c d x' y' r' h' a' b' c' d' p q s t _ HN.out HN2.out HB.out).mono ?_; rintro e w5 ⟨rfl, hb⟩; (first | replace J := s_step J hb | replace J := s_step J (below_drew hb)); clear hb g11 G11) | (go_at_call 23; have g12 := G12; refine (HMA.out _ ?_).mono ?_; (first | exact HS.out.below J.1 | exact (HS.out.below J.1).drew); rintro e w5 ⟨v9, rfl, hI, hb⟩; (first | replace J := s_step J hb | replace J := s_step J (below_drew hb)); clear hb g12 G12) | (go_at_call 24; have g13 := G13; refine (HMR.out _).mono ?_; rintro e w5 ⟨u9, rfl, hI2, hb⟩; (first | replace hI := hI.below hb | replace hI := hI.below (below_drew hb)); (first | replace J := s_step J hb | replace J := s_step J (below_drew hb)); clear hb g13 G13) | (go_at_call 22; have g14 := G14; refine (HSM.out _ _ _ ?_ ?_).mono ?_; (first | exact hI | exact hI.below ((Below.refl _ _).drew)); (first | exact hI2 | exact hI2.below ((Below.refl _ _).drew)); rintro e w5 ⟨rfl, hb⟩; (first | replace J := s_step J hb | replace J := s_step J (below_drew hb)); clear hb g14 G14))
      all_goals (go_wp2_with fail; go_meet; exact ⟨by first | rfl | simp, J.1⟩)
    case rest =>
      obtain ⟨rfl, hq⟩ := hcut
      go_wp2_with fail
      go_returns
      exact ⟨rfl, hq⟩

theorem ltells_any (x y r h x' y' r' h' u v : Int) (w : World) (hs : RowAt 0 noneCells w) :
    Calls Tryd.prog 3 #[rectV x y r h, rectV x' y' r' h', i6 u, i6 v] w fun e w' => e = .returned (.bool true) ∧ Below w.heap.size w w' := by
  obtain ⟨a, b, c, d, n⟩ := norm_ex x y r h
  obtain ⟨a', b', c', d', n'⟩ := norm_ex x' y' r' h'
  obtain ⟨p, q, s, t, nb⟩ := betw_ex (max a a') (max b b') (min (a + c) (a' + c')) (min (b + d) (b' + d'))
  obtain ⟨p1, q1, s1, t1, nb1⟩ := betw_ex (a) (b) (a + c) (q)
  obtain ⟨p2, q2, s2, t2, nb2⟩ := betw_ex (a) (q) (p) (q + t)
  obtain ⟨p3, q3, s3, t3, nb3⟩ := betw_ex (p + s) (q) (a + c) (q + t)
  obtain ⟨p4, q4, s4, t4, nb4⟩ := betw_ex (a) (q + t) (a + c) (b + d)
  exact tells_of x y r h a b c d x' y' r' h' a' b' c' d' p q s t p1 q1 s1 t1 p2 q2 s2 t2 p3 q3 s3 t3 p4 q4 s4 t4 u v w hs n n' nb nb1 nb2 nb3 nb4 _ _ _ rfl rfl rfl
end Go.Proofs.YtlofhbeifgaoeaaDoor
