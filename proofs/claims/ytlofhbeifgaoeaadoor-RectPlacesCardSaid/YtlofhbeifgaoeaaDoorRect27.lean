import Derived.Test.YtlofhbeifgaoeaaDoorRect26
namespace Go.Proofs.YtlofhbeifgaoeaaDoor
open Go Go.RowKit
set_option linter.unusedSimpArgs false
set_option linter.unusedVariables false
theorem many_le (u v : Int) (rs : List R4) : many u v rs ≤ rs.length := List.length_filter_le _ _
set_option maxRecDepth 100000 in
set_option maxHeartbeats 16000000 in
theorem places_of (x y r h a b c d x' y' r' h' a' b' c' d' p q s t p1 q1 s1 t1 p2 q2 s2 t2 p3 q3 s3 t3 p4 q4 s4 t4 u v e1 e2 e3 e4 : Int) (I K : Bool) (w : World) (hs : RowAt 0 noneCells w) (n : Norm x y r h a b c d) (n' : Norm x' y' r' h' a' b' c' d')
    (nb : Betw (max a a') (max b b') (min (a + c) (a' + c')) (min (b + d) (b' + d')) p q s t) (nb1 : Betw (a) (b) (a + c) (q) p1 q1 s1 t1) (nb2 : Betw (a) (q) (p) (q + t) p2 q2 s2 t2) (nb3 : Betw (p + s) (q) (a + c) (q + t) p3 q3 s3 t3) (nb4 : Betw (a) (q + t) (a + c) (b + d) p4 q4 s4 t4) (hi : inB a b c d u v = I) (hk : inB a' b' c' d' u v = K)
    (hbx : boxR [(x, y, r, h), (x', y', r', h')] = (e1, e2, e3, e4)) (hnx : OkR (e1, e2, e3, e4)) (hjb : (I || K) = true → inB e1 e2 e3 e4 u v = true) :
    Calls Tryd.prog 4 #[rectV x y r h, rectV x' y' r' h', i6 u, i6 v] w fun e w' => e = .returned (.bool true) ∧ Below w.heap.size w w' := by
  have HS := Lib.hid hs
  have HN := Lib.hid n
  have HN2 := Lib.hid n'
  have HB := Lib.hid nb
  have N1 := Lib.hid nb1
  have N2 := Lib.hid nb2
  have N3 := Lib.hid nb3
  have N4 := Lib.hid nb4
  have HI := Lib.hid hi
  have HK := Lib.hid hk
  have HBX := Lib.hid hbx
  have HNX := Lib.hid (show Norm e1 e2 e3 e4 e1 e2 e3 e4 from hnx)
  have HJB := Lib.hid hjb
  have bn := n.bounds
  have bn' := n'.bounds
  have hmi := minus_many n n' nb nb1 nb2 nb3 nb4 u v
  rw [hi, hk] at hmi
  have hgd := minus_good n n' nb nb1 nb2 nb3 nb4
  have hln := minusR_len c s (a, b, c, d) (p1, q1, s1, t1) (p2, q2, s2, t2) (p3, q3, s3, t3) (p4, q4, s4, t4)
  have hnc : Norm p q s t p q s t := betw_ok nb (by omega) (by omega) (by omega) (by omega)
  have HNC := Lib.hid hnc
  have hci : inB p q s t u v = (I && K) := by
    rw [betw_in nb, ← hi, ← hk]
    unfold inB
    rw [← Bool.decide_and, decide_eq_decide]
    omega
  have HCI := Lib.hid hci
  have HMI0 := Lib.hid hmi
  have HGD0 := Lib.hid hgd
  have HLN0 := Lib.hid hln
  have G1 := Lib.hid (rfl : (1 : Nat) = 1)
  have G2 := Lib.hid (rfl : (2 : Nat) = 2)
  clear hs n n' nb nb1 nb2 nb3 nb4 hi hk hbx hnx hjb hmi hgd hln hnc hci bn bn'
  go_enter Tryd.func4, Tryd.ntmps4
  go_wp2_with fail
  refine calls_world (fun W => Below w.heap.size w W ∧ Blk W (w.heap.size) [i6 x, i6 y, i6 r, i6 h] ∧ Blk W (w.heap.size + 1) [i6 x', i6 y', i6 r', i6 h']) ⟨by (repeat' (first | with_reducible exact Below.refl _ _ | with_reducible assumption | with_reducible refine q_alloc ?_ _ | with_reducible refine q_drew ?_ | with_reducible refine q_drewN _ ?_ | with_reducible refine q_setCell ?_ ?_ _ | (left; simp; done) | (right; simp; done) | (right; dsimp only; omega) | (left; dsimp only; omega))), (Blk.new rfl).alloc _, blk_new1 rfl⟩ ?_
  intro W1 ⟨hq1, b1_0, b1_1⟩
  refine (awake12 _ (HS.out.below hq1)).mono ?_
  rintro e w2 ⟨rfl, hb⟩
  have hq2 : Below w.heap.size w w2 := q_step hq1 hb
  have b2_0 := b1_0.below hb
  have b2_1 := b1_1.below hb
  clear hb b1_0 b1_1 hq1
  have b2_0c0 := b2_0.cell 0 rfl
  have b2_0f0 := b2_0.froz 0 rfl
  have b2_0c1 := b2_0.cell 1 rfl
  have b2_0f1 := b2_0.froz 1 rfl
  have b2_0c2 := b2_0.cell 2 rfl
  have b2_0f2 := b2_0.froz 2 rfl
  have b2_0c3 := b2_0.cell 3 rfl
  have b2_0f3 := b2_0.froz 3 rfl
  have b2_0z := b2_0.lt
  have b2_1c0 := b2_1.cell 0 rfl
  have b2_1f0 := b2_1.froz 0 rfl
  have b2_1c1 := b2_1.cell 1 rfl
  have b2_1f1 := b2_1.froz 1 rfl
  have b2_1c2 := b2_1.cell 2 rfl
  have b2_1f2 := b2_1.froz 2 rfl
  have b2_1c3 := b2_1.cell 3 rfl
  have b2_1f3 := b2_1.froz 3 rfl
  have b2_1z := b2_1.lt
  go_upto_region 3 with fail
  have J : Below w.heap.size w w2 ∧ w2.cell? ⟨w.heap.size, 0, none⟩ = some (i6 x) ∧ w2.cell? ⟨w.heap.size, 1, none⟩ = some (i6 y) ∧ w2.cell? ⟨w.heap.size, 2, none⟩ = some (i6 r) ∧ w2.cell? ⟨w.heap.size, 3, none⟩ = some (i6 h) ∧ w2.cell? ⟨w.heap.size + 1, 0, none⟩ = some (i6 x') ∧ w2.cell? ⟨w.heap.size + 1, 1, none⟩ = some (i6 y') ∧ w2.cell? ⟨w.heap.size + 1, 2, none⟩ = some (i6 r') ∧ w2.cell? ⟨w.heap.size + 1, 3, none⟩ = some (i6 h') := ⟨hq2, b2_0c0, b2_0c1, b2_0c2, b2_0c3, b2_1c0, b2_1c1, b2_1c2, b2_1c3⟩
  clear hq2 b2_0c0 b2_0f0 b2_0c1 b2_0f1 b2_0c2 b2_0f2 b2_0c3 b2_0f3 b2_0z b2_1c0 b2_1f0 b2_1c1 b2_1f1 b2_1c2 b2_1f2 b2_1c3 b2_1f3 b2_1z b2_0 b2_1
  go_cut [9, 10] from 14 (fun s9 s10 wx => s9 = .bool I ∧ s10 = .bool K ∧ Below w.heap.size w wx ∧ wx.cell? ⟨w.heap.size, 0, none⟩ = some (i6 x) ∧ wx.cell? ⟨w.heap.size, 1, none⟩ = some (i6 y) ∧ wx.cell? ⟨w.heap.size, 2, none⟩ = some (i6 r) ∧ wx.cell? ⟨w.heap.size, 3, none⟩ = some (i6 h) ∧ wx.cell? ⟨w.heap.size + 1, 0, none⟩ = some (i6 x') ∧ wx.cell? ⟨w.heap.size + 1, 1, none⟩ = some (i6 y') ∧ wx.cell? ⟨w.heap.size + 1, 2, none⟩ = some (i6 r') ∧ wx.cell? ⟨w.heap.size + 1, 3, none⟩ = some (i6 h'))
  case first =>
    go_region_held3 (fun w' => Below w.heap.size w w' ∧ w'.cell? ⟨w.heap.size, 0, none⟩ = some (i6 x) ∧ w'.cell? ⟨w.heap.size, 1, none⟩ = some (i6 y) ∧ w'.cell? ⟨w.heap.size, 2, none⟩ = some (i6 r) ∧ w'.cell? ⟨w.heap.size, 3, none⟩ = some (i6 h) ∧ w'.cell? ⟨w.heap.size + 1, 0, none⟩ = some (i6 x') ∧ w'.cell? ⟨w.heap.size + 1, 1, none⟩ = some (i6 y') ∧ w'.cell? ⟨w.heap.size + 1, 2, none⟩ = some (i6 r') ∧ w'.cell? ⟨w.heap.size + 1, 3, none⟩ = some (i6 h'))
      (first | exact J | exact ⟨J.1.drew, J.2⟩)
      (first | (go_at_call 14; have g1 := G1; refine (has_any x y r h a b c d u v _ ?_ HN.out).mono ?_; (first | exact HS.out.below J.1 | exact (HS.out.below J.1).drew); rintro e w5 ⟨rfl, hb⟩; rw [HI.out]; (first | replace J := s_step J hb | replace J := s_step J (below_drew hb)); clear hb g1 G1) | (go_at_call 14; have g2 := G2; refine (has_any x' y' r' h' a' b' c' d' u v _ ?_ HN2.out).mono ?_; (first | exact HS.out.below J.1 | exact (HS.out.below J.1).drew); rintro e w5 ⟨rfl, hb⟩; rw [HK.out]; (first | replace J := s_step J hb | replace J := s_step J (below_drew hb)); clear hb g2 G2))
    all_goals (go_wp2_with fail; go_meet; exact ⟨rfl, rfl, J⟩)
  case rest =>
    obtain ⟨rfl, rfl, J⟩ := hcut
    obtain ⟨hq, x0, x1, x2, x3, x4, x5, x6, x7⟩ := id J
    go_wp2_with fail
    refine (minus_any x y r h a b c d x' y' r' h' a' b' c' d' p q s t p1 q1 s1 t1 p2 q2 s2 t2 p3 q3 s3 t3 p4 q4 s4 t4 _ (HS.out.below J.1) HN.out HN2.out HB.out N1.out N2.out N3.out N4.out).mono ?_
    rintro e w5 ⟨v9, rfl, hown, hb⟩
    replace J := s_step J hb
    clear hb hq x0 x1 x2 x3 x4 x5 x6 x7
    have hI := ownR_is hown
    clear hown
    have hmi := HMI0.out
    have hgd := HGD0.out
    have hln := HLN0.out
    clear HMI0 HGD0 HLN0 N1 N2 N3 N4
    generalize minusR c s (a, b, c, d) [(p1, q1, s1, t1), (p2, q2, s2, t2), (p3, q3, s3, t3), (p4, q4, s4, t4)] = L at hI hmi hgd hln
    have HGD := Lib.hid hgd
    have HMI := Lib.hid hmi
    clear hmi hgd
    rcases hI with ⟨aa, cap, rfl, rfl⟩ | ⟨bb, off, cap, rfl, hp1, _, _, hbb, hlay⟩
    · clear hln HGD
      go_wp2_with fail
      refine wp_loop_rounds 1 ?_
      rw [rounds_succ]
      go_wp2_with fail
      have hm2 : (0 : Int) = ((one (I && !K) : Nat) : Int) := by rw [← HMI.out]; rfl
      clear HMI
      obtain ⟨hq, x0, x1, x2, x3, x4, x5, x6, x7⟩ := id J
      cases I
      all_goals cases K
      all_goals first | (exfalso; simp [one] at hm2; done) | skip
      all_goals
        simp [one] at hm2
        try subst hm2
        have hci := HCI.out
        simp only [Bool.and_true, Bool.and_false, Bool.true_and, Bool.false_and] at hci
        have HCI2 := Lib.hid hci
        clear hci
        go_wp2_with fail
        refine (cross_any x y r h a b c d x' y' r' h' a' b' c' d' p q s t _ (HS.out.below J.1) HN.out HN2.out HB.out).mono ?_
        rintro e wb ⟨rfl, hb⟩
        replace J := s_step J hb
        clear hb hq x0 x1 x2 x3 x4 x5 x6 x7
        obtain ⟨hq, x0, x1, x2, x3, x4, x5, x6, x7⟩ := id J
        go_wp2_with fail
        refine (has_any p q s t p q s t u v _ (HS.out.below J.1) HNC.out).mono ?_
        rintro e wc ⟨rfl, hb⟩
        rw [HCI2.out]
        replace J := s_step J hb
        clear hb hq x0 x1 x2 x3 x4 x5 x6 x7
        obtain ⟨hq, x0, x1, x2, x3, x4, x5, x6, x7⟩ := id J
        go_wp2_with fail
        refine calls_world (fun W => (Below w.heap.size w W ∧ W.cell? ⟨w.heap.size, 0, none⟩ = some (i6 x) ∧ W.cell? ⟨w.heap.size, 1, none⟩ = some (i6 y) ∧ W.cell? ⟨w.heap.size, 2, none⟩ = some (i6 r) ∧ W.cell? ⟨w.heap.size, 3, none⟩ = some (i6 h) ∧ W.cell? ⟨w.heap.size + 1, 0, none⟩ = some (i6 x') ∧ W.cell? ⟨w.heap.size + 1, 1, none⟩ = some (i6 y') ∧ W.cell? ⟨w.heap.size + 1, 2, none⟩ = some (i6 r') ∧ W.cell? ⟨w.heap.size + 1, 3, none⟩ = some (i6 h')) ∧ Blk W wc.heap.size [i6 x, i6 y, i6 r, i6 h, i6 x', i6 y', i6 r', i6 h']) ⟨s_alloc _ J, Blk.new rfl⟩ ?_
        clear hq x0 x1 x2 x3 x4 x5 x6 x7 J
        intro Wd ⟨J, g0⟩
        refine (box_any _ [(x, y, r, h), (x', y', r', h')] _ (HS.out.below J.1) (Or.inr ⟨_, 0, 2, rfl, (by simp), (by simp), (by simp [maxLen]), g0.lt, layR_of fun j v hj => g0.cell j hj⟩) (by simp)).mono ?_
        rintro e we ⟨rfl, hb⟩
        rw [HBX.out]
        dsimp only
        replace J := s_step J hb
        clear hb g0
        go_wp2_with fail
        refine (has_any e1 e2 e3 e4 e1 e2 e3 e4 u v _ (HS.out.below J.1) HNX.out).mono ?_
        rintro e wf ⟨rfl, hb⟩
        replace J := s_step J hb
        clear hb
        have hjb := HJB.out
        simp only [Bool.or_true, Bool.true_or, Bool.or_false, Bool.false_or, Bool.false_eq_true, false_implies, forall_const, true_implies] at hjb
        generalize inB e1 e2 e3 e4 u v = jb at hjb ⊢
        first | (subst hjb; go_wp2_with fail; go_returns; exact ⟨rfl, J.1⟩) | (cases jb <;> (go_wp2_with fail; go_returns; exact ⟨rfl, J.1⟩))
    · have HLY := Lib.hid hlay
      have hl4 : ¬ (4 : Int) < (L.length : Int) := by omega
      have HL4 := Lib.hid hl4
      have HLN := Lib.hid hln
      clear hlay hp1 hl4 hln
      go_wp2_with fail
      go_loopw [11, 13] (fun m i wr => ∃ k : Nat, k ≤ L.length ∧ i = .int .i64 k ∧ m = .int .i64 (many u v (L.take k)) ∧ Below w5.heap.size w5 wr)
        (fun _ i _ => L.length - (intOf i).toNat)
      case atStart => exact ⟨0, by omega, rfl, rfl, Below.refl _ _⟩
      case round =>
        obtain ⟨k, hk, rfl, rfl, hnx⟩ := hrel
        by_cases hlt : k < L.length
        · have hlk : L[k]? = some L[k] := List.getElem?_eq_getElem hlt
          have hgo := HGD.out _ (List.getElem_mem hlt)
          obtain ⟨d0, d1, d2, d3⟩ := HLY.out.below hnx k _ hlk
          have HLK := Lib.hid hlk
          clear hlk
          generalize L[k] = re at HLK d0 d1 d2 d3 hgo
          obtain ⟨pa, pb, pc, pd⟩ := re
          dsimp only at d0 d1 d2 d3 hgo
          have HGO := Lib.hid hgo
          have gb := hgo.bounds
          have hpc : decide (pc = 0) = false := decide_eq_false (by omega)
          have hrb : (if rightB pa pb pc pd then (0 : Int) else 1) = 0 := by unfold rightB; rw [hgo.1, hgo.2]; simp
          have HNE := Lib.hid (show Norm pa pb pc pd pa pb pc pd from Or.inl ⟨hgo, rfl, rfl, rfl, rfl⟩)
          have HPC := Lib.hid hpc
          have HRB := Lib.hid hrb
          have hqw : Below w.heap.size w wr := q_step J.1 hnx
          have hml := many_le u v (L.take k)
          have hln := HLN.out
          rw [List.length_take] at hml
          have hw1 : IntKind.i64.wrap ((many u v (L.take k) : Int) + 1) = (many u v (L.take k) : Int) + 1 := IntWalk.i64_in _ (by omega)
          clear hgo gb hpc hrb hml
          go_wp2_with fail
          refine (empty_norm pa pb pc pd pa pb pc pd _ (HS.out.below hqw) HNE.out).mono ?_
          rintro e w6 ⟨rfl, hb⟩
          rw [HPC.out]
          have hn6 := q_step hnx hb
          have hq6 := q_step hqw hb
          clear hb d0 d1 d2 d3
          obtain ⟨d0, d1, d2, d3⟩ := HLY.out.below hn6 k _ HLK.out
          dsimp only at d0 d1 d2 d3
          go_wp2_with fail
          refine (check_any pa pb pc pd _ (HS.out.below hq6)).mono ?_
          rintro e w7 ⟨rfl, hb⟩
          rw [HRB.out]
          have hn7 := q_step hn6 hb
          have hq7 := q_step hq6 hb
          clear hb d0 d1 d2 d3
          obtain ⟨d0, d1, d2, d3⟩ := HLY.out.below hn7 k _ HLK.out
          dsimp only at d0 d1 d2 d3
          go_wp2_with fail
          refine (has_any pa pb pc pd pa pb pc pd u v _ (HS.out.below hq7) HNE.out).mono ?_
          rintro e w8 ⟨rfl, hb⟩
          have hn8 := q_step hn7 hb
          clear hb d0 d1 d2 d3 hn7 hn6 hq6 hq7
          rcases hin : inB pa pb pc pd u v with _ | _
          · have hst := many_no (u := u) (v := v) HLK.out hin
            have HST := Lib.hid hst
            clear hst hin
            go_wp2_with fail
            go_roundw
            case rel => exact ⟨k + 1, by omega, by go_num, by rw [HST.out], hn8⟩
            case measure => simp [intOf]; omega
          · have hst := many_yes (u := u) (v := v) HLK.out hin
            have HST := Lib.hid hst
            clear hst hin
            go_wp2_with fail
            go_roundw
            case rel => exact ⟨k + 1, by omega, by go_num, by rw [HST.out]; first | rfl | (simp; done) | (simp [hw1]; done), hn8⟩
            case measure => simp [intOf]; omega
        · have hkl : k = L.length := by omega
          subst hkl
          rw [List.take_length]
          replace J := s_step J hnx
          have hm2 : ((many u v L : Nat) : Int) = ((one (I && !K) : Nat) : Int) := by rw [HMI.out]
          generalize ((many u v L : Nat) : Int) = mm at hm2 ⊢
          have hl4 := HL4.out
          clear HMI HGD HLY hnx hk hlt HLN HL4
          obtain ⟨hq, x0, x1, x2, x3, x4, x5, x6, x7⟩ := id J
          cases I
          all_goals cases K
          all_goals first | (exfalso; simp [one] at hm2; done) | skip
          all_goals
            simp [one] at hm2
            try subst hm2
            have hci := HCI.out
            simp only [Bool.and_true, Bool.and_false, Bool.true_and, Bool.false_and] at hci
            have HCI2 := Lib.hid hci
            clear hci
            go_wp2_with fail
            refine (cross_any x y r h a b c d x' y' r' h' a' b' c' d' p q s t _ (HS.out.below J.1) HN.out HN2.out HB.out).mono ?_
            rintro e wb ⟨rfl, hb⟩
            replace J := s_step J hb
            clear hb hq x0 x1 x2 x3 x4 x5 x6 x7
            obtain ⟨hq, x0, x1, x2, x3, x4, x5, x6, x7⟩ := id J
            go_wp2_with fail
            refine (has_any p q s t p q s t u v _ (HS.out.below J.1) HNC.out).mono ?_
            rintro e wc ⟨rfl, hb⟩
            rw [HCI2.out]
            replace J := s_step J hb
            clear hb hq x0 x1 x2 x3 x4 x5 x6 x7
            obtain ⟨hq, x0, x1, x2, x3, x4, x5, x6, x7⟩ := id J
            go_wp2_with fail
            refine calls_world (fun W => (Below w.heap.size w W ∧ W.cell? ⟨w.heap.size, 0, none⟩ = some (i6 x) ∧ W.cell? ⟨w.heap.size, 1, none⟩ = some (i6 y) ∧ W.cell? ⟨w.heap.size, 2, none⟩ = some (i6 r) ∧ W.cell? ⟨w.heap.size, 3, none⟩ = some (i6 h) ∧ W.cell? ⟨w.heap.size + 1, 0, none⟩ = some (i6 x') ∧ W.cell? ⟨w.heap.size + 1, 1, none⟩ = some (i6 y') ∧ W.cell? ⟨w.heap.size + 1, 2, none⟩ = some (i6 r') ∧ W.cell? ⟨w.heap.size + 1, 3, none⟩ = some (i6 h')) ∧ Blk W wc.heap.size [i6 x, i6 y, i6 r, i6 h, i6 x', i6 y', i6 r', i6 h']) ⟨s_alloc _ J, Blk.new rfl⟩ ?_
            clear hq x0 x1 x2 x3 x4 x5 x6 x7 J
            intro Wd ⟨J, g0⟩
            refine (box_any _ [(x, y, r, h), (x', y', r', h')] _ (HS.out.below J.1) (Or.inr ⟨_, 0, 2, rfl, (by simp), (by simp), (by simp [maxLen]), g0.lt, layR_of fun j v hj => g0.cell j hj⟩) (by simp)).mono ?_
            rintro e we ⟨rfl, hb⟩
            rw [HBX.out]
            dsimp only
            replace J := s_step J hb
            clear hb g0
            go_wp2_with fail
            refine (has_any e1 e2 e3 e4 e1 e2 e3 e4 u v _ (HS.out.below J.1) HNX.out).mono ?_
            rintro e wf ⟨rfl, hb⟩
            replace J := s_step J hb
            clear hb
            have hjb := HJB.out
            simp only [Bool.or_true, Bool.true_or, Bool.or_false, Bool.false_or, Bool.false_eq_true, false_implies, forall_const, true_implies] at hjb
            generalize inB e1 e2 e3 e4 u v = jb at hjb ⊢
            first | (subst hjb; go_wp2_with fail; go_returns; exact ⟨rfl, J.1⟩) | (cases jb <;> (go_wp2_with fail; go_returns; exact ⟨rfl, J.1⟩))

theorem lplaces_any (x y r h x' y' r' h' u v : Int) (w : World) (hs : RowAt 0 noneCells w) :
    Calls Tryd.prog 4 #[rectV x y r h, rectV x' y' r' h', i6 u, i6 v] w fun e w' => e = .returned (.bool true) ∧ Below w.heap.size w w' := by
  obtain ⟨a, b, c, d, n⟩ := norm_ex x y r h
  obtain ⟨a', b', c', d', n'⟩ := norm_ex x' y' r' h'
  obtain ⟨p, q, s, t, nb⟩ := betw_ex (max a a') (max b b') (min (a + c) (a' + c')) (min (b + d) (b' + d'))
  obtain ⟨p1, q1, s1, t1, nb1⟩ := betw_ex (a) (b) (a + c) (q)
  obtain ⟨p2, q2, s2, t2, nb2⟩ := betw_ex (a) (q) (p) (q + t)
  obtain ⟨p3, q3, s3, t3, nb3⟩ := betw_ex (p + s) (q) (a + c) (q + t)
  obtain ⟨p4, q4, s4, t4, nb4⟩ := betw_ex (a) (q + t) (a + c) (b + d)
  have hbx : boxR [(x, y, r, h), (x', y', r', h')] = joinR (a, b, c, d) (a', b', c', d') := by rw [box_two, norm_of n, norm_of n']
  have ok1 : OkR (a, b, c, d) := norm_idem n
  have ok2 : OkR (a', b', c', d') := norm_idem n'
  have okj := okR_join ok1 ok2
  have hin := @join_in a b c d a' b' c' d' u v ok1 ok2
  generalize joinR (a, b, c, d) (a', b', c', d') = jr at hbx okj hin
  obtain ⟨e1, e2, e3, e4⟩ := jr
  exact places_of x y r h a b c d x' y' r' h' a' b' c' d' p q s t p1 q1 s1 t1 p2 q2 s2 t2 p3 q3 s3 t3 p4 q4 s4 t4 u v e1 e2 e3 e4 _ _ w hs n n' nb nb1 nb2 nb3 nb4 rfl rfl hbx okj (fun hh => hin (by simpa [Bool.or_eq_true] using hh))
end Go.Proofs.YtlofhbeifgaoeaaDoor
