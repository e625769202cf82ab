/- Layer 38: PassiveGone's walk. -/
import Derived.Test.YtmcndiljldbkcaaPs50
namespace Go.Proofs.Ytmcndiljldbkcaa
open Go Go.RowKit
set_option linter.unusedSimpArgs false
set_option linter.unusedVariables false
theorem ids_all2 {w : World} {xs : List Ac} (hg : greatB xs = false) (hid : ∀ x ∈ xs, ∃ is, IdsAt w x is) : xs.length ≤ 60 ∧ ∀ x ∈ xs, ∃ is, IdsOf w x is := ids_all hg hid
/-- Where the one that stays stands among those that are left. -/
theorem left_at (p : G → Bool) {gs : List G} {k : Nat} {x : G} (h : gs[k]? = some x) (hp : p x = false) : (leftL p gs)[(leftL p (gs.take k)).length]? = some x := by
  obtain ⟨hl, he⟩ := List.getElem?_eq_some_iff.1 h
  have e : leftL p gs = leftL p (gs.take k) ++ x :: leftL p (gs.drop (k + 1)) := by
    conv => lhs; rw [← List.take_append_drop k gs, List.drop_eq_getElem_cons hl, he]
    unfold leftL
    rw [List.filter_append, List.filter_cons]
    simp [hp]
  rw [e, List.getElem?_append_right (Nat.le_refl _)]
  simp
theorem left_le (p : G → Bool) (gs : List G) : (leftL p gs).length ≤ gs.length := List.length_filter_le _ _
set_option maxRecDepth 100000 in
set_option maxHeartbeats 16000000 in
theorem lgone_any (A : Option Addr) (xcap : Nat) (xs : List Ac) (cl : Int) (pa : Option Addr) (inn pc : Nat) (is : List Int) (w : World) (hv : IsAct w (.slice A xs.length xcap) xs) (hid : ∀ x ∈ xs, ∃ is, IdsAt w x is) (hs : IsInts w .u32 (.slice pa inn pc) is) (hin : is.length = inn) :
    Calls Try.prog 8 #[.slice A xs.length xcap, i6 cl, .slice pa inn pc] w fun e w' => e = .returned (.bool true) ∧ Below w.heap.size w w' := by
  have HV := Lib.hid hv
  have HI := Lib.hid hid
  have HS := Lib.hid hs
  have HIN := Lib.hid hin
  obtain ⟨GB, hGB⟩ : ∃ GB, greatB xs = GB := ⟨_, rfl⟩
  have HGB := Lib.hid hGB
  clear hGB hv hid hs hin
  obtain ⟨xn, hn⟩ : ∃ xn, xs.length = xn := ⟨_, rfl⟩
  have HN := Lib.hid hn
  rw [hn] at HV ⊢
  clear hn
  go_enter Try.func8, Try.ntmps8
  go_wp2_with fail
  refine calls_world (fun W => Below w.heap.size w W) (by (repeat' (first | with_reducible exact Below.refl _ _ | with_reducible assumption | with_reducible refine q_alloc ?_ _ | with_reducible refine q_drew ?_ | with_reducible refine q_drewN _ ?_ | with_reducible refine q_setCell ?_ ?_ _ | (left; simp; done) | (right; simp; done) | (right; dsimp only; omega) | (left; dsimp only; omega)))) ?_
  intro W1 hq1
  refine (great_any _ xs _ (HV.out.below hq1)).mono ?_
  rintro e w2 ⟨rfl, hb⟩
  rw [HGB.out]
  have hq2 := q_step hq1 hb
  clear hq1 hb
  cases GB with
  | true =>
    go_wp2_with fail
    refine (awake38 _).mono ?_
    rintro e w3 ⟨rfl, hb⟩
    go_wp2_with fail
    go_returns
    exact ⟨by first | rfl | (simp; done), q_step hq2 hb⟩
  | false =>
    by_cases hpn : 20 < inn
    · have hpi : (20 : Int) < (inn : Int) := by omega
      clear hpn
      go_wp2_with fail
      refine (awake38 _).mono ?_
      rintro e w3 ⟨rfl, hb⟩
      go_wp2_with fail
      go_returns
      exact ⟨by first | rfl | (simp; done), q_step hq2 hb⟩
    · have hpi : ¬ (20 : Int) < (inn : Int) := by omega
      have HPN : Hid (inn ≤ 20) := Lib.hid (by omega)
      clear hpn
      obtain ⟨h60, hids⟩ := ids_all HGB.out HI.out
      have HK := Lib.hid hids
      clear hids
      go_wp2_with fail
      refine calls_world (fun W => Below w.heap.size w W) (by (repeat' (first | with_reducible exact Below.refl _ _ | with_reducible assumption | with_reducible refine q_alloc ?_ _ | with_reducible refine q_drew ?_ | with_reducible refine q_drewN _ ?_ | with_reducible refine q_setCell ?_ ?_ _ | (left; simp; done) | (right; simp; done) | (right; dsimp only; omega) | (left; dsimp only; omega)))) ?_
      intro W3 hq3
      refine (played_any _ xs _ (HV.out.below hq3) h60 (fun x hx => by obtain ⟨is, h⟩ := HK.out x hx; exact ⟨is, h.below hq3⟩)).mono ?_
      rintro e w4 ⟨v4, m4, gs, rfl, hi, hj, _, hl, hb⟩
      have I4 := Lib.hid hi
      obtain ⟨A4, cap4, rfl, _⟩ := hi
      obtain ⟨B4, bcap4, rfl, _⟩ := hj
      have HL := Lib.hid hl
      have hq4 := q_step hq3 hb
      clear hq3 hb hq2 hl
      go_upto_region 4 with fail
      refine code_world (fun W => Below w4.heap.size w4 W ∧ Blk W w4.heap.size [.slice A4 gs.length cap4]) ⟨by (repeat' (first | with_reducible exact Below.refl _ _ | with_reducible assumption | with_reducible refine q_alloc ?_ _ | with_reducible refine q_drew ?_ | with_reducible refine q_drewN _ ?_ | with_reducible refine q_setCell ?_ ?_ _ | (left; simp; done) | (right; simp; done) | (right; dsimp only; omega) | (left; dsimp only; omega))), Blk.new rfl⟩ ?_
      intro W5 ⟨hq5, c5⟩
      have hq15 := q_step hq4 hq5
      have d0 := c5.cell 0 rfl
      have C5 := Lib.hid c5
      clear c5
      go_wp2_with fail
      refine calls_world (fun W => Below W5.heap.size W5 W) (by (repeat' (first | with_reducible exact Below.refl _ _ | with_reducible assumption | with_reducible refine q_alloc ?_ _ | with_reducible refine q_drew ?_ | with_reducible refine q_drewN _ ?_ | with_reducible refine q_setCell ?_ ?_ _ | (left; simp; done) | (right; simp; done) | (right; dsimp only; omega) | (left; dsimp only; omega)))) ?_
      intro W6 hq6
      refine (pleave_any cl pa inn pc is gs _ _ (I4.out.below (q_step hq5 hq6)) (Nat.le_trans HL.out (by decide)) (ints_lower HS.out (q_step hq15 hq6)) HIN.out (Nat.le_trans HPN.out (by decide))).mono ?_
      rintro e w7 ⟨v7, rfl, hi7, _, hb7⟩
      have hq7 := q_step hq6 hb7
      obtain ⟨gs2, hg2⟩ : ∃ gs2, leftL (leaveB cl is) gs = gs2 := ⟨_, rfl⟩
      have HG2 := Lib.hid hg2
      rw [hg2] at hi7
      have hl2 : gs2.length ≤ 256 := by rw [← hg2]; exact Nat.le_trans (left_le _ _) HL.out
      have HL2 := Lib.hid hl2
      have I7 := Lib.hid hi7
      obtain ⟨A7, cap7, rfl, _⟩ := hi7
      clear d0 hq6 hb7 hg2 hl2
      go_upto_region 7 with fail
      refine code_world (fun W => Below w7.heap.size w7 W ∧ Blk W w7.heap.size [.slice A7 gs2.length cap7]) ⟨by (repeat' (first | with_reducible exact Below.refl _ _ | with_reducible assumption | with_reducible refine q_alloc ?_ _ | with_reducible refine q_drew ?_ | with_reducible refine q_drewN _ ?_ | with_reducible refine q_setCell ?_ ?_ _ | (left; simp; done) | (right; simp; done) | (right; dsimp only; omega) | (left; dsimp only; omega))), Blk.new rfl⟩ ?_
      intro W8 ⟨hq8, c8⟩
      have hq78 := q_step hq7 hq8
      have hq18 := q_step hq15 hq78
      have s0 := stick ((C5.out.below hq78).cell 0 rfl)
      have r0 := stick (c8.cell 0 rfl)
      have I8 := Lib.hid (I4.out.below (q_step hq5 hq78))
      have K8 := Lib.hid (I7.out.below hq8)
      have S8 := Lib.hid (ints_lower HS.out hq18)
      have J : Below W8.heap.size W8 W8 := Below.refl _ _
      clear hq8 hq78 hq7 hq15 hq5 hq4 c8
      go_region_held3 (fun w' => Below W8.heap.size W8 w')
        (first | with_reducible exact J | with_reducible exact J.drew | (exact by (repeat' (first | with_reducible exact Below.refl _ _ | with_reducible assumption | with_reducible refine q_alloc ?_ _ | with_reducible refine q_drew ?_ | with_reducible refine q_drewN _ ?_ | with_reducible refine q_setCell ?_ ?_ _ | (left; simp; done) | (right; simp; done) | (right; dsimp only; omega) | (left; dsimp only; omega)))))
        (first
          | (go_at_call 22; have g1 := I8; refine (all_i _ gs _ (I8.out.below (by first | with_reducible exact J | with_reducible exact J.drew | (exact by (repeat' (first | with_reducible exact Below.refl _ _ | with_reducible assumption | with_reducible refine q_alloc ?_ _ | with_reducible refine q_drew ?_ | with_reducible refine q_drewN _ ?_ | with_reducible refine q_setCell ?_ ?_ _ | (left; simp; done) | (right; simp; done) | (right; dsimp only; omega) | (left; dsimp only; omega)))))) (Nat.le_trans HL.out (by decide))).mono ?_; rintro e w9 ⟨v9, rfl, ho9, hb9⟩; have O9 := Lib.hid (ownG_is ho9); have J9 : Below W8.heap.size W8 w9 := q_step (by first | with_reducible exact J | with_reducible exact J.drew | (exact by (repeat' (first | with_reducible exact Below.refl _ _ | with_reducible assumption | with_reducible refine q_alloc ?_ _ | with_reducible refine q_drew ?_ | with_reducible refine q_drewN _ ?_ | with_reducible refine q_setCell ?_ ?_ _ | (left; simp; done) | (right; simp; done) | (right; dsimp only; omega) | (left; dsimp only; omega))))) hb9; replace J := J9; clear J9 hb9 ho9 g1 I8)
          | (go_at_call 22; refine (all_i _ gs2 _ (K8.out.below (by first | with_reducible exact J | with_reducible exact J.drew | (exact by (repeat' (first | with_reducible exact Below.refl _ _ | with_reducible assumption | with_reducible refine q_alloc ?_ _ | with_reducible refine q_drew ?_ | with_reducible refine q_drewN _ ?_ | with_reducible refine q_setCell ?_ ?_ _ | (left; simp; done) | (right; simp; done) | (right; dsimp only; omega) | (left; dsimp only; omega)))))) (Nat.le_trans HL2.out (by decide))).mono ?_; rintro e w10 ⟨v10, rfl, ho10, hb10⟩; have O10 := Lib.hid (ownG_is ho10); replace O9 := Lib.hid (O9.out.below (by first | with_reducible exact hb10 | (exact by (repeat' (first | with_reducible exact Below.refl _ _ | with_reducible assumption | with_reducible refine q_alloc ?_ _ | with_reducible refine q_drew ?_ | with_reducible refine q_drewN _ ?_ | with_reducible refine q_setCell ?_ ?_ _ | (left; simp; done) | (right; simp; done) | (right; dsimp only; omega) | (left; dsimp only; omega)))))); have J10 : Below W8.heap.size W8 w10 := q_step (by first | with_reducible exact J | with_reducible exact J.drew | (exact by (repeat' (first | with_reducible exact Below.refl _ _ | with_reducible assumption | with_reducible refine q_alloc ?_ _ | with_reducible refine q_drew ?_ | with_reducible refine q_drewN _ ?_ | with_reducible refine q_setCell ?_ ?_ _ | (left; simp; done) | (right; simp; done) | (right; dsimp only; omega) | (left; dsimp only; omega))))) hb10; replace J := J10; clear J10 hb10 ho10))
      have hq10 := q_step hq18 J
      obtain ⟨n, hn⟩ : ∃ n, gs.length = n := ⟨_, rfl⟩
      obtain ⟨m, hm⟩ : ∃ m, gs2.length = m := ⟨_, rfl⟩
      have HN2 := Lib.hid hn
      have HM2 := Lib.hid hm
      have o9 := O9.out
      have o10 := O10.out
      obtain ⟨A9, cap9, rfl, hf9⟩ := o9
      obtain ⟨A10, cap10, rfl, hf10⟩ := o10
      rw [hn] at hf9
      rw [hm] at hf10
      have HF9 := Lib.hid hf9
      have HF10 := Lib.hid hf10
      have e0 := r0 _ J
      have hnl : n ≤ 256 := by rw [← hn]; exact HL.out
      have hml : m ≤ 256 := by rw [← hm]; exact HL2.out
      have K10 := Lib.hid (K8.out.below J)
      have S10 := Lib.hid (ints_lower S8.out J)
      rw [hn, hm]
      have t0 := stick e0
      rw [hm] at t0 K10
      clear hf9 hf10 hn hm O9 O10 s0 r0 e0 hq18 J
      have J : Below w10.heap.size w10 w10 := Below.refl _ _
      go_wp2_with fail
      go_loopw [13, 14] (fun nn i wr => ∃ k : Nat, k ≤ n ∧ i = .int .i64 k ∧ nn = .int .i64 ((leftL (leaveB cl is) (gs.take k)).length : Nat) ∧ Below w10.heap.size w10 wr)
        (fun _ i _ => n - (intOf i).toNat)
      case atStart => exact ⟨0, Nat.zero_le _, rfl, by simp [leftL], Below.refl _ _⟩
      case round =>
        clear J
        obtain ⟨k, hk, rfl, rfl, J⟩ := hrel
        obtain ⟨wo, rfl⟩ : ∃ wo : World, wo = wr := ⟨_, rfl⟩
        by_cases hlt : k < n
        · obtain ⟨b, off, rfl, hb, hlay⟩ := HF9.out (by omega)
          obtain ⟨x, hx⟩ : ∃ x, gs[k]? = some x := ⟨_, List.getElem?_eq_getElem (by rw [HN2.out]; exact hlt)⟩
          have HX := Lib.hid hx
          have hki : (k : Int) < (n : Int) := by omega
          have hlx := fun j u hj => hlay k x hx j u hj
          obtain ⟨a0, a1, a2, a3, a4, a5, a6, a7, a8⟩ := x
          have d0 := stick (hlx 0 _ rfl)
          rw [Nat.add_zero] at d0
          have d1 := stick (hlx 1 _ rfl)
          have d2 := stick (hlx 2 _ rfl)
          have d3 := stick (hlx 3 _ rfl)
          have d4 := stick (hlx 4 _ rfl)
          have d5 := stick (hlx 5 _ rfl)
          have d6 := stick (hlx 6 _ rfl)
          have d7 := stick (hlx 7 _ rfl)
          have d8 := stick (hlx 8 _ rfl)
          dsimp only at d0 d1 d2 d3 d4 d5 d6 d7 d8
          have hst : leftL (leaveB cl is) (gs.take (k + 1)) = _ := left_step (leaveB cl is) hx
          have hat := fun h => left_at (leaveB cl is) hx h
          rw [HG2.out] at hat
          obtain ⟨y, hy⟩ : ∃ y : Nat, (leftL (leaveB cl is) (gs.take k)).length = y := ⟨_, rfl⟩
          have hst2 : ∀ o, leaveB cl is ⟨a0, a1, a2, a3, a4, a5, a6, a7, a8⟩ = o → (leftL (leaveB cl is) (gs.take (k + 1))).length = if o = true then y else y + 1 := by
            intro o ho
            rw [hst, ho]
            cases o <;> simp [hy]
          have hyk : y ≤ k := by rw [← hy]; exact Nat.le_trans (left_le _ _) (by rw [List.length_take]; omega)
          rw [hy] at hat ⊢
          have HAT := Lib.hid hat
          have HST := Lib.hid hst2
          clear hlx hlay hx hst hst2 hat hy
          obtain ⟨C, hC⟩ : ∃ C, decide (a0 = cl) = C := ⟨_, rfl⟩
          have HC := Lib.hid hC
          clear hC
          go_wp2_with fail
          go_loopw [15, 16] (fun g j wx => ∃ q : Nat, q ≤ inn ∧ j = .int .i64 q ∧ g = .bool (C || (is.take q).any (fun i => decide (i = a1))) ∧ Below w10.heap.size w10 wx)
            (fun _ j _ => inn - (intOf j).toNat)
          case atStart => exact ⟨0, Nat.zero_le _, rfl, by rw [← HC.out]; by_cases h : a0 = cl <;> simp [h], J⟩
          case round =>
            clear J
            obtain ⟨q, hq', rfl, rfl, J⟩ := hrel
            by_cases hqlt : q < inn
            · have hqi : (q : Int) < (inn : Int) := by omega
              obtain ⟨ib, ioff, rfl, hcs⟩ := cell_u3 S10.out HIN.out (by omega)
              obtain ⟨u, hu⟩ : ∃ u, is[q]? = some u := ⟨_, List.getElem?_eq_getElem (by rw [HIN.out]; exact hqlt)⟩
              have y0 := stick (hcs q u hu)
              have hsq : (is.take (q + 1)).any (fun i => decide (i = a1)) = ((is.take q).any (fun i => decide (i = a1)) || decide (u = a1)) := by
                rw [List.take_add_one, hu, List.any_append]; simp
              have HSQ := Lib.hid hsq
              clear hcs hu hsq
              generalize hB : (C || (is.take q).any (fun i => decide (i = a1))) = B
              have HB := Lib.hid hB
              clear hB
              cases B with
              | true =>
                go_wp2_with fail
                go_quiet (fail)
                all_goals
                  go_wp2_with fail
                  go_roundw
                  case rel => exact ⟨q + 1, by omega, by go_num, by rw [HSQ.out, ← Bool.or_assoc, HB.out]; rfl, by (repeat' (first | with_reducible exact Below.refl _ _ | with_reducible assumption | with_reducible refine q_alloc ?_ _ | with_reducible refine q_drew ?_ | with_reducible refine q_drewN _ ?_ | with_reducible refine q_setCell ?_ ?_ _ | (left; simp; done) | (right; simp; done) | (right; dsimp only; omega) | (left; dsimp only; omega)))⟩
                  case measure => simp [intOf] <;> omega
              | false =>
                by_cases hua : u = a1
                · subst hua
                  go_wp2_with fail
                  go_quiet (fail)
                  all_goals
                    go_wp2_with fail
                    go_roundw
                    case rel => exact ⟨q + 1, by omega, by go_num, by rw [HSQ.out, ← Bool.or_assoc, HB.out]; simp, by (repeat' (first | with_reducible exact Below.refl _ _ | with_reducible assumption | with_reducible refine q_alloc ?_ _ | with_reducible refine q_drew ?_ | with_reducible refine q_drewN _ ?_ | with_reducible refine q_setCell ?_ ?_ _ | (left; simp; done) | (right; simp; done) | (right; dsimp only; omega) | (left; dsimp only; omega)))⟩
                    case measure => simp [intOf] <;> omega
                · have hub : (u == a1) = false := by simpa using hua
                  have HUA : Hid (decide (u = a1) = false) := Lib.hid (decide_eq_false hua)
                  go_wp2_with fail
                  go_quiet (fail)
                  all_goals
                    go_wp2_with fail
                    go_roundw
                    case rel => exact ⟨q + 1, by omega, by go_num, by rw [HSQ.out, ← Bool.or_assoc, HB.out, HUA.out]; simp, by (repeat' (first | with_reducible exact Below.refl _ _ | with_reducible assumption | with_reducible refine q_alloc ?_ _ | with_reducible refine q_drew ?_ | with_reducible refine q_drewN _ ?_ | with_reducible refine q_setCell ?_ ?_ _ | (left; simp; done) | (right; simp; done) | (right; dsimp only; omega) | (left; dsimp only; omega)))⟩
                    case measure => simp [intOf] <;> omega
            · obtain rfl : q = inn := by omega
              have hlv : leaveB cl is ⟨a0, a1, a2, a3, a4, a5, a6, a7, a8⟩ = (C || (is.take is.length).any (fun i => decide (i = a1))) := by
                rw [← HC.out, List.take_length]; rfl
              rw [HIN.out] at hlv
              generalize hO : (C || (is.take q).any (fun i => decide (i = a1))) = O
              rw [hO] at hlv
              have HLV := Lib.hid hlv
              clear hlv hO
              cases O with
              | true =>
                have HS1 := Lib.hid (HST.out _ HLV.out)
                go_wp2_with fail
                go_roundw
                case rel => exact ⟨k + 1, by omega, by go_num, by rw [HS1.out, if_pos rfl], J⟩
                case measure => simp [intOf] <;> omega
              | false =>
                have HS1 := Lib.hid (HST.out _ HLV.out)
                have hz := HAT.out HLV.out
                have hym : y < m := by rw [← HM2.out]; exact (List.getElem?_eq_some_iff.1 hz).1
                obtain ⟨b2, off2, rfl, hb2, hlay2⟩ := HF10.out (by omega)
                have hlz := fun j u hj => hlay2 y _ hz j u hj
                have e0 := stick (hlz 0 _ rfl)
                rw [Nat.add_zero] at e0
                have e1 := stick (hlz 1 _ rfl)
                have e2 := stick (hlz 2 _ rfl)
                have e3 := stick (hlz 3 _ rfl)
                have e4 := stick (hlz 4 _ rfl)
                have e5 := stick (hlz 5 _ rfl)
                have e6 := stick (hlz 6 _ rfl)
                have e7 := stick (hlz 7 _ rfl)
                have e8 := stick (hlz 8 _ rfl)
                dsimp only at e0 e1 e2 e3 e4 e5 e6 e7 e8
                have hyi : (y : Int) < (m : Int) := by omega
                have hyi2 : ¬ (m : Int) ≤ (y : Int) := by omega
                clear hlz hlay2 hz
                go_wp2_with fail
                go_quiet (fail)
                all_goals
                  go_wp2_with fail
                  go_roundw
                  case rel => exact ⟨k + 1, by omega, by go_num, by rw [HS1.out, if_neg (by simp)]; go_num, by (repeat' (first | with_reducible exact Below.refl _ _ | with_reducible assumption | with_reducible refine q_alloc ?_ _ | with_reducible refine q_drew ?_ | with_reducible refine q_drewN _ ?_ | with_reducible refine q_setCell ?_ ?_ _ | (left; simp; done) | (right; simp; done) | (right; dsimp only; omega) | (left; dsimp only; omega)))⟩
                  case measure => simp [intOf] <;> omega
        · obtain rfl : k = n := by omega
          have hlm : (leftL (leaveB cl is) (gs.take k)).length = m := by rw [← HN2.out, List.take_length, HG2.out]; exact HM2.out
          rw [hlm]
          clear hlm
          have s0 := t0 _ J
          go_wp2_with fail
          refine calls_world (fun W => Below w10.heap.size w10 W) (by (repeat' (first | with_reducible exact Below.refl _ _ | with_reducible assumption | with_reducible refine q_alloc ?_ _ | with_reducible refine q_drew ?_ | with_reducible refine q_drewN _ ?_ | with_reducible refine q_setCell ?_ ?_ _ | (left; simp; done) | (right; simp; done) | (right; dsimp only; omega) | (left; dsimp only; omega)))) ?_
          intro W11 J11
          refine (pleave_any cl pa inn pc is gs2 _ _ (K10.out.below J11) (Nat.le_trans HL2.out (by decide)) (ints_lower S10.out J11) HIN.out (Nat.le_trans HPN.out (by decide))).mono ?_
          rintro e w12 ⟨v12, rfl, hi12, _, hb12⟩
          have J12 := q_step J11 hb12
          have hll : leftL (leaveB cl is) gs2 = gs2 := by rw [← HG2.out]; exact left_left _ _
          rw [hll] at hi12
          have I12 := Lib.hid hi12
          obtain ⟨A12, cap12, rfl, _⟩ := hi12
          clear s0 J11 hb12 hll J
          go_wp2_with fail
          refine calls_world (fun W => Below w12.heap.size w12 W) (by (repeat' (first | with_reducible exact Below.refl _ _ | with_reducible assumption | with_reducible refine q_alloc ?_ _ | with_reducible refine q_drew ?_ | with_reducible refine q_drewN _ ?_ | with_reducible refine q_setCell ?_ ?_ _ | (left; simp; done) | (right; simp; done) | (right; dsimp only; omega) | (left; dsimp only; omega)))) ?_
          intro W13 J13
          refine (all_i _ gs2 _ (I12.out.below J13) (Nat.le_trans HL2.out (by decide))).mono ?_
          rintro e w14 ⟨v14, rfl, ho14, hb14⟩
          have J14 := q_step J12 (q_step J13 hb14)
          have i14 := ownG_is ho14
          obtain ⟨A14, cap14, rfl, _⟩ := i14
          rw [HM2.out]
          clear J12 J13 hb14 ho14
          go_wp2_with fail
          refine (awake38 _).mono ?_
          rintro e w15 ⟨rfl, hb15⟩
          go_wp2_with fail
          go_returns
          exact ⟨by first | rfl | (simp; done), q_step hq10 (q_step J14 hb15)⟩
end Go.Proofs.Ytmcndiljldbkcaa
