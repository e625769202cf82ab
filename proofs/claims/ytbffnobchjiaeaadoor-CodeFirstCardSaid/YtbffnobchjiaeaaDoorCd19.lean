/- Layer 3: the walks of CodeFields and CodeBack. -/
import Derived.Test.YtbffnobchjiaeaaDoorCd18
import Derived.Deep.RegionHeld3
namespace Go.Proofs.YtbffnobchjiaeaaDoor
open Go Go.RowKit
set_option linter.unusedSimpArgs false
set_option linter.unusedVariables false
theorem own_sl {w : World} {base : Nat} {e : TypeId} {s n : Nat} {v : Value} {xs : List Value} (h : w.ownsRow base e s v n xs) : ∃ a c, v = .slice a n c := by
  rcases Joins.ownsRow_forms h with ⟨rfl, rfl⟩ | ⟨g, cap, rfl⟩
  · exact ⟨_, _, rfl⟩
  · exact ⟨_, _, rfl⟩
theorem stepF_eq (r : F3 × List B8) (x : B8) (h : r.2.length = r.1.1.length) : (stepF r x).2.length = (stepF r x).1.1.length := by
  unfold stepF
  split
  · exact h
  · split
    · exact h
    · simp [h]
theorem formL_eq : ∀ (ws : List B8) (r : F3 × List B8), r.2.length = r.1.1.length → (ws.foldl stepF r).2.length = (ws.foldl stepF r).1.1.length
  | [], r, h => h
  | x :: ws, r, h => formL_eq ws (stepF r x) (stepF_eq r x h)
theorem formF_eq (s : B8) : (formF s).2.length = (formF s).1.1.length := formL_eq _ _ rfl
theorem formF_len2 {s : B8} (h : okS s = true) : (formF s).2.length ≤ 100 := by rw [formF_eq]; exact formF_len h
theorem okS_nil : okS [] = true := by decide +kernel
theorem formF_nil : formF [] = zeroF := by decide +kernel
set_option maxRecDepth 100000 in
theorem rfields_out (n : Int) (h : n < 1 ∨ 58 < n) (w : World) : Calls Tryd.prog 24 #[i6 n] w fun e w' => ∃ v, e = .returned v ∧ OwnS w' w.heap.size v [] ∧ Below w.heap.size w w' := by
  by_cases h1 : n < 1
  · go_enter Tryd.func24, Tryd.ntmps24
    go_wp2_with fail
    go_returns
    exact ⟨_, rfl, World.ownsRow_nil _ _ _ _, Below.refl _ _⟩
  · have h2 : 58 < n := by omega
    go_enter Tryd.func24, Tryd.ntmps24
    go_wp2_with fail
    refine (requests_any _).mono ?_
    rintro e w1 ⟨rfl, _, hb⟩
    go_wp2_with fail
    go_returns
    exact ⟨_, rfl, World.ownsRow_nil _ _ _ _, hb⟩
theorem fields_both (n : Int) : ∃ NN : List B8, NN.length ≤ 100 ∧ NN = (formF (reqT n).2.1).2 ∧ (∀ w, RowAt 0 spaceC w → Calls Tryd.prog 23 #[i6 n] w fun e w' => ∃ v, e = .returned v ∧ OwnS w' w.heap.size v NN ∧ Below w.heap.size w w') ∧
    (∀ w, Calls Tryd.prog 24 #[i6 n] w fun e w' => ∃ v, e = .returned v ∧ OwnS w' w.heap.size v NN ∧ Below w.heap.size w w') := by
  by_cases h : n < 1 ∨ 58 < n
  · have hz : (formF (reqT n).2.1).2 = [] := by rw [reqT_out n h]; exact congrArg Prod.snd formF_nil
    have hk : okS (reqT n).2.1 = true := by rw [reqT_out n h]; exact okS_nil
    exact ⟨[], by simp, hz.symm, fun w ht => by have := pfields_any n w ht hk; rw [hz] at this; exact this, fun w => rfields_out n h w⟩
  · obtain ⟨k, hk, rfl⟩ : ∃ k : Nat, k < 58 ∧ n = (k : Int) + 1 := ⟨(n - 1).toNat, by omega, by omega⟩
    have hm := tab_fact (reqT_mem ((k : Int) + 1) (by omega) (by omega))
    exact ⟨_, formF_len2 hm.1, rfl, fun w ht => pfields_any _ w ht hm.1, fun w => rfields_any k hk w⟩
set_option maxRecDepth 100000 in
set_option maxHeartbeats 4000000 in
theorem lfields_any (n : Int) (w : World) (ht : RowAt 0 spaceC w) : Calls Tryd.prog 5 #[i6 n] w fun e w' => e = .returned (.bool true) ∧ Below w.heap.size w w' := by
  obtain ⟨us, hl, _, hA, hB⟩ := fields_both n
  have HA := Lib.hid (hA w ht)
  have HB := Lib.hid hB
  have HT := Lib.hid ht
  clear hA hB ht
  go_enter Tryd.func5, Tryd.ntmps5
  go_wp2_with fail
  refine HA.out.mono ?_
  rintro e w1 ⟨v1, rfl, ho1, hb1⟩
  have HR1 := Lib.hid (IsRow.of_own ho1 (by simp))
  clear ho1
  go_wp2_with fail
  refine (HB.out _).mono ?_
  rintro e w2 ⟨v2, rfl, ho2, hb2⟩
  have hr2 := IsRow.of_own ho2 (by simp)
  have hr1 := HR1.out.below hb2
  obtain ⟨A1, c1, rfl, hf1⟩ := hr1
  obtain ⟨A2, c2, rfl, hf2⟩ := hr2
  rw [List.length_map] at hf1 hf2 ⊢
  have hq := q_step hb1 hb2
  have HF1 := Lib.hid hf1
  have HF2 := Lib.hid hf2
  clear hf1 hf2 HR1 ho2 hb1 hb2
  obtain ⟨len, hlen⟩ : ∃ len, us.length = len := ⟨_, rfl⟩
  rw [hlen] at HF1 HF2 hl ⊢
  have HN := Lib.hid hlen
  clear hlen
  obtain ⟨W1, hW1⟩ : ∃ W1 : World, W1 = w2 := ⟨_, rfl⟩
  subst hW1
  have HQ := Lib.hid hq
  clear hq
  go_wp2_with fail
  go_loopw [17] (fun i wr => ∃ k : Nat, k ≤ len ∧ i = .int .i64 k ∧ Below W1.heap.size W1 wr)
    (fun i _ => len - (intOf i).toNat)
  case atStart => exact ⟨0, Nat.zero_le _, rfl, Below.refl _ _⟩
  case round =>
    obtain ⟨k, hk, rfl, J⟩ := hrel
    by_cases hlt : k < len
    · obtain ⟨b, off, rfl, hb, hlay⟩ := HF1.out (by omega)
      obtain ⟨b', off', rfl, hb', hlay'⟩ := HF2.out (by omega)
      obtain ⟨u, hu⟩ : ∃ u, us[k]? = some u := ⟨_, List.getElem?_eq_getElem (by rw [HN.out]; exact hlt)⟩
      have hlk : (us.map strV)[k]? = some (strV u) := by rw [List.getElem?_map, hu]; rfl
      have d0 := cell_below J (hlay k _ hlk)
      have d1 := cell_below J (hlay' k _ hlk)
      clear hlay hlay' hlk hu
      have hki : (k : Int) < (len : Int) := by omega
      go_wp2_with fail
      go_quiet (fail)
      have J2 : Below W1.heap.size W1 (wr.drewN nq) := q_drewN _ J
      go_wp2_with fail
      go_roundw
      case rel => exact ⟨k + 1, by omega, by go_num, J2⟩
      case measure => simp [intOf] <;> omega
    · obtain rfl : k = len := by omega
      have hq := q_step HQ.out J
      go_wp2_with fail
      refine (awake03 _ (HT.out.below hq)).mono ?_
      rintro e w7 ⟨rfl, hb7⟩
      go_wp2_with fail
      go_returns
      exact ⟨rfl, q_step hq hb7⟩
theorem name_of (n : Int) (h1 : 1 ≤ n) (h2 : n ≤ 58) : OfIs (reqT n).1 n := Or.inr ⟨h1, h2, rfl⟩
set_option maxRecDepth 100000 in
set_option maxHeartbeats 8000000 in
theorem lback_any (n : Int) (w : World) (ht : RowAt 0 spaceC w) : Calls Tryd.prog 6 #[i6 n] w fun e w' => e = .returned (.bool true) ∧ Below w.heap.size w w' := by
  obtain ⟨F1, ok1, o1, p1, q1, hA, _⟩ := req_both n
  obtain ⟨F2, ok2, p2, q2, _, hB, _⟩ := rep_both n
  obtain ⟨us, hl, hus, hC, _⟩ := fields_both n
  have HA := Lib.hid hA
  have HB := Lib.hid hB
  have HC := Lib.hid hC
  have HT := Lib.hid ht
  clear hA hB hC ht
  obtain ⟨nm, hnm⟩ : ∃ nm, (reqT n).1 = nm := ⟨_, rfl⟩
  have HNM := Lib.hid hnm
  clear hnm
  go_enter Tryd.func6, Tryd.ntmps6
  go_wp2_with fail
  refine (name_any n _).mono ?_
  rintro e w1 ⟨rfl, hq1⟩
  rw [HNM.out]
  go_wp2_with fail
  refine (HA.out _ (HT.out.below hq1)).mono ?_
  rintro e w2 ⟨v1, rfl, hI1, hb2⟩
  obtain ⟨a1, c1, rfl⟩ := own_sl hI1
  have hq2 := q_step hq1 hb2
  clear hI1 hb2 hq1
  go_wp2_with fail
  refine (HB.out _ (HT.out.below (q_alloc hq2 _))).mono ?_
  rintro e w3 ⟨v2, rfl, hI2, hb3⟩
  obtain ⟨a2, c2, rfl⟩ := own_sl hI2
  have hd := (Blk.new (w := w2) (cs := #[.slice a1 F1.1.length c1, .bool F1.2.1, i6 F1.2.2]) (t := 24) rfl).below hb3
  have hq3 := q_step (q_alloc hq2 _) hb3
  have HD := Lib.hid hd
  clear hI2 hb3 hq2 hd
  by_cases hn : 1 ≤ n ∧ n ≤ 58
  · obtain rfl := o1.2 hn
    have hof : OfIs nm n := by rw [← HNM.out]; exact name_of n hn.1 hn.2
    have hne : nm ≠ [] := by rw [← HNM.out]; exact (tab_fact (reqT_mem n hn.1 hn.2)).2.1
    have hlen : F1.1.length = us.length := by rw [p1 rfl, hus, formF_eq]
    obtain ⟨c0, l0, rfl⟩ : ∃ c l, nm = c :: l := by
      cases nm with
      | nil => exact absurd rfl hne
      | cons c l => exact ⟨c, l, rfl⟩
    have ene : ((c0 :: l0) != ([] : B8)) = true := rfl
    have ene2 : ((c0 :: l0) == ([] : B8)) = false := rfl
    have HOF := Lib.hid hof
    rw [hlen] at HD
    have hpos : 0 < n := by omega
    have hdp : decide (0 < n) = true := decide_eq_true hpos
    clear p1 q1 p2 q2 o1 hus hof hne
    go_wp2_with fail
    refine (of_any (c0 :: l0) _).mono ?_
    rintro e w4 ⟨r, rfl, hr, hb4⟩
    obtain rfl := hr.uniq HOF.out
    rw [hdp]
    have hd4 := (HD.out.alloc (.cells #[.slice a2 F2.1.length c2, .bool F2.2.1, i6 F2.2.2] 24)).below hb4
    have hq4 := q_step (q_alloc hq3 _) hb4
    have x0 := stick (hd4.cell 0 rfl)
    have HQ4 := Lib.hid hq4
    clear hr hb4 hd4 hq3 hq4 HD
    clear hlen
    obtain ⟨len, hlen⟩ : ∃ len, us.length = len := ⟨_, rfl⟩
    rw [hlen] at x0
    have HLEN := Lib.hid hlen
    clear hlen
    obtain ⟨W4, hW4⟩ : ∃ W : World, W = w4 := ⟨_, rfl⟩
    subst hW4
    have J : Below W4.heap.size W4 W4 := Below.refl _ _
    go_upto_region 7 with fail
    go_region_held3 (fun w' => Below W4.heap.size W4 w')
      (first | exact J | exact J.drew | exact q_alloc J _ | exact q_alloc J.drew _ | (exact by (repeat' (first | with_reducible exact Below.refl _ _ | with_reducible assumption | with_reducible refine q_alloc ?_ _ | with_reducible refine q_drew ?_ | with_reducible refine q_drewN _ ?_ | with_reducible refine q_setCell ?_ ?_ _ | (left; simp; done) | (right; simp; done) | (right; dsimp only; omega) | (left; dsimp only; omega)))))
      (first
        | (go_at_call 15; refine (awake03 _ (HT.out.below (q_step HQ4.out (by first | exact J | exact J.drew | exact q_alloc J _ | exact q_alloc J.drew _ | (exact by (repeat' (first | with_reducible exact Below.refl _ _ | with_reducible assumption | with_reducible refine q_alloc ?_ _ | with_reducible refine q_drew ?_ | with_reducible refine q_drewN _ ?_ | with_reducible refine q_setCell ?_ ?_ _ | (left; simp; done) | (right; simp; done) | (right; dsimp only; omega) | (left; dsimp only; omega)))))))).mono ?_; rintro e w5 ⟨rfl, hb⟩; have J5 : Below W4.heap.size W4 w5 := q_step (by first | exact J | exact J.drew | exact q_alloc J _ | exact q_alloc J.drew _ | (exact by (repeat' (first | with_reducible exact Below.refl _ _ | with_reducible assumption | with_reducible refine q_alloc ?_ _ | with_reducible refine q_drew ?_ | with_reducible refine q_drewN _ ?_ | with_reducible refine q_setCell ?_ ?_ _ | (left; simp; done) | (right; simp; done) | (right; dsimp only; omega) | (left; dsimp only; omega))))) hb; replace J := J5; clear J5 hb)
        | (go_at_call 23; refine (HC.out _ (HT.out.below (q_step HQ4.out (by first | exact J | exact J.drew | exact q_alloc J _ | exact q_alloc J.drew _ | (exact by (repeat' (first | with_reducible exact Below.refl _ _ | with_reducible assumption | with_reducible refine q_alloc ?_ _ | with_reducible refine q_drew ?_ | with_reducible refine q_drewN _ ?_ | with_reducible refine q_setCell ?_ ?_ _ | (left; simp; done) | (right; simp; done) | (right; dsimp only; omega) | (left; dsimp only; omega)))))))).mono ?_; rintro e w5 ⟨v5, rfl, ho5, hb⟩; obtain ⟨a5, c5, rfl⟩ := own_sl ho5; rw [HLEN.out]; have J5 : Below W4.heap.size W4 w5 := q_step (by first | exact J | exact J.drew | exact q_alloc J _ | exact q_alloc J.drew _ | (exact by (repeat' (first | with_reducible exact Below.refl _ _ | with_reducible assumption | with_reducible refine q_alloc ?_ _ | with_reducible refine q_drew ?_ | with_reducible refine q_drewN _ ?_ | with_reducible refine q_setCell ?_ ?_ _ | (left; simp; done) | (right; simp; done) | (right; dsimp only; omega) | (left; dsimp only; omega))))) hb; replace J := J5; clear J5 hb ho5))
    all_goals (go_wp2_with fail; go_returns; exact ⟨by first | rfl | (simp; done), q_step HQ4.out (by (repeat' (first | with_reducible exact Below.refl _ _ | with_reducible assumption | with_reducible refine q_alloc ?_ _ | with_reducible refine q_drew ?_ | with_reducible refine q_drewN _ ?_ | with_reducible refine q_setCell ?_ ?_ _ | (left; simp; done) | (right; simp; done) | (right; dsimp only; omega) | (left; dsimp only; omega))))⟩)
  · have hok1 : ok1 = false := by
      cases ok1
      · rfl
      · exact absurd (o1.1 rfl) hn
    have hok2 : ok2 = false := by
      cases ok2
      · rfl
      · exact absurd ⟨(p2 rfl).1, (p2 rfl).2.1⟩ hn
    subst hok1 hok2
    have hz : us = [] := by rw [hus, reqT_out n (by omega)]; exact congrArg Prod.snd formF_nil
    have hnz : nm = [] := by rw [← HNM.out, reqT_out n (by omega)]; rfl
    subst hz hnz
    clear p1 q1 p2 q2 o1 hus hn
    go_wp2_with fail
    refine (awake03 _ (HT.out.below (q_alloc hq3 _))).mono ?_
    rintro e w4 ⟨rfl, hb4⟩
    have hq4 := q_step (q_alloc hq3 _) hb4
    clear hb4 hq3
    go_wp2_with fail
    refine (HC.out _ (HT.out.below hq4)).mono ?_
    rintro e w5 ⟨v5, rfl, ho5, hb5⟩
    obtain ⟨a5, c5, rfl⟩ := own_sl ho5
    clear ho5
    go_wp2_with fail
    go_returns
    exact ⟨by first | rfl | (simp; done), q_step hq4 hb5⟩
end Go.Proofs.YtbffnobchjiaeaaDoor
