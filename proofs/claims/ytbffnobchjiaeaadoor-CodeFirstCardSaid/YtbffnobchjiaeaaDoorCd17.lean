/- Layer 3: the walks of CodeForms, CodeNames, CodeAlone. -/
import Derived.Test.YtbffnobchjiaeaaDoorCd16
namespace Go.Proofs.YtbffnobchjiaeaaDoor
open Go Go.RowKit
set_option linter.unusedSimpArgs false
set_option linter.unusedVariables false
theorem stepF_all (ws : List B8) (r : F3 × List B8) : (ws.foldl stepF r).1.1.length ≤ r.1.1.length + ws.length := (formL_len ws r).1
theorem formF_len {s : B8} (h : okS s = true) : (formF s).1.1.length ≤ 100 := by
  have h1 := formL_len (Lib.fields s) zeroF
  have h2 := (okS_of h).many
  simp only [zeroF, List.length_nil] at h1
  unfold formF formL; omega
set_option maxRecDepth 100000 in
set_option maxHeartbeats 8000000 in
theorem lforms_any (n : Int) (w : World) (ht : RowAt 0 spaceC w) : Calls Tryd.prog 3 #[i6 n] w fun e w' => e = .returned (.bool true) ∧ Below w.heap.size w w' := by
  obtain ⟨F1, ok1, o1, p1, q1, hA, hD⟩ := req_both n
  obtain ⟨F2, ok2, p2, q2, _, hB, hE⟩ := rep_both n
  obtain ⟨F3, ok3, o3, p3, q3, hC, hG⟩ := eve_both n
  have l1 : F1.1.length ≤ 1000 := by
    cases ok1
    · rw [q1 rfl]; simp
    · have hn := o1.1 rfl
      rw [p1 rfl]; have := formF_len (tab_fact (reqT_mem n hn.1 hn.2)).1; omega
  have l2 : F2.1.length ≤ 1000 := by
    cases ok2
    · rw [q2 rfl]; simp
    · obtain ⟨k1, k2, k3, k4⟩ := p2 rfl
      rw [k4]; have := formF_len ((tab_fact (reqT_mem n k1 k2)).2.2.resolve_left k3); omega
  have l3 : F3.1.length ≤ 1000 := by
    cases ok3
    · rw [q3 rfl]; simp
    · have hn := o3.1 rfl
      rw [p3 rfl]; have := formF_len (tab_fact (eveT_mem n hn.1 hn.2)).1; omega
  have HA := Lib.hid hA
  have HB := Lib.hid hB
  have HC := Lib.hid hC
  have HD := Lib.hid hD
  have HE := Lib.hid hE
  have HG := Lib.hid hG
  have HT := Lib.hid ht
  clear o1 p1 q1 hA hD p2 q2 hB hE o3 p3 q3 hC hG ht
  go_enter Tryd.func3, Tryd.ntmps3
  go_wp2_with fail
  refine (HA.out _ (HT.out.below (by (repeat' (first | with_reducible exact Below.refl _ _ | with_reducible assumption | with_reducible refine q_alloc ?_ _ | with_reducible refine q_drew ?_ | with_reducible refine q_drewN _ ?_ | with_reducible refine q_setCell ?_ ?_ _ | (left; simp; done) | (right; simp; done) | (right; dsimp only; omega) | (left; dsimp only; omega)))))).mono ?_
  rintro e w1 ⟨v1, rfl, hI1, hb1⟩
  obtain ⟨a1, m1, c1, rfl⟩ := own_slice hI1
  have R1 := Lib.hid (IsRow.of_own hI1 (by simp))
  have B1 := Lib.hid (Blk.new (w := w1) (cs := #[.slice a1 m1 c1, .bool F1.2.1, i6 F1.2.2]) (t := 24) rfl)
  have hq1 : Below w.heap.size w w1 := hb1
  clear hI1 hb1
  go_wp2_with fail
  refine (HB.out _ (HT.out.below (by (repeat' (first | with_reducible exact Below.refl _ _ | with_reducible assumption | with_reducible refine q_alloc ?_ _ | with_reducible refine q_drew ?_ | with_reducible refine q_drewN _ ?_ | with_reducible refine q_setCell ?_ ?_ _ | (left; simp; done) | (right; simp; done) | (right; dsimp only; omega) | (left; dsimp only; omega)))))).mono ?_
  rintro e w2 ⟨v2, rfl, hI2, hb2⟩
  obtain ⟨a2, m2, c2, rfl⟩ := own_slice hI2
  replace B1 := Lib.hid (B1.out.below (q_step (Below.refl _ _) hb2))
  replace R1 := Lib.hid (R1.out.below (q_step (q_alloc (Below.refl _ _) _) hb2))
  have R2 := Lib.hid (IsRow.of_own hI2 (by simp))
  have B2 := Lib.hid (Blk.new (w := w2) (cs := #[.slice a2 m2 c2, .bool F2.2.1, i6 F2.2.2]) (t := 24) rfl)
  have hq2 : Below w.heap.size w w2 := q_step (q_alloc hq1 _) hb2
  clear hq1
  clear hI2 hb2
  go_wp2_with fail
  refine (HC.out _ (HT.out.below (by (repeat' (first | with_reducible exact Below.refl _ _ | with_reducible assumption | with_reducible refine q_alloc ?_ _ | with_reducible refine q_drew ?_ | with_reducible refine q_drewN _ ?_ | with_reducible refine q_setCell ?_ ?_ _ | (left; simp; done) | (right; simp; done) | (right; dsimp only; omega) | (left; dsimp only; omega)))))).mono ?_
  rintro e w3 ⟨v3, rfl, hI3, hb3⟩
  obtain ⟨a3, m3, c3, rfl⟩ := own_slice hI3
  replace B1 := Lib.hid (B1.out.below (q_step (q_alloc (Below.refl _ _) _) hb3))
  replace R1 := Lib.hid (R1.out.below (q_step (q_alloc (Below.refl _ _) _) hb3))
  replace B2 := Lib.hid (B2.out.below (q_step (Below.refl _ _) hb3))
  replace R2 := Lib.hid (R2.out.below (q_step (q_alloc (Below.refl _ _) _) hb3))
  have R3 := Lib.hid (IsRow.of_own hI3 (by simp))
  have B3 := Lib.hid (Blk.new (w := w3) (cs := #[.slice a3 m3 c3, .bool F3.2.1, i6 F3.2.2]) (t := 24) rfl)
  have hq3 : Below w.heap.size w w3 := q_step (q_alloc hq2 _) hb3
  clear hq2
  clear hI3 hb3
  go_wp2_with fail
  refine (HD.out _).mono ?_
  rintro e w4 ⟨v4, rfl, hI4, hb4⟩
  obtain ⟨a4, m4, c4, rfl⟩ := own_slice hI4
  replace B1 := Lib.hid (B1.out.below (q_step (q_alloc (Below.refl _ _) _) hb4))
  replace R1 := Lib.hid (R1.out.below (q_step (q_alloc (Below.refl _ _) _) hb4))
  replace B2 := Lib.hid (B2.out.below (q_step (q_alloc (Below.refl _ _) _) hb4))
  replace R2 := Lib.hid (R2.out.below (q_step (q_alloc (Below.refl _ _) _) hb4))
  replace B3 := Lib.hid (B3.out.below (q_step (Below.refl _ _) hb4))
  replace R3 := Lib.hid (R3.out.below (q_step (q_alloc (Below.refl _ _) _) hb4))
  have R4 := Lib.hid (IsRow.of_own hI4 (by simp))
  have B4 := Lib.hid (Blk.new (w := w4) (cs := #[.slice a4 m4 c4, .bool F1.2.1, i6 F1.2.2]) (t := 27) rfl)
  have hq4 : Below w.heap.size w w4 := q_step (q_alloc hq3 _) hb4
  clear hq3
  clear hI4 hb4
  go_wp2_with fail
  refine (HE.out _).mono ?_
  rintro e w5 ⟨v5, rfl, hI5, hb5⟩
  obtain ⟨a5, m5, c5, rfl⟩ := own_slice hI5
  replace B1 := Lib.hid (B1.out.below (q_step (q_alloc (Below.refl _ _) _) hb5))
  replace R1 := Lib.hid (R1.out.below (q_step (q_alloc (Below.refl _ _) _) hb5))
  replace B2 := Lib.hid (B2.out.below (q_step (q_alloc (Below.refl _ _) _) hb5))
  replace R2 := Lib.hid (R2.out.below (q_step (q_alloc (Below.refl _ _) _) hb5))
  replace B3 := Lib.hid (B3.out.below (q_step (q_alloc (Below.refl _ _) _) hb5))
  replace R3 := Lib.hid (R3.out.below (q_step (q_alloc (Below.refl _ _) _) hb5))
  replace B4 := Lib.hid (B4.out.below (q_step (Below.refl _ _) hb5))
  replace R4 := Lib.hid (R4.out.below (q_step (q_alloc (Below.refl _ _) _) hb5))
  have R5 := Lib.hid (IsRow.of_own hI5 (by simp))
  have B5 := Lib.hid (Blk.new (w := w5) (cs := #[.slice a5 m5 c5, .bool F2.2.1, i6 F2.2.2]) (t := 27) rfl)
  have hq5 : Below w.heap.size w w5 := q_step (q_alloc hq4 _) hb5
  clear hq4
  clear hI5 hb5
  go_wp2_with fail
  refine (HG.out _).mono ?_
  rintro e w6 ⟨v6, rfl, hI6, hb6⟩
  obtain ⟨a6, m6, c6, rfl⟩ := own_slice hI6
  replace B1 := Lib.hid (B1.out.below (q_step (q_alloc (Below.refl _ _) _) hb6))
  replace R1 := Lib.hid (R1.out.below (q_step (q_alloc (Below.refl _ _) _) hb6))
  replace B2 := Lib.hid (B2.out.below (q_step (q_alloc (Below.refl _ _) _) hb6))
  replace R2 := Lib.hid (R2.out.below (q_step (q_alloc (Below.refl _ _) _) hb6))
  replace B3 := Lib.hid (B3.out.below (q_step (q_alloc (Below.refl _ _) _) hb6))
  replace R3 := Lib.hid (R3.out.below (q_step (q_alloc (Below.refl _ _) _) hb6))
  replace B4 := Lib.hid (B4.out.below (q_step (q_alloc (Below.refl _ _) _) hb6))
  replace R4 := Lib.hid (R4.out.below (q_step (q_alloc (Below.refl _ _) _) hb6))
  replace B5 := Lib.hid (B5.out.below (q_step (Below.refl _ _) hb6))
  replace R5 := Lib.hid (R5.out.below (q_step (q_alloc (Below.refl _ _) _) hb6))
  have R6 := Lib.hid (IsRow.of_own hI6 (by simp))
  have B6 := Lib.hid (Blk.new (w := w6) (cs := #[.slice a6 m6 c6, .bool F3.2.1, i6 F3.2.2]) (t := 27) rfl)
  have hq6 : Below w.heap.size w w6 := q_step (q_alloc hq5 _) hb6
  clear hq5
  clear hI6 hb6
  go_wp2_with fail
  refine (awake03 _ (HT.out.below (by (repeat' (first | with_reducible exact Below.refl _ _ | with_reducible assumption | with_reducible refine q_alloc ?_ _ | with_reducible refine q_drew ?_ | with_reducible refine q_drewN _ ?_ | with_reducible refine q_setCell ?_ ?_ _ | (left; simp; done) | (right; simp; done) | (right; dsimp only; omega) | (left; dsimp only; omega)))))).mono ?_
  rintro e w7 ⟨rfl, hb7⟩
  replace B1 := Lib.hid (B1.out.below (q_step (q_alloc (Below.refl _ _) _) hb7))
  replace R1 := Lib.hid (R1.out.below (q_step (q_alloc (Below.refl _ _) _) hb7))
  replace B2 := Lib.hid (B2.out.below (q_step (q_alloc (Below.refl _ _) _) hb7))
  replace R2 := Lib.hid (R2.out.below (q_step (q_alloc (Below.refl _ _) _) hb7))
  replace B3 := Lib.hid (B3.out.below (q_step (q_alloc (Below.refl _ _) _) hb7))
  replace R3 := Lib.hid (R3.out.below (q_step (q_alloc (Below.refl _ _) _) hb7))
  replace B4 := Lib.hid (B4.out.below (q_step (q_alloc (Below.refl _ _) _) hb7))
  replace R4 := Lib.hid (R4.out.below (q_step (q_alloc (Below.refl _ _) _) hb7))
  replace B5 := Lib.hid (B5.out.below (q_step (q_alloc (Below.refl _ _) _) hb7))
  replace R5 := Lib.hid (R5.out.below (q_step (q_alloc (Below.refl _ _) _) hb7))
  replace B6 := Lib.hid (B6.out.below (q_step (Below.refl _ _) hb7))
  replace R6 := Lib.hid (R6.out.below (q_step (q_alloc (Below.refl _ _) _) hb7))
  have x10 := stick (B1.out.cell 0 rfl)
  have x11 := stick (B1.out.cell 1 rfl)
  have x12 := stick (B1.out.cell 2 rfl)
  have x20 := stick (B2.out.cell 0 rfl)
  have x21 := stick (B2.out.cell 1 rfl)
  have x22 := stick (B2.out.cell 2 rfl)
  have x30 := stick (B3.out.cell 0 rfl)
  have x31 := stick (B3.out.cell 1 rfl)
  have x32 := stick (B3.out.cell 2 rfl)
  have x40 := stick (B4.out.cell 0 rfl)
  have x41 := stick (B4.out.cell 1 rfl)
  have x42 := stick (B4.out.cell 2 rfl)
  have x50 := stick (B5.out.cell 0 rfl)
  have x51 := stick (B5.out.cell 1 rfl)
  have x52 := stick (B5.out.cell 2 rfl)
  have x60 := stick (B6.out.cell 0 rfl)
  have x61 := stick (B6.out.cell 1 rfl)
  have x62 := stick (B6.out.cell 2 rfl)
  have hq7 : Below w.heap.size w w7 := q_step (q_alloc hq6 _) hb7
  clear hb7 hq6 B1 B2 B3 B4 B5 B6
  have J : Below w7.heap.size w7 w7 := Below.refl _ _
  go_wp2_with fail
  refine (same_any F1 _ _ _ R1.out R4.out l1).mono ?_
  rintro e w8 ⟨rfl, hb8⟩
  have J8 : Below w7.heap.size w7 w8 := hb8
  replace J := J8
  clear J8 hb8
  go_wp2_with fail
  refine (same_any F2 _ _ _ (R2.out.below J) (R5.out.below J) l2).mono ?_
  rintro e w9 ⟨rfl, hb9⟩
  have J9 : Below w7.heap.size w7 w9 := q_step J hb9
  replace J := J9
  clear J9 hb9
  go_wp2_with fail
  refine (same_any F3 _ _ _ (R3.out.below J) (R6.out.below J) l3).mono ?_
  rintro e w10 ⟨rfl, hb10⟩
  go_wp2_with fail
  go_returns
  exact ⟨by first | rfl | (simp; done), q_step (q_step hq7 J) hb10⟩
set_option maxRecDepth 100000 in
set_option maxHeartbeats 8000000 in
theorem lnames_any (n : Int) (s : B8) (w : World) (ht : RowAt 0 spaceC w) : Calls Tryd.prog 4 #[i6 n, strV s] w fun e w' => e = .returned (.bool true) ∧ Below w.heap.size w w' := by
  have HT := Lib.hid ht
  clear ht
  by_cases hl : 100 < s.length
  · have hl' : (100 : Int) < (s.length : Int) := by omega
    go_enter Tryd.func4, Tryd.ntmps4
    go_wp2_with fail
    refine (awake03 _ HT.out).mono ?_
    rintro e w1 ⟨rfl, hb1⟩
    go_wp2_with fail
    go_returns
    exact ⟨rfl, hb1⟩
  · have hl' : ¬ (100 : Int) < (s.length : Int) := by omega
    clear hl
    go_enter Tryd.func4, Tryd.ntmps4
    go_wp2_with fail
    refine (of_any s _).mono ?_
    rintro e w1 ⟨r, rfl, hr, hq⟩
    have HR := Lib.hid hr
    clear hr
    go_wp2_with fail
    refine (awake03 _ (HT.out.below hq)).mono ?_
    rintro e w2 ⟨rfl, hb⟩
    replace hq := q_step hq hb
    clear hb
    go_wp2_with fail
    refine (name_any n _).mono ?_
    rintro e w3 ⟨rfl, hb⟩
    replace hq := q_step hq hb
    clear hb
    go_wp2_with fail
    refine (rname_any n _).mono ?_
    rintro e w4 ⟨rfl, hb⟩
    replace hq := q_step hq hb
    clear hb
    generalize (reqT n).1 = nm
    go_wp2_with fail
    refine (eventname_any n _).mono ?_
    rintro e w5 ⟨rfl, hb⟩
    replace hq := q_step hq hb
    clear hb
    go_wp2_with fail
    refine (rename_any n _).mono ?_
    rintro e w6 ⟨rfl, hb⟩
    replace hq := q_step hq hb
    clear hb
    generalize (eveT n).1 = en
    go_wp2_with fail
    refine (rof_any s _).mono ?_
    rintro e w7 ⟨r', rfl, hr', hb⟩
    obtain rfl := hr'.uniq HR.out
    replace hq := q_step hq hb
    clear hb hr'
    go_wp2_with fail
    refine (rof_any s _).mono ?_
    rintro e w8 ⟨r'', rfl, hr', hb⟩
    obtain rfl := hr'.uniq HR.out
    replace hq := q_step hq hb
    clear hb hr'
    go_wp2_with fail
    go_returns
    exact ⟨by first | rfl | (simp; done), hq⟩
theorem name_eq (n : Int) (h : n < 1 ∨ 58 < n) : (reqT n).1 = [] := by rw [reqT_out n h]; rfl
theorem ename_eq (n : Int) (h : n < 1 ∨ 25 < n) : (eveT n).1 = [] := by rw [eveT_out n h]; rfl
theorem names_alone (n m : Int) (h : n ≠ m) (h1 : (reqT n).1 ≠ []) : (reqT n).1 ≠ (reqT m).1 := by
  intro e
  by_cases hn : n < 1 ∨ 58 < n
  · exact h1 (name_eq n hn)
  · by_cases hm : m < 1 ∨ 58 < m
    · exact h1 (e.trans (name_eq m hm))
    · have := names_inj (n - 1).toNat (m - 1).toNat (by omega) (by omega) (by
        rw [show (((n - 1).toNat : Nat) : Int) + 1 = n by omega, show (((m - 1).toNat : Nat) : Int) + 1 = m by omega, e])
      omega
theorem enames_inj (i j : Nat) (hi : i < 25) (hj : j < 25) (h : (eveT ((i : Int) + 1)).1 = (eveT ((j : Int) + 1)).1) : i = j := by
  have h1 := (List.all_eq_true.1 ((List.all_eq_true.1 namesE_ne) i (by simpa using hi))) j (by simpa using hj)
  unfold eqNamesE at h1
  simp only [Bool.or_eq_true, beq_iff_eq, Bool.not_eq_true', beq_eq_false_iff_ne] at h1
  exact h1.resolve_right fun hne => hne h
theorem enames_alone (n m : Int) (h : n ≠ m) (h1 : (eveT n).1 ≠ []) : (eveT n).1 ≠ (eveT m).1 := by
  intro e
  by_cases hn : n < 1 ∨ 25 < n
  · exact h1 (ename_eq n hn)
  · by_cases hm : m < 1 ∨ 25 < m
    · exact h1 (e.trans (ename_eq m hm))
    · have := enames_inj (n - 1).toNat (m - 1).toNat (by omega) (by omega) (by
        rw [show (((n - 1).toNat : Nat) : Int) + 1 = n by omega, show (((m - 1).toNat : Nat) : Int) + 1 = m by omega, e])
      omega
set_option maxRecDepth 100000 in
set_option maxHeartbeats 8000000 in
theorem lalone_any (n m : Int) (w : World) (ht : RowAt 0 spaceC w) : Calls Tryd.prog 7 #[i6 n, i6 m] w fun e w' => e = .returned (.bool true) ∧ Below w.heap.size w w' := by
  have HT := Lib.hid ht
  clear ht
  by_cases hnm : n = m
  · subst hnm
    go_enter Tryd.func7, Tryd.ntmps7
    go_wp2_with fail
    refine (awake03 _ HT.out).mono ?_
    rintro e w1 ⟨rfl, hb1⟩
    go_wp2_with fail
    go_returns
    exact ⟨by first | rfl | (simp; done), hb1⟩
  · have enm : (n == m) = false := by simpa using hnm
    have e1 := names_alone n m hnm
    have e2 := enames_alone n m hnm
    clear hnm
    generalize ha : (reqT n).1 = a at e1
    generalize hb : (reqT m).1 = b at e1
    generalize hc : (eveT n).1 = c at e2
    generalize hd : (eveT m).1 = d at e2
    have HA := Lib.hid ha
    have HB := Lib.hid hb
    have HC := Lib.hid hc
    have HD := Lib.hid hd
    clear ha hb hc hd
    by_cases ha0 : a = []
    · have ea : (a == []) = true := by simpa using ha0
      clear e1 ha0
      by_cases hc0 : c = []
      · have ec : (c == []) = true := by simpa using hc0
        clear e2 hc0
        go_enter Tryd.func7, Tryd.ntmps7
        go_wp2_with fail
        refine (awake03 _ HT.out).mono ?_
        rintro e w0 ⟨rfl, hq⟩
        go_wp2_with fail
        refine (name_any n _).mono ?_
        rintro e w1 ⟨rfl, hb⟩
        rw [HA.out]
        replace hq := q_step hq hb
        clear hb
        go_wp2_with fail
        refine (eventname_any n _).mono ?_
        rintro e w2 ⟨rfl, hb⟩
        rw [HC.out]
        replace hq := q_step hq hb
        clear hb
        go_wp2_with fail
        go_returns
        exact ⟨by first | rfl | (simp; done), hq⟩
      · have ec : (c == []) = false := by simpa using hc0
        have ed : (c == d) = false := by simpa using e2 hc0
        clear e2 hc0
        go_enter Tryd.func7, Tryd.ntmps7
        go_wp2_with fail
        refine (awake03 _ HT.out).mono ?_
        rintro e w0 ⟨rfl, hq⟩
        go_wp2_with fail
        refine (name_any n _).mono ?_
        rintro e w1 ⟨rfl, hb⟩
        rw [HA.out]
        replace hq := q_step hq hb
        clear hb
        go_wp2_with fail
        refine (eventname_any n _).mono ?_
        rintro e w2 ⟨rfl, hb⟩
        rw [HC.out]
        replace hq := q_step hq hb
        clear hb
        go_wp2_with fail
        refine (eventname_any n _).mono ?_
        rintro e w3 ⟨rfl, hb⟩
        rw [HC.out]
        replace hq := q_step hq hb
        clear hb
        go_wp2_with fail
        refine (eventname_any m _).mono ?_
        rintro e w4 ⟨rfl, hb⟩
        rw [HD.out]
        replace hq := q_step hq hb
        clear hb
        go_wp2_with fail
        go_returns
        exact ⟨by first | rfl | (simp; done), hq⟩
    · have ea : (a == []) = false := by simpa using ha0
      have eb : (a == b) = false := by simpa using e1 ha0
      clear e1 ha0
      by_cases hc0 : c = []
      · have ec : (c == []) = true := by simpa using hc0
        clear e2 hc0
        go_enter Tryd.func7, Tryd.ntmps7
        go_wp2_with fail
        refine (awake03 _ HT.out).mono ?_
        rintro e w0 ⟨rfl, hq⟩
        go_wp2_with fail
        refine (name_any n _).mono ?_
        rintro e w1 ⟨rfl, hb⟩
        rw [HA.out]
        replace hq := q_step hq hb
        clear hb
        go_wp2_with fail
        refine (name_any n _).mono ?_
        rintro e w2 ⟨rfl, hb⟩
        rw [HA.out]
        replace hq := q_step hq hb
        clear hb
        go_wp2_with fail
        refine (name_any m _).mono ?_
        rintro e w3 ⟨rfl, hb⟩
        rw [HB.out]
        replace hq := q_step hq hb
        clear hb
        go_wp2_with fail
        refine (eventname_any n _).mono ?_
        rintro e w4 ⟨rfl, hb⟩
        rw [HC.out]
        replace hq := q_step hq hb
        clear hb
        go_wp2_with fail
        go_returns
        exact ⟨by first | rfl | (simp; done), hq⟩
      · have ec : (c == []) = false := by simpa using hc0
        have ed : (c == d) = false := by simpa using e2 hc0
        clear e2 hc0
        go_enter Tryd.func7, Tryd.ntmps7
        go_wp2_with fail
        refine (awake03 _ HT.out).mono ?_
        rintro e w0 ⟨rfl, hq⟩
        go_wp2_with fail
        refine (name_any n _).mono ?_
        rintro e w1 ⟨rfl, hb⟩
        rw [HA.out]
        replace hq := q_step hq hb
        clear hb
        go_wp2_with fail
        refine (name_any n _).mono ?_
        rintro e w2 ⟨rfl, hb⟩
        rw [HA.out]
        replace hq := q_step hq hb
        clear hb
        go_wp2_with fail
        refine (name_any m _).mono ?_
        rintro e w3 ⟨rfl, hb⟩
        rw [HB.out]
        replace hq := q_step hq hb
        clear hb
        go_wp2_with fail
        refine (eventname_any n _).mono ?_
        rintro e w4 ⟨rfl, hb⟩
        rw [HC.out]
        replace hq := q_step hq hb
        clear hb
        go_wp2_with fail
        refine (eventname_any n _).mono ?_
        rintro e w5 ⟨rfl, hb⟩
        rw [HC.out]
        replace hq := q_step hq hb
        clear hb
        go_wp2_with fail
        refine (eventname_any m _).mono ?_
        rintro e w6 ⟨rfl, hb⟩
        rw [HD.out]
        replace hq := q_step hq hb
        clear hb
        go_wp2_with fail
        go_returns
        exact ⟨by first | rfl | (simp; done), hq⟩
end Go.Proofs.YtbffnobchjiaeaaDoor
