/- Layer 3: CodeFirst's walk. -/
import Derived.Test.YtbffnobchjiaeaaDoorCd20
namespace Go.Proofs.YtbffnobchjiaeaaDoor
open Go Go.RowKit
set_option linter.unusedSimpArgs false
set_option linter.unusedVariables false
theorem chk_tab : (winT ++ drawT ++ handT ++ evT).all (fun e => chkB (formF e.2.1).1 && (e.2.2 == [45] || chkB (formF e.2.2).1)) = true := by decide +kernel
theorem chk_zero : chkB ([], false, 0) = true := by decide +kernel
def headB (F : F3) : Bool := match F.1 with | [] => false | a :: _ => a == 4
theorem first_req : (List.range 58).all (fun k => (formF (reqT ((k : Int) + 1)).2.1).1.1.isEmpty || headB (formF (reqT ((k : Int) + 1)).2.1).1 || k == 10 || k == 46) = true := by decide +kernel
theorem first_eve : (List.range 25).all (fun k => headB (formF (eveT ((k : Int) + 1)).2.1).1 && !(formF (eveT ((k : Int) + 1)).2.1).1.2.1) = true := by decide +kernel
theorem chk_fact {e : E3} (h : e ∈ winT ++ drawT ++ handT ++ evT) : chkB (formF e.2.1).1 = true ∧ (e.2.2 = [45] ∨ chkB (formF e.2.2).1 = true) := by
  have h1 := (List.all_eq_true.1 chk_tab) e h
  simp only [Bool.and_eq_true, Bool.or_eq_true, beq_iff_eq] at h1
  exact h1
theorem head_of {F : F3} (h : headB F = true) : ∃ t, F.1 = 4 :: t := by
  unfold headB at h
  cases hF : F.1 with
  | nil => rw [hF] at h; simp at h
  | cons a t => rw [hF] at h; simp at h; exact ⟨t, by rw [h]⟩
/-- What is known of a request's form. -/
def ReqHead (n : Int) (us : List Int) : Prop := us = [] ∨ (∃ t, us = 4 :: t) ∨ ((n = 11 ∨ n = 47) ∧ ∃ a t, us = a :: t ∧ (a == 4) = false)
theorem row_head {w : World} {a : Option Addr} {n c : Nat} {x : Int} {t : List Int} (h : IsRow w (.slice a n c) ((x :: t).map i6)) : 0 < n ∧ ∃ b off, a = some ⟨b, off, none⟩ ∧ b < w.heap.size ∧ w.cell? ⟨b, off, none⟩ = some (i6 x) := by
  obtain ⟨A, cap, e, hf⟩ := h
  injection e with e1 e2 e3
  subst e1 e2
  obtain ⟨b, off, h1, h2, h3⟩ := hf (by simp)
  exact ⟨by simp, b, off, h1, h2, by have := h3 0 (i6 x) rfl; rwa [Nat.add_zero] at this⟩
theorem check_b (F : F3) (B : Bool) (hB : F.2.1 = B) (fv : Value) (w : World) (hI : IsRow w fv (F.1.map i6)) (hk : chkB F = true) (hs : RowAt 2 spanCells w) :
    Calls Tryd.prog 25 #[.agg #[fv, .bool B, i6 F.2.2]] w fun e w' => e = .returned (i6 0) ∧ Below w.heap.size w w' := by
  subst hB; exact check_any F fv w hI hk hs
theorem row_none {w : World} {a : Option Addr} {n c : Nat} (h : IsRow w (.slice a n c) (([] : List Int).map i6)) : n = 0 := by
  obtain ⟨A, cap, e, hf⟩ := h
  injection e with e1 e2 e3
set_option maxRecDepth 100000 in
set_option maxHeartbeats 16000000 in
theorem lfirst_lo (n : Int) (w : World) (hn : ¬ (1 ≤ n ∧ n ≤ 25)) (ht : RowAt 0 spaceC w) (hs : RowAt 2 spanCells w) : Calls Tryd.prog 8 #[i6 n] w fun e w' => e = .returned (.bool true) ∧ Below w.heap.size w w' := by
  obtain ⟨F1, ok1, o1, p1, q1, hA, _⟩ := req_both n
  obtain ⟨F2, ok2, p2, q2, _, hB, _⟩ := rep_both n
  obtain ⟨F3, ok3, o3, p3, q3, hC, _⟩ := eve_both n
  have c1 : chkB F1 = true := by
    cases ok1
    · rw [q1 rfl]; exact chk_zero
    · have hn := o1.1 rfl
      rw [p1 rfl]; exact (chk_fact (reqT_mem n hn.1 hn.2)).1
  have c2 : chkB F2 = true := by
    cases ok2
    · rw [q2 rfl]; exact chk_zero
    · obtain ⟨k1, k2, k3, k4⟩ := p2 rfl
      rw [k4]; exact (chk_fact (reqT_mem n k1 k2)).2.resolve_left k3
  have c3 : chkB F3 = true := by
    cases ok3
    · rw [q3 rfl]; exact chk_zero
    · have hn := o3.1 rfl
      rw [p3 rfl]; exact (chk_fact (eveT_mem n hn.1 hn.2)).1
  have r1 : ReqHead n F1.1 ∧ (ok1 = false → F1.1 = []) := by
    refine ⟨?_, fun h => by rw [q1 h]⟩
    cases ok1
    · rw [q1 rfl]; exact Or.inl rfl
    · obtain ⟨k, hk, rfl⟩ : ∃ k : Nat, k < 58 ∧ n = (k : Int) + 1 := by have hn := o1.1 rfl; exact ⟨(n - 1).toNat, by omega, by omega⟩
      have h1 := (List.all_eq_true.1 first_req) k (by simpa using hk)
      rw [← p1 rfl] at h1
      simp only [Bool.or_eq_true, beq_iff_eq, List.isEmpty_iff] at h1
      cases hF : F1.1 with
      | nil => exact Or.inl rfl
      | cons a t =>
        by_cases ha : a = 4
        · subst ha; exact Or.inr (Or.inl ⟨t, rfl⟩)
        · refine Or.inr (Or.inr ⟨?_, a, t, rfl, by simpa using ha⟩)
          rcases h1 with ((h1 | h1) | h1) | h1
          · rw [hF] at h1; simp at h1
          · obtain ⟨t', h2⟩ := head_of h1; rw [hF] at h2; injection h2 with h3; exact absurd h3 ha
          · left; omega
          · right; omega
  have r2 : ok2 = false → F2.1 = [] := fun h => by rw [q2 h]
  have r3 : (ok3 = false ∧ F3.1 = []) ∨ (ok3 = true ∧ (∃ t, F3.1 = 4 :: t) ∧ F3.2.1 = false) := by
    cases ok3
    · exact Or.inl ⟨rfl, by rw [q3 rfl]⟩
    · obtain ⟨k, hk, rfl⟩ : ∃ k : Nat, k < 25 ∧ n = (k : Int) + 1 := by have hn := o3.1 rfl; exact ⟨(n - 1).toNat, by omega, by omega⟩
      have h1 := (List.all_eq_true.1 first_eve) k (by simpa using hk)
      rw [← p3 rfl] at h1
      simp only [Bool.and_eq_true, Bool.not_eq_true'] at h1
      exact Or.inr ⟨rfl, head_of h1.1, h1.2⟩
  have HA := Lib.hid hA
  have HB := Lib.hid hB
  have HC := Lib.hid hC
  have HT := Lib.hid ht
  have HSP := Lib.hid hs
  have HC1 := Lib.hid c1
  have HC2 := Lib.hid c2
  have HC3 := Lib.hid c3
  have HO1 := Lib.hid o1
  have HO3 := Lib.hid o3
  have HP2 : Hid (ok2 = true → 1 ≤ n ∧ n ≤ 58) := Lib.hid (fun h => ⟨(p2 h).1, (p2 h).2.1⟩)
  clear o1 p1 q1 hA p2 q2 hB o3 p3 q3 hC ht hs c1 c2 c3
  have HR1 := Lib.hid r1
  have HR2 := Lib.hid r2
  have HR3 := Lib.hid r3
  clear r1 r2 r3
  go_enter Tryd.func8, Tryd.ntmps8
  go_wp2_with fail
  refine (HA.out _ (HT.out.below (by (repeat' (first | with_reducible exact Below.refl _ _ | with_reducible assumption | with_reducible refine q_alloc ?_ _ | with_reducible refine q_drew ?_ | with_reducible refine q_drewN _ ?_ | with_reducible refine q_setCell ?_ ?_ _ | (left; simp; done) | (right; simp; done) | (right; dsimp only; omega) | (left; dsimp only; omega)))))).mono ?_
  rintro e w1 ⟨v1, rfl, hI1, hb1⟩
  obtain ⟨a1, m1, c1, rfl⟩ := own_slice hI1
  have R1 := Lib.hid (IsRow.of_own hI1 (by simp))
  have B1 := Lib.hid (Blk.new (w := w1) (cs := #[.slice a1 m1 c1, .bool F1.2.1, i6 F1.2.2]) (t := 24) rfl)
  have hq1 : Below w.heap.size w w1 := hb1
  clear hI1 hb1
  go_wp2_with fail
  refine (HC.out _ (HT.out.below (by (repeat' (first | with_reducible exact Below.refl _ _ | with_reducible assumption | with_reducible refine q_alloc ?_ _ | with_reducible refine q_drew ?_ | with_reducible refine q_drewN _ ?_ | with_reducible refine q_setCell ?_ ?_ _ | (left; simp; done) | (right; simp; done) | (right; dsimp only; omega) | (left; dsimp only; omega)))))).mono ?_
  rintro e w2 ⟨v2, rfl, hI2, hb2⟩
  obtain ⟨a2, m2, c2, rfl⟩ := own_slice hI2
  replace B1 := Lib.hid (B1.out.below (q_step (Below.refl _ _) hb2))
  replace R1 := Lib.hid (R1.out.below (q_step (q_alloc (Below.refl _ _) _) hb2))
  have R2 := Lib.hid (IsRow.of_own hI2 (by simp))
  have B2 := Lib.hid (Blk.new (w := w2) (cs := #[.slice a2 m2 c2, .bool F3.2.1, i6 F3.2.2]) (t := 24) rfl)
  have hq2 : Below w.heap.size w w2 := q_step (q_alloc hq1 _) hb2
  clear hq1
  clear hI2 hb2
  go_wp2_with fail
  refine (HB.out _ (HT.out.below (by (repeat' (first | with_reducible exact Below.refl _ _ | with_reducible assumption | with_reducible refine q_alloc ?_ _ | with_reducible refine q_drew ?_ | with_reducible refine q_drewN _ ?_ | with_reducible refine q_setCell ?_ ?_ _ | (left; simp; done) | (right; simp; done) | (right; dsimp only; omega) | (left; dsimp only; omega)))))).mono ?_
  rintro e w3 ⟨v3, rfl, hI3, hb3⟩
  obtain ⟨a3, m3, c3, rfl⟩ := own_slice hI3
  replace B1 := Lib.hid (B1.out.below (q_step (q_alloc (Below.refl _ _) _) hb3))
  replace R1 := Lib.hid (R1.out.below (q_step (q_alloc (Below.refl _ _) _) hb3))
  replace B2 := Lib.hid (B2.out.below (q_step (Below.refl _ _) hb3))
  replace R2 := Lib.hid (R2.out.below (q_step (q_alloc (Below.refl _ _) _) hb3))
  have R3 := Lib.hid (IsRow.of_own hI3 (by simp))
  have B3 := Lib.hid (Blk.new (w := w3) (cs := #[.slice a3 m3 c3, .bool F2.2.1, i6 F2.2.2]) (t := 24) rfl)
  have hq3 : Below w.heap.size w w3 := q_step (q_alloc hq2 _) hb3
  clear hq2
  clear hI3 hb3
  replace B1 := Lib.hid (B1.out.alloc (.cells #[.slice a3 m3 c3, .bool F2.2.1, i6 F2.2.2] 24))
  replace B2 := Lib.hid (B2.out.alloc (.cells #[.slice a3 m3 c3, .bool F2.2.1, i6 F2.2.2] 24))
  replace R1 := Lib.hid (R1.out.below (q_alloc (Below.refl _ _) (.cells #[.slice a3 m3 c3, .bool F2.2.1, i6 F2.2.2] 24)))
  replace R2 := Lib.hid (R2.out.below (q_alloc (Below.refl _ _) (.cells #[.slice a3 m3 c3, .bool F2.2.1, i6 F2.2.2] 24)))
  replace R3 := Lib.hid (R3.out.below (q_alloc (Below.refl _ _) (.cells #[.slice a3 m3 c3, .bool F2.2.1, i6 F2.2.2] 24)))
  go_upto_region 4 with fail
  refine code_world (fun W => Below w.heap.size w W ∧ Blk W w1.heap.size [.slice a1 m1 c1, .bool F1.2.1, i6 F1.2.2] ∧ Blk W w2.heap.size [.slice a2 m2 c2, .bool F3.2.1, i6 F3.2.2] ∧ Blk W w3.heap.size [.slice a3 m3 c3, .bool F2.2.1, i6 F2.2.2] ∧ IsRow W (.slice a1 m1 c1) (F1.1.map i6) ∧ IsRow W (.slice a2 m2 c2) (F3.1.map i6) ∧ IsRow W (.slice a3 m3 c3) (F2.1.map i6)) ⟨q_alloc hq3 _, B1.out, B2.out, B3.out, R1.out, R2.out, R3.out⟩ ?_
  intro W4 ⟨hq4, b1, b2, b3, rr1, rr2, rr3⟩
  clear B1 B2 B3 R1 R2 R3 hq3
  generalize w1.heap.size = g1 at b1 ⊢
  generalize w2.heap.size = g2 at b2 ⊢
  generalize w3.heap.size = g3 at b3 ⊢
  have x10 := stick (b1.cell 0 rfl)
  have x11 := stick (b1.cell 1 rfl)
  have x12 := stick (b1.cell 2 rfl)
  have x20 := stick (b2.cell 0 rfl)
  have x21 := stick (b2.cell 1 rfl)
  have x22 := stick (b2.cell 2 rfl)
  have x30 := stick (b3.cell 0 rfl)
  have x31 := stick (b3.cell 1 rfl)
  have x32 := stick (b3.cell 2 rfl)
  have R1 := Lib.hid rr1
  have R2 := Lib.hid rr2
  have R3 := Lib.hid rr3
  have HQ4 := Lib.hid hq4
  clear b1 b2 b3 rr1 rr2 rr3 hq4
  have J : Below W4.heap.size W4 W4 := Below.refl _ _
  obtain ⟨hd1, hz1⟩ := HR1.out
  have hr3 := HR3.out
  have hr2 := HR2.out
  clear HR1 HR2 HR3
  have s2 : ok2 = true ∨ (ok2 = false ∧ m3 = 0) := by
    cases ok2
    · right; have h := R3.out; rw [hr2 rfl] at h; exact ⟨rfl, row_none h⟩
    · left; rfl
  clear hr2
  have s3 : (ok3 = false ∧ m2 = 0) ∨ (ok3 = true ∧ F3.2.1 = false ∧ 0 < m2 ∧ ∃ b off, a2 = some ⟨b, off, none⟩ ∧ W4.cell? ⟨b, off, none⟩ = some (i6 4)) := by
    rcases hr3 with ⟨h1, h2⟩ | ⟨h1, ⟨t, h2⟩, h3⟩
    · left; have h := R2.out; rw [h2] at h; exact ⟨h1, row_none h⟩
    · right; have h := R2.out; rw [h2] at h; obtain ⟨k1, b, off, k2, _, k3⟩ := row_head h; exact ⟨h1, h3, k1, b, off, k2, k3⟩
  clear hr3
  have s1 : m1 = 0 ∨ (ok1 = true ∧ 0 < m1 ∧ ∃ a b off, a1 = some ⟨b, off, none⟩ ∧ W4.cell? ⟨b, off, none⟩ = some (i6 a) ∧ (a = 4 ∨ (a == 4) = false ∧ (n = 11 ∨ n = 47))) := by
    rcases hd1 with h2 | ⟨t, h2⟩ | ⟨hn, a, t, h2, h3⟩
    · left; have h := R1.out; rw [h2] at h; exact row_none h
    · right; have h := R1.out; rw [h2] at h; obtain ⟨k1, b, off, k2, _, k3⟩ := row_head h
      refine ⟨?_, k1, 4, b, off, k2, k3, Or.inl rfl⟩
      cases ok1
      · have := hz1 rfl; rw [h2] at this; simp at this
      · rfl
    · right; have h := R1.out; rw [h2] at h; obtain ⟨k1, b, off, k2, _, k3⟩ := row_head h
      refine ⟨?_, k1, a, b, off, k2, k3, Or.inr ⟨h3, hn⟩⟩
      cases ok1
      · have := hz1 rfl; rw [h2] at this; simp at this
      · rfl
  clear hd1 hz1
  have key : ∀ (hok2 : ok2 = true ∨ m3 = 0), True := fun _ => trivial
  clear key
  have h3 : ok3 = false ∧ m2 = 0 := s3.resolve_right (fun h => by have := HO3.out.1 h.1; omega)
  obtain ⟨rfl, rfl⟩ := h3
  clear s3
  have hok1 : ok1 = true ∨ (ok1 = false ∧ m1 = 0 ∧ ok2 = false) := by
    cases ok1
    · right
      refine ⟨rfl, ?_, ?_⟩
      · rcases s1 with h | ⟨h, _⟩
        · exact h
        · cases h
      · cases ok2
        · rfl
        · have := HO1.out.2 (HP2.out rfl); cases this
    · left; rfl
  rcases hok1 with rfl | ⟨rfl, rfl, rfl⟩
  · rcases s1 with rfl | ⟨_, hm1, a, b, off, rfl, y1, ha⟩
    · rcases s2 with rfl | ⟨rfl, rfl⟩
      all_goals
        go_wp2_with fail
        refine (awake03 _ (HT.out.below (q_step HQ4.out J))).mono ?_
        rintro e w8 ⟨rfl, hb8⟩
        have J8 : Below W4.heap.size W4 w8 := q_step J hb8
        replace J := J8
        clear J8 hb8
        go_wp2_with fail
        refine (check_any F1 _ _ (R1.out.below J) HC1.out (HSP.out.below (q_step HQ4.out J))).mono ?_
        rintro e w9 ⟨rfl, hb8⟩
        have J8 : Below W4.heap.size W4 w9 := q_step J hb8
        replace J := J8
        clear J8 hb8
        go_wp2_with fail
        refine (check_b F3 _ rfl _ _ (R2.out.below J) HC3.out (HSP.out.below (q_step HQ4.out J))).mono ?_
        rintro e w10 ⟨rfl, hb8⟩
        have J8 : Below W4.heap.size W4 w10 := q_step J hb8
        replace J := J8
        clear J8 hb8
        go_wp2_with fail
        refine (check_any F2 _ _ (R3.out.below J) HC2.out (HSP.out.below (q_step HQ4.out J))).mono ?_
        rintro e w11 ⟨rfl, hb8⟩
        have J8 : Below W4.heap.size W4 w11 := q_step J hb8
        replace J := J8
        clear J8 hb8
        go_wp2_with fail
        go_returns
        exact ⟨by first | rfl | (simp; done), q_step HQ4.out J⟩
    · have e1a : ((m1 : Int) == 0) = false := by simp; omega
      have e1b : (0 : Int) < (m1 : Int) := by omega
      have z1 := stick y1
      clear y1
      rcases ha with rfl | ⟨ha4, hn2⟩
      · rcases s2 with rfl | ⟨rfl, rfl⟩
        all_goals
          go_wp2_with fail
          refine (awake03 _ (HT.out.below (q_step HQ4.out J))).mono ?_
          rintro e w8 ⟨rfl, hb8⟩
          have J8 : Below W4.heap.size W4 w8 := q_step J hb8
          replace J := J8
          clear J8 hb8
          go_wp2_with fail
          refine (check_any F1 _ _ (R1.out.below J) HC1.out (HSP.out.below (q_step HQ4.out J))).mono ?_
          rintro e w9 ⟨rfl, hb8⟩
          have J8 : Below W4.heap.size W4 w9 := q_step J hb8
          replace J := J8
          clear J8 hb8
          go_wp2_with fail
          refine (check_b F3 _ rfl _ _ (R2.out.below J) HC3.out (HSP.out.below (q_step HQ4.out J))).mono ?_
          rintro e w10 ⟨rfl, hb8⟩
          have J8 : Below W4.heap.size W4 w10 := q_step J hb8
          replace J := J8
          clear J8 hb8
          go_wp2_with fail
          refine (check_any F2 _ _ (R3.out.below J) HC2.out (HSP.out.below (q_step HQ4.out J))).mono ?_
          rintro e w11 ⟨rfl, hb8⟩
          have J8 : Below W4.heap.size W4 w11 := q_step J hb8
          replace J := J8
          clear J8 hb8
          go_wp2_with fail
          go_returns
          exact ⟨by first | rfl | (simp; done), q_step HQ4.out J⟩
      · have hn3 : n = 47 := by omega
        subst hn3
        clear hn2
        rcases s2 with rfl | ⟨rfl, rfl⟩
        all_goals
          go_wp2_with fail
          refine (awake03 _ (HT.out.below (q_step HQ4.out J))).mono ?_
          rintro e w8 ⟨rfl, hb8⟩
          have J8 : Below W4.heap.size W4 w8 := q_step J hb8
          replace J := J8
          clear J8 hb8
          go_wp2_with fail
          refine (check_any F1 _ _ (R1.out.below J) HC1.out (HSP.out.below (q_step HQ4.out J))).mono ?_
          rintro e w9 ⟨rfl, hb8⟩
          have J8 : Below W4.heap.size W4 w9 := q_step J hb8
          replace J := J8
          clear J8 hb8
          go_wp2_with fail
          refine (check_b F3 _ rfl _ _ (R2.out.below J) HC3.out (HSP.out.below (q_step HQ4.out J))).mono ?_
          rintro e w10 ⟨rfl, hb8⟩
          have J8 : Below W4.heap.size W4 w10 := q_step J hb8
          replace J := J8
          clear J8 hb8
          go_wp2_with fail
          refine (check_any F2 _ _ (R3.out.below J) HC2.out (HSP.out.below (q_step HQ4.out J))).mono ?_
          rintro e w11 ⟨rfl, hb8⟩
          have J8 : Below W4.heap.size W4 w11 := q_step J hb8
          replace J := J8
          clear J8 hb8
          go_wp2_with fail
          go_returns
          exact ⟨by first | rfl | (simp; done), q_step HQ4.out J⟩
  · have h2 : m3 = 0 := by
      rcases s2 with h | ⟨_, h⟩
      · cases h
      · exact h
    subst h2
    clear s1 s2
    go_wp2_with fail
    refine (awake03 _ (HT.out.below (q_step HQ4.out J))).mono ?_
    rintro e w8 ⟨rfl, hb8⟩
    have J8 : Below W4.heap.size W4 w8 := q_step J hb8
    replace J := J8
    clear J8 hb8
    go_wp2_with fail
    refine (check_any F1 _ _ (R1.out.below J) HC1.out (HSP.out.below (q_step HQ4.out J))).mono ?_
    rintro e w9 ⟨rfl, hb8⟩
    have J8 : Below W4.heap.size W4 w9 := q_step J hb8
    replace J := J8
    clear J8 hb8
    go_wp2_with fail
    refine (check_b F3 _ rfl _ _ (R2.out.below J) HC3.out (HSP.out.below (q_step HQ4.out J))).mono ?_
    rintro e w10 ⟨rfl, hb8⟩
    have J8 : Below W4.heap.size W4 w10 := q_step J hb8
    replace J := J8
    clear J8 hb8
    go_wp2_with fail
    refine (check_any F2 _ _ (R3.out.below J) HC2.out (HSP.out.below (q_step HQ4.out J))).mono ?_
    rintro e w11 ⟨rfl, hb8⟩
    have J8 : Below W4.heap.size W4 w11 := q_step J hb8
    replace J := J8
    clear J8 hb8
    go_wp2_with fail
    go_returns
    exact ⟨by first | rfl | (simp; done), q_step HQ4.out J⟩
set_option maxRecDepth 100000 in
set_option maxHeartbeats 16000000 in
theorem lfirst_hi (n : Int) (w : World) (hn : 1 ≤ n ∧ n ≤ 25) (ht : RowAt 0 spaceC w) (hs : RowAt 2 spanCells w) : Calls Tryd.prog 8 #[i6 n] w fun e w' => e = .returned (.bool true) ∧ Below w.heap.size w w' := by
  obtain ⟨F1, ok1, o1, p1, q1, hA, _⟩ := req_both n
  obtain ⟨F2, ok2, p2, q2, _, hB, _⟩ := rep_both n
  obtain ⟨F3, ok3, o3, p3, q3, hC, _⟩ := eve_both n
  have c1 : chkB F1 = true := by
    cases ok1
    · rw [q1 rfl]; exact chk_zero
    · have hn := o1.1 rfl
      rw [p1 rfl]; exact (chk_fact (reqT_mem n hn.1 hn.2)).1
  have c2 : chkB F2 = true := by
    cases ok2
    · rw [q2 rfl]; exact chk_zero
    · obtain ⟨k1, k2, k3, k4⟩ := p2 rfl
      rw [k4]; exact (chk_fact (reqT_mem n k1 k2)).2.resolve_left k3
  have c3 : chkB F3 = true := by
    cases ok3
    · rw [q3 rfl]; exact chk_zero
    · have hn := o3.1 rfl
      rw [p3 rfl]; exact (chk_fact (eveT_mem n hn.1 hn.2)).1
  have r1 : ReqHead n F1.1 ∧ (ok1 = false → F1.1 = []) := by
    refine ⟨?_, fun h => by rw [q1 h]⟩
    cases ok1
    · rw [q1 rfl]; exact Or.inl rfl
    · obtain ⟨k, hk, rfl⟩ : ∃ k : Nat, k < 58 ∧ n = (k : Int) + 1 := by have hn := o1.1 rfl; exact ⟨(n - 1).toNat, by omega, by omega⟩
      have h1 := (List.all_eq_true.1 first_req) k (by simpa using hk)
      rw [← p1 rfl] at h1
      simp only [Bool.or_eq_true, beq_iff_eq, List.isEmpty_iff] at h1
      cases hF : F1.1 with
      | nil => exact Or.inl rfl
      | cons a t =>
        by_cases ha : a = 4
        · subst ha; exact Or.inr (Or.inl ⟨t, rfl⟩)
        · refine Or.inr (Or.inr ⟨?_, a, t, rfl, by simpa using ha⟩)
          rcases h1 with ((h1 | h1) | h1) | h1
          · rw [hF] at h1; simp at h1
          · obtain ⟨t', h2⟩ := head_of h1; rw [hF] at h2; injection h2 with h3; exact absurd h3 ha
          · left; omega
          · right; omega
  have r2 : ok2 = false → F2.1 = [] := fun h => by rw [q2 h]
  have r3 : (ok3 = false ∧ F3.1 = []) ∨ (ok3 = true ∧ (∃ t, F3.1 = 4 :: t) ∧ F3.2.1 = false) := by
    cases ok3
    · exact Or.inl ⟨rfl, by rw [q3 rfl]⟩
    · obtain ⟨k, hk, rfl⟩ : ∃ k : Nat, k < 25 ∧ n = (k : Int) + 1 := by have hn := o3.1 rfl; exact ⟨(n - 1).toNat, by omega, by omega⟩
      have h1 := (List.all_eq_true.1 first_eve) k (by simpa using hk)
      rw [← p3 rfl] at h1
      simp only [Bool.and_eq_true, Bool.not_eq_true'] at h1
      exact Or.inr ⟨rfl, head_of h1.1, h1.2⟩
  have HA := Lib.hid hA
  have HB := Lib.hid hB
  have HC := Lib.hid hC
  have HT := Lib.hid ht
  have HSP := Lib.hid hs
  have HC1 := Lib.hid c1
  have HC2 := Lib.hid c2
  have HC3 := Lib.hid c3
  have HO1 := Lib.hid o1
  have HO3 := Lib.hid o3
  have HP2 : Hid (ok2 = true → 1 ≤ n ∧ n ≤ 58) := Lib.hid (fun h => ⟨(p2 h).1, (p2 h).2.1⟩)
  clear o1 p1 q1 hA p2 q2 hB o3 p3 q3 hC ht hs c1 c2 c3
  have HR1 := Lib.hid r1
  have HR2 := Lib.hid r2
  have HR3 := Lib.hid r3
  clear r1 r2 r3
  go_enter Tryd.func8, Tryd.ntmps8
  go_wp2_with fail
  refine (HA.out _ (HT.out.below (by (repeat' (first | with_reducible exact Below.refl _ _ | with_reducible assumption | with_reducible refine q_alloc ?_ _ | with_reducible refine q_drew ?_ | with_reducible refine q_drewN _ ?_ | with_reducible refine q_setCell ?_ ?_ _ | (left; simp; done) | (right; simp; done) | (right; dsimp only; omega) | (left; dsimp only; omega)))))).mono ?_
  rintro e w1 ⟨v1, rfl, hI1, hb1⟩
  obtain ⟨a1, m1, c1, rfl⟩ := own_slice hI1
  have R1 := Lib.hid (IsRow.of_own hI1 (by simp))
  have B1 := Lib.hid (Blk.new (w := w1) (cs := #[.slice a1 m1 c1, .bool F1.2.1, i6 F1.2.2]) (t := 24) rfl)
  have hq1 : Below w.heap.size w w1 := hb1
  clear hI1 hb1
  go_wp2_with fail
  refine (HC.out _ (HT.out.below (by (repeat' (first | with_reducible exact Below.refl _ _ | with_reducible assumption | with_reducible refine q_alloc ?_ _ | with_reducible refine q_drew ?_ | with_reducible refine q_drewN _ ?_ | with_reducible refine q_setCell ?_ ?_ _ | (left; simp; done) | (right; simp; done) | (right; dsimp only; omega) | (left; dsimp only; omega)))))).mono ?_
  rintro e w2 ⟨v2, rfl, hI2, hb2⟩
  obtain ⟨a2, m2, c2, rfl⟩ := own_slice hI2
  replace B1 := Lib.hid (B1.out.below (q_step (Below.refl _ _) hb2))
  replace R1 := Lib.hid (R1.out.below (q_step (q_alloc (Below.refl _ _) _) hb2))
  have R2 := Lib.hid (IsRow.of_own hI2 (by simp))
  have B2 := Lib.hid (Blk.new (w := w2) (cs := #[.slice a2 m2 c2, .bool F3.2.1, i6 F3.2.2]) (t := 24) rfl)
  have hq2 : Below w.heap.size w w2 := q_step (q_alloc hq1 _) hb2
  clear hq1
  clear hI2 hb2
  go_wp2_with fail
  refine (HB.out _ (HT.out.below (by (repeat' (first | with_reducible exact Below.refl _ _ | with_reducible assumption | with_reducible refine q_alloc ?_ _ | with_reducible refine q_drew ?_ | with_reducible refine q_drewN _ ?_ | with_reducible refine q_setCell ?_ ?_ _ | (left; simp; done) | (right; simp; done) | (right; dsimp only; omega) | (left; dsimp only; omega)))))).mono ?_
  rintro e w3 ⟨v3, rfl, hI3, hb3⟩
  obtain ⟨a3, m3, c3, rfl⟩ := own_slice hI3
  replace B1 := Lib.hid (B1.out.below (q_step (q_alloc (Below.refl _ _) _) hb3))
  replace R1 := Lib.hid (R1.out.below (q_step (q_alloc (Below.refl _ _) _) hb3))
  replace B2 := Lib.hid (B2.out.below (q_step (Below.refl _ _) hb3))
  replace R2 := Lib.hid (R2.out.below (q_step (q_alloc (Below.refl _ _) _) hb3))
  have R3 := Lib.hid (IsRow.of_own hI3 (by simp))
  have B3 := Lib.hid (Blk.new (w := w3) (cs := #[.slice a3 m3 c3, .bool F2.2.1, i6 F2.2.2]) (t := 24) rfl)
  have hq3 : Below w.heap.size w w3 := q_step (q_alloc hq2 _) hb3
  clear hq2
  clear hI3 hb3
  replace B1 := Lib.hid (B1.out.alloc (.cells #[.slice a3 m3 c3, .bool F2.2.1, i6 F2.2.2] 24))
  replace B2 := Lib.hid (B2.out.alloc (.cells #[.slice a3 m3 c3, .bool F2.2.1, i6 F2.2.2] 24))
  replace R1 := Lib.hid (R1.out.below (q_alloc (Below.refl _ _) (.cells #[.slice a3 m3 c3, .bool F2.2.1, i6 F2.2.2] 24)))
  replace R2 := Lib.hid (R2.out.below (q_alloc (Below.refl _ _) (.cells #[.slice a3 m3 c3, .bool F2.2.1, i6 F2.2.2] 24)))
  replace R3 := Lib.hid (R3.out.below (q_alloc (Below.refl _ _) (.cells #[.slice a3 m3 c3, .bool F2.2.1, i6 F2.2.2] 24)))
  go_upto_region 4 with fail
  refine code_world (fun W => Below w.heap.size w W ∧ Blk W w1.heap.size [.slice a1 m1 c1, .bool F1.2.1, i6 F1.2.2] ∧ Blk W w2.heap.size [.slice a2 m2 c2, .bool F3.2.1, i6 F3.2.2] ∧ Blk W w3.heap.size [.slice a3 m3 c3, .bool F2.2.1, i6 F2.2.2] ∧ IsRow W (.slice a1 m1 c1) (F1.1.map i6) ∧ IsRow W (.slice a2 m2 c2) (F3.1.map i6) ∧ IsRow W (.slice a3 m3 c3) (F2.1.map i6)) ⟨q_alloc hq3 _, B1.out, B2.out, B3.out, R1.out, R2.out, R3.out⟩ ?_
  intro W4 ⟨hq4, b1, b2, b3, rr1, rr2, rr3⟩
  clear B1 B2 B3 R1 R2 R3 hq3
  generalize w1.heap.size = g1 at b1 ⊢
  generalize w2.heap.size = g2 at b2 ⊢
  generalize w3.heap.size = g3 at b3 ⊢
  have x10 := stick (b1.cell 0 rfl)
  have x11 := stick (b1.cell 1 rfl)
  have x12 := stick (b1.cell 2 rfl)
  have x20 := stick (b2.cell 0 rfl)
  have x21 := stick (b2.cell 1 rfl)
  have x22 := stick (b2.cell 2 rfl)
  have x30 := stick (b3.cell 0 rfl)
  have x31 := stick (b3.cell 1 rfl)
  have x32 := stick (b3.cell 2 rfl)
  have R1 := Lib.hid rr1
  have R2 := Lib.hid rr2
  have R3 := Lib.hid rr3
  have HQ4 := Lib.hid hq4
  clear b1 b2 b3 rr1 rr2 rr3 hq4
  have J : Below W4.heap.size W4 W4 := Below.refl _ _
  obtain ⟨hd1, hz1⟩ := HR1.out
  have hr3 := HR3.out
  have hr2 := HR2.out
  clear HR1 HR2 HR3
  have s2 : ok2 = true ∨ (ok2 = false ∧ m3 = 0) := by
    cases ok2
    · right; have h := R3.out; rw [hr2 rfl] at h; exact ⟨rfl, row_none h⟩
    · left; rfl
  clear hr2
  have s3 : (ok3 = false ∧ m2 = 0) ∨ (ok3 = true ∧ F3.2.1 = false ∧ 0 < m2 ∧ ∃ b off, a2 = some ⟨b, off, none⟩ ∧ W4.cell? ⟨b, off, none⟩ = some (i6 4)) := by
    rcases hr3 with ⟨h1, h2⟩ | ⟨h1, ⟨t, h2⟩, h3⟩
    · left; have h := R2.out; rw [h2] at h; exact ⟨h1, row_none h⟩
    · right; have h := R2.out; rw [h2] at h; obtain ⟨k1, b, off, k2, _, k3⟩ := row_head h; exact ⟨h1, h3, k1, b, off, k2, k3⟩
  clear hr3
  have s1 : m1 = 0 ∨ (ok1 = true ∧ 0 < m1 ∧ ∃ a b off, a1 = some ⟨b, off, none⟩ ∧ W4.cell? ⟨b, off, none⟩ = some (i6 a) ∧ (a = 4 ∨ (a == 4) = false ∧ (n = 11 ∨ n = 47))) := by
    rcases hd1 with h2 | ⟨t, h2⟩ | ⟨hn, a, t, h2, h3⟩
    · left; have h := R1.out; rw [h2] at h; exact row_none h
    · right; have h := R1.out; rw [h2] at h; obtain ⟨k1, b, off, k2, _, k3⟩ := row_head h
      refine ⟨?_, k1, 4, b, off, k2, k3, Or.inl rfl⟩
      cases ok1
      · have := hz1 rfl; rw [h2] at this; simp at this
      · rfl
    · right; have h := R1.out; rw [h2] at h; obtain ⟨k1, b, off, k2, _, k3⟩ := row_head h
      refine ⟨?_, k1, a, b, off, k2, k3, Or.inr ⟨h3, hn⟩⟩
      cases ok1
      · have := hz1 rfl; rw [h2] at this; simp at this
      · rfl
  clear hd1 hz1
  have key : ∀ (hok2 : ok2 = true ∨ m3 = 0), True := fun _ => trivial
  clear key
  have h3 := s3.resolve_left (fun h => by have := HO3.out.2 (by omega); rw [h.1] at this; cases this)
  obtain ⟨rfl, hB3, hm2, b2, off2, rfl, y2⟩ := h3
  clear s3
  rw [hB3] at x21
  have HB3 := Lib.hid hB3
  clear hB3
  have e2a : ((m2 : Int) == 0) = false := by simp; omega
  have e2b : (0 : Int) < (m2 : Int) := by omega
  have z2 := stick y2
  clear y2
  have hok1 : ok1 = true ∨ (ok1 = false ∧ m1 = 0 ∧ ok2 = false) := by
    cases ok1
    · right
      refine ⟨rfl, ?_, ?_⟩
      · rcases s1 with h | ⟨h, _⟩
        · exact h
        · cases h
      · cases ok2
        · rfl
        · have := HO1.out.2 (HP2.out rfl); cases this
    · left; rfl
  rcases hok1 with rfl | ⟨rfl, rfl, rfl⟩
  · rcases s1 with rfl | ⟨_, hm1, a, b, off, rfl, y1, ha⟩
    · rcases s2 with rfl | ⟨rfl, rfl⟩
      all_goals
        go_wp2_with fail
        refine (awake03 _ (HT.out.below (q_step HQ4.out J))).mono ?_
        rintro e w8 ⟨rfl, hb8⟩
        have J8 : Below W4.heap.size W4 w8 := q_step J hb8
        replace J := J8
        clear J8 hb8
        go_wp2_with fail
        refine (check_any F1 _ _ (R1.out.below J) HC1.out (HSP.out.below (q_step HQ4.out J))).mono ?_
        rintro e w9 ⟨rfl, hb8⟩
        have J8 : Below W4.heap.size W4 w9 := q_step J hb8
        replace J := J8
        clear J8 hb8
        go_wp2_with fail
        refine (check_b F3 _ HB3.out _ _ (R2.out.below J) HC3.out (HSP.out.below (q_step HQ4.out J))).mono ?_
        rintro e w10 ⟨rfl, hb8⟩
        have J8 : Below W4.heap.size W4 w10 := q_step J hb8
        replace J := J8
        clear J8 hb8
        go_wp2_with fail
        refine (check_any F2 _ _ (R3.out.below J) HC2.out (HSP.out.below (q_step HQ4.out J))).mono ?_
        rintro e w11 ⟨rfl, hb8⟩
        have J8 : Below W4.heap.size W4 w11 := q_step J hb8
        replace J := J8
        clear J8 hb8
        go_wp2_with fail
        go_returns
        exact ⟨by first | rfl | (simp; done), q_step HQ4.out J⟩
    · have e1a : ((m1 : Int) == 0) = false := by simp; omega
      have e1b : (0 : Int) < (m1 : Int) := by omega
      have z1 := stick y1
      clear y1
      rcases ha with rfl | ⟨ha4, hn2⟩
      · rcases s2 with rfl | ⟨rfl, rfl⟩
        all_goals
          go_wp2_with fail
          refine (awake03 _ (HT.out.below (q_step HQ4.out J))).mono ?_
          rintro e w8 ⟨rfl, hb8⟩
          have J8 : Below W4.heap.size W4 w8 := q_step J hb8
          replace J := J8
          clear J8 hb8
          go_wp2_with fail
          refine (check_any F1 _ _ (R1.out.below J) HC1.out (HSP.out.below (q_step HQ4.out J))).mono ?_
          rintro e w9 ⟨rfl, hb8⟩
          have J8 : Below W4.heap.size W4 w9 := q_step J hb8
          replace J := J8
          clear J8 hb8
          go_wp2_with fail
          refine (check_b F3 _ HB3.out _ _ (R2.out.below J) HC3.out (HSP.out.below (q_step HQ4.out J))).mono ?_
          rintro e w10 ⟨rfl, hb8⟩
          have J8 : Below W4.heap.size W4 w10 := q_step J hb8
          replace J := J8
          clear J8 hb8
          go_wp2_with fail
          refine (check_any F2 _ _ (R3.out.below J) HC2.out (HSP.out.below (q_step HQ4.out J))).mono ?_
          rintro e w11 ⟨rfl, hb8⟩
          have J8 : Below W4.heap.size W4 w11 := q_step J hb8
          replace J := J8
          clear J8 hb8
          go_wp2_with fail
          go_returns
          exact ⟨by first | rfl | (simp; done), q_step HQ4.out J⟩
      · have hn3 : n = 11 := by omega
        subst hn3
        clear hn2
        rcases s2 with rfl | ⟨rfl, rfl⟩
        all_goals
          go_wp2_with fail
          refine (awake03 _ (HT.out.below (q_step HQ4.out J))).mono ?_
          rintro e w8 ⟨rfl, hb8⟩
          have J8 : Below W4.heap.size W4 w8 := q_step J hb8
          replace J := J8
          clear J8 hb8
          go_wp2_with fail
          refine (check_any F1 _ _ (R1.out.below J) HC1.out (HSP.out.below (q_step HQ4.out J))).mono ?_
          rintro e w9 ⟨rfl, hb8⟩
          have J8 : Below W4.heap.size W4 w9 := q_step J hb8
          replace J := J8
          clear J8 hb8
          go_wp2_with fail
          refine (check_b F3 _ HB3.out _ _ (R2.out.below J) HC3.out (HSP.out.below (q_step HQ4.out J))).mono ?_
          rintro e w10 ⟨rfl, hb8⟩
          have J8 : Below W4.heap.size W4 w10 := q_step J hb8
          replace J := J8
          clear J8 hb8
          go_wp2_with fail
          refine (check_any F2 _ _ (R3.out.below J) HC2.out (HSP.out.below (q_step HQ4.out J))).mono ?_
          rintro e w11 ⟨rfl, hb8⟩
          have J8 : Below W4.heap.size W4 w11 := q_step J hb8
          replace J := J8
          clear J8 hb8
          go_wp2_with fail
          go_returns
          exact ⟨by first | rfl | (simp; done), q_step HQ4.out J⟩
  · have h2 : m3 = 0 := by
      rcases s2 with h | ⟨_, h⟩
      · cases h
      · exact h
    subst h2
    clear s1 s2
    exfalso
    have := HO1.out.2 (by omega)
    cases this
theorem lfirst_any (n : Int) (w : World) (ht : RowAt 0 spaceC w) (hs : RowAt 2 spanCells w) : Calls Tryd.prog 8 #[i6 n] w fun e w' => e = .returned (.bool true) ∧ Below w.heap.size w w' := by
  by_cases hn : 1 ≤ n ∧ n ≤ 25
  · exact lfirst_hi n w hn ht hs
  · exact lfirst_lo n w hn ht hs
end Go.Proofs.YtbffnobchjiaeaaDoor
