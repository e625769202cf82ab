/- Layer 9: a name asked for again. -/
import Derived.Test.YtdkdpjlkjamemaaDoorAtom12
namespace Go.Proofs.YtdkdpjlkjamemaaDoor
open Go Go.RowKit Go.Maps
set_option linter.unusedSimpArgs false
set_option linter.unusedVariables false
theorem numT_app (more : List B) (x s : B) (h : numT more s ≠ 0) : numT (more ++ [x]) s = numT more s := by
  unfold numT at h ⊢
  rw [← List.append_assoc, findL_app, if_pos h]
theorem internL_stays (more : List B) (x s : B) (o : Bool) (h : numT more s ≠ 0) : numT (internL more x o).1 s = numT more s := by
  unfold internL
  repeat' split
  all_goals first | rfl | exact numT_app more x s h
theorem internL_only (more : List B) (x : B) : (internL more x true).1 = more := by
  unfold internL
  repeat' split
  all_goals first | rfl | (exfalso; simp_all)
theorem internL_again (more : List B) (s : B) (o : Bool) (hn : nameB s = true) (h : numT more s ≠ 0) : internL more s o = (more, (numT more s : Int), 0) := by
  unfold internL
  rw [if_neg (by simp [hn]), if_pos h]
theorem numT_self (s : B) : ∀ more : List B, s ∈ more → numT more s ≠ 0 := by
  intro more h h0
  exact (findL_zero _ _).1 h0 (List.mem_append_right _ h)
/-- The first time: the name is taken, and has its number; or nothing was made. -/
theorem internL_first (s : B) : (∃ (L : List B) (A : Nat), internL [] s false = (L, (A : Int), (0 : Int)) ∧ A ≠ 0 ∧ A < 4294967296 ∧ numT L s = A ∧ L.length ≤ 1 ∧ nameB s = true) ∨ (∃ E : Int, internL [] s false = ([], (0 : Int), E) ∧ E ≠ 0 ∧ (0 : Int) ≤ E ∧ E < 100) := by
  unfold internL
  by_cases hn : nameB s = false
  · rw [if_pos hn]; exact Or.inr ⟨11, rfl, by decide, by decide, by decide⟩
  · rw [if_neg hn]
    have hn' : nameB s = true := by simpa using hn
    by_cases hz : numT [] s ≠ 0
    · rw [if_pos hz]
      have h10 : numT [] s ≤ 10 := findL_le (knownL ++ []) s
      exact Or.inl ⟨[], numT [] s, rfl, hz, by omega, rfl, by simp, hn'⟩
    · rw [if_neg hz, if_neg (by decide), if_neg (by decide)]
      refine Or.inl ⟨[s], 11, rfl, by decide, by decide, ?_, by simp, hn'⟩
      have hz' : findL knownL s = 0 := by simpa [numT] using hz
      unfold numT
      rw [findL_app, if_neg (by simp [hz'])]
      simp [findL, knownL]
/-- No block of the value is c. -/
def VNe (c : Nat) (v : Value) : Prop := ∀ b off n cap, v = .slice (some ⟨b, off, none⟩) n cap → b ≠ c
def MNe (c : Nat) (v : Value) : Prop := ∀ b, v = .map (some b) → b ≠ c
/-- The table, none of whose blocks is c. -/
def TabNe (c : Nat) (w : World) (sv mv : Value) (more : List B) : Prop := TabOf w sv mv more ∧ VNe c sv ∧ MNe c mv
theorem TabNe.below {c : Nat} {w w' : World} {sv mv : Value} {more : List B} (h : TabNe c w sv mv more) (hb : Below w.heap.size w w') : TabNe c w' sv mv more := ⟨h.1.below hb, h.2⟩
theorem TabNe.set {c j : Nat} {w : World} {sv mv u : Value} {more : List B} (h : TabNe c w sv mv more) : TabNe c (w.setCell ⟨c, j, none⟩ u) sv mv more := by
  refine ⟨?_, h.2⟩
  rcases h.1 with h1 | ⟨h0, ⟨b, off, cap, e1, h2, h3, h4, h5⟩, mb, D, e2, h7, h8⟩
  · exact Or.inl h1
  · have hbl := h.2.1 _ _ _ _ e1
    have hml := h.2.2 _ e2
    refine Or.inr ⟨h0, ⟨b, off, cap, e1, h2, h3, by simpa [World.setCell] using h4, fun k s hk => ?_⟩, mb, D, e2, h7.setCell (a := ⟨c, j, none⟩) (by show mb ≠ c; exact hml) u, h8⟩
    exact set_far (h5 k s hk) (blk_ne (Ne.symm hbl))
theorem TabLo.ne {lo c : Nat} {w : World} {sv mv : Value} {more : List B} (h : TabLo lo w sv mv more) (hc : w.heap.size ≤ c) : TabNe c w sv mv more := by
  refine ⟨h.1, fun b off n cap e => ?_, fun b e => ?_⟩
  · rcases h.1 with ⟨_, h1, _⟩ | ⟨_, ⟨b', off', cap', e1, _, _, h4, _⟩, _⟩
    · rw [h1] at e; simp at e
    · rw [e1] at e; simp only [Value.slice.injEq, Option.some.injEq, Addr.mk.injEq] at e; omega
  · rcases h.1 with ⟨_, _, h1⟩ | ⟨_, _, mb, D, e2, h7, _⟩
    · rw [h1] at e; simp at e
    · rw [e2] at e; simp only [Value.map.injEq, Option.some.injEq] at e
      have := h7.lt
      omega
theorem internN_any (c : Nat) (sv mv : Value) (more : List B) (s : B) (only : Bool) (w : World) (hs : RowAt 0 knownCells w) (hsl : s.length ≤ 100000) (hml : more.length ≤ 100000) (hT : TabNe c w sv mv more) (hlo : c < w.heap.size) :
    Calls Tryd.prog 12 #[.agg #[sv, mv], strV s, .bool only] w fun e w' => ∃ a cap m, e = .returned (.tuple #[.agg #[.slice a (internL more s only).1.length cap, .map m], u3 (internL more s only).2.1, i6 (internL more s only).2.2]) ∧ TabNe c w' (.slice a (internL more s only).1.length cap) (.map m) (internL more s only).1 ∧ Below w.heap.size w w' := by
  refine (intern_any sv mv more s only w hs hsl hml hT.1).mono ?_
  rintro e w' ⟨sv', mv', rfl, hT', hb, hn⟩
  obtain ⟨a, cap, m, rfl, rfl⟩ := hT'.forms
  refine ⟨a, cap, m, rfl, ⟨hT', ?_⟩, hb⟩
  rcases hn with ⟨h1, h2⟩ | ⟨h1, h2⟩
  · rw [h1, h2]; exact hT.2
  · exact ⟨fun b off n cap e => by have := h1 b off n cap e; omega, fun b e => by have := h2 b e; omega⟩
def AgS (w : World) (c : Nat) (nm : B) (A : Nat) (more : List B) (wr : World) : Prop :=
  ∃ a cap m, numT more nm = A ∧ Below w.heap.size w wr ∧ Blk wr c [.slice a more.length cap, .map m] ∧ TabNe c wr (.slice a more.length cap) (.map m) more
set_option maxRecDepth 100000 in
set_option maxHeartbeats 1000000 in
theorem lentU_any (a : Option Addr) (n cap : Nat) (mv : Value) (w : World) (hn : n ≤ 100000) :
    Calls Tryd.prog 16 #[.agg #[.slice a n cap, mv]] w fun e w' => e = .returned (i6 (10 + (n : Int))) ∧ Below w.heap.size w w' :=
  (len_any a n cap mv w hn).mono fun _ _ h => ⟨by rw [h.1]; rfl, h.2⟩
set_option maxRecDepth 100000 in
set_option maxHeartbeats 4000000 in
theorem lagain_any (nm : B) (a0 : Option Addr) (cap : Nat) (ss : List B) (w : World) (hs : RowAt 0 knownCells w) (hl : IsStrs w (.slice a0 ss.length cap) ss) :
    Calls Tryd.prog 5 #[strV nm, .slice a0 ss.length cap] w fun e w' => e = .returned (.bool true) ∧ Below w.heap.size w w' := by
  have HS := Lib.hid hs
  have HIS := Lib.hid hl
  clear hs hl
  go_enter Tryd.func5, Tryd.ntmps5
  go_wp2_with fail
  refine (awake09 _ HS.out).mono ?_
  rintro e w1 ⟨rfl, hq1⟩
  by_cases h300 : 300 < nm.length
  · have h1 : (300 : Int) < nm.length := by omega
    go_wp2_with fail
    go_returns
    exact ⟨rfl, hq1⟩
  have h1 : ¬ (300 : Int) < nm.length := by omega
  go_wp2_with fail
  refine (short_any _ ss 40 _ (HIS.out.below hq1) (by decide)).mono ?_
  rintro e w2 ⟨r, rfl, hr, rfl⟩
  cases r with
  | false =>
    go_wp2_with fail
    go_returns
    exact ⟨rfl, hq1⟩
  | true =>
    obtain ⟨hl40, hs300⟩ := hr rfl
    have HS3 := Lib.hid hs300
    clear hs300 hr
    go_wp2_with fail
    refine (internT_any 0 _ _ [] nm false _ (HS.out.below hq1) (by omega) (by decide) (tab_zero _) (Nat.zero_le _)).mono ?_
    rintro e w3 ⟨a3, cap3, m3, rfl, hT3, hb⟩
    have hq3 := q_step hq1 hb
    clear hq1 hb
    rcases internL_first nm with ⟨L, A, he, hA0, hA1, hnL, hLl, hnn⟩ | ⟨E, he, hE0, hE1, hE2⟩
    · rw [he] at hT3 ⊢
      dsimp only at hT3 ⊢
      go_wp2_with fail
      have hcw := hq3.size
      refine code_world (fun W => AgS w w3.heap.size nm A L W) ⟨a3, cap3, m3, hnL, by (repeat' (first | with_reducible exact Below.refl _ _ | with_reducible assumption | with_reducible refine q_alloc ?_ _ | with_reducible refine q_drew ?_ | with_reducible refine q_drewN _ ?_ | with_reducible refine q_setCell ?_ ?_ _ | (left; simp; done) | (right; simp; done) | (right; dsimp only; omega) | (left; dsimp only; omega))), Blk.new rfl, (hT3.ne (Nat.le_refl _)).below (q_alloc (Below.refl _ _) _)⟩ ?_
      intro W2 hA2
      clear hq3 hT3 he
      generalize w3.heap.size = c at hcw hA2 ⊢
      go_loopw [8] (fun i wr => ∃ (k : Nat) (more : List B), k ≤ ss.length ∧ i = .int .i64 k ∧ more.length ≤ k + 1 ∧ AgS w c nm A more wr)
        (fun i _ => ss.length - (intOf i).toNat)
      case atStart => exact ⟨0, L, by omega, rfl, by omega, hA2⟩
      case round =>
        clear hA2
        obtain ⟨k, more, hk, rfl, hmk, a, cap2, m, hnm, hq, hblk, hT⟩ := hrel
        by_cases hlt : k < ss.length
        · have hlk : ss[k]? = some ss[k] := List.getElem?_eq_getElem hlt
          obtain ⟨b, off, rfl, hcap, hcm, hb, hL⟩ := isStrs_pos HIS.out (by omega)
          have d0 := hL.below hq k _ hlk
          clear hL
          have hs3 := HS3.out _ (List.getElem_mem hlt)
          clear hlk
          generalize ss[k] = s at d0 hs3
          have c0 := hblk.cell 0 rfl
          have c1 := hblk.cell 1 rfl
          have z0 := hblk.lt
          have z1 := block_lt_of_cell d0
          dsimp only at z1
          have f0 := hblk.froz 0 rfl
          have f1 := hblk.froz 1 rfl
          have hm10 : more.length ≤ 100000 := by omega
          go_wp2_with fail
          refine (lentN_any _ _ more _ _ hm10 hT.1 rfl).mono ?_
          rintro e w4 ⟨rfl, hb4⟩
          replace hq := q_step hq hb4
          replace hT := hT.below hb4
          replace hblk := hblk.below hb4
          replace d0 := cell_below hb4 d0
          clear hb4 c0 c1 z0 f0 f1 z1
          have c0 := hblk.cell 0 rfl
          have c1 := hblk.cell 1 rfl
          have z0 := hblk.lt
          have z1 := block_lt_of_cell d0
          dsimp only at z1
          go_upto_region 12 with fail
          go_cut [10, 11, 12] from 46 to 77 (fun p u e wx => ∃ d a5 cap5 m5, p = .pointer (some ⟨d, 0, none⟩) ∧ Below w4.heap.size w4 wx ∧ Blk wx d [.slice a5 more.length cap5, .map m5])
          case first =>
           go_region_with (first
            | (go_at_call 12; refine (internN_any c _ _ more s true _ ?_ (by omega) hm10 ?_ ?_).mono ?_; exact HS.out.below (q_step hq (by (repeat' (first | with_reducible exact Below.refl _ _ | with_reducible assumption | with_reducible refine q_alloc ?_ _ | with_reducible refine q_drew ?_ | with_reducible refine q_drewN _ ?_ | with_reducible refine q_setCell ?_ ?_ _ | (left; simp; done) | (right; simp; done) | (right; dsimp only; omega) | (left; dsimp only; omega))))); exact hT.below (by (repeat' (first | with_reducible exact Below.refl _ _ | with_reducible assumption | with_reducible refine q_alloc ?_ _ | with_reducible refine q_drew ?_ | with_reducible refine q_drewN _ ?_ | with_reducible refine q_setCell ?_ ?_ _ | (left; simp; done) | (right; simp; done) | (right; dsimp only; omega) | (left; dsimp only; omega)))); (first | exact z0 | (simp; omega)); rintro e w5 ⟨a5, cap5, m5, rfl, hT5, hb⟩; rw [internL_only]; have hb' : Below w4.heap.size w4 w5 := q_step (by (repeat' (first | with_reducible exact Below.refl _ _ | with_reducible assumption | with_reducible refine q_alloc ?_ _ | with_reducible refine q_drew ?_ | with_reducible refine q_drewN _ ?_ | with_reducible refine q_setCell ?_ ?_ _ | (left; simp; done) | (right; simp; done) | (right; dsimp only; omega) | (left; dsimp only; omega)))) hb; (try (have hd : Blk w5 w4.heap.size [.slice none 0 0, .map none] := Blk.below (Blk.below (Blk.new rfl) (Below.refl _ _).drew) hb; have dc0 := hd.cell 0 rfl; have dc1 := hd.cell 1 rfl; have df0 := hd.froz 0 rfl; have df1 := hd.froz 1 rfl; have dz := hd.lt)); clear hb hT5))
           all_goals (go_wp2_with fail; go_meet; (first | exact ⟨_, a5, cap5, m5, rfl, set2_q hb' (Nat.le_refl _), hd.set2⟩ | exact ⟨_, a5, cap5, m5, rfl, by (repeat' (first | with_reducible exact Below.refl _ _ | with_reducible assumption | with_reducible refine q_alloc ?_ _ | with_reducible refine q_drew ?_ | with_reducible refine q_drewN _ ?_ | with_reducible refine q_setCell ?_ ?_ _ | (left; simp; done) | (right; simp; done) | (right; dsimp only; omega) | (left; dsimp only; omega))), Blk.new rfl⟩))
          case rest =>
           obtain ⟨d, a5, cap5, m5, rfl, hb, hu⟩ := hcut
           replace hq := q_step hq hb
           replace hT := hT.below hb
           replace hblk := hblk.below hb
           replace d0 := cell_below hb d0
           clear hb c0 c1 z0 z1
           have u0 := hu.cell 0 rfl
           have u1 := hu.cell 1 rfl
           have uz := hu.lt
           go_wp2_with fail
           refine (lentU_any a5 more.length cap5 (.map m5) _ hm10).mono ?_
           rintro e w8 ⟨rfl, hb⟩
           replace hq := q_step hq hb
           replace hT := hT.below hb
           replace hblk := hblk.below hb
           replace d0 := cell_below hb d0
           clear hb u0 u1 uz hu
           have c0 := hblk.cell 0 rfl
           have c1 := hblk.cell 1 rfl
           have z0 := hblk.lt
           have z1 := block_lt_of_cell d0
           dsimp only at z1
           have f0 := hblk.froz 0 rfl
           have f1 := hblk.froz 1 rfl
           go_upto_region 15 with fail
           go_region_with (first
            | (go_at_call 12; refine (internN_any c _ _ more s false _ ?_ (by omega) hm10 ?_ ?_).mono ?_; exact HS.out.below (q_step hq (by (repeat' (first | with_reducible exact Below.refl _ _ | with_reducible assumption | with_reducible refine q_alloc ?_ _ | with_reducible refine q_drew ?_ | with_reducible refine q_drewN _ ?_ | with_reducible refine q_setCell ?_ ?_ _ | (left; simp; done) | (right; simp; done) | (right; dsimp only; omega) | (left; dsimp only; omega))))); exact hT.below (by (repeat' (first | with_reducible exact Below.refl _ _ | with_reducible assumption | with_reducible refine q_alloc ?_ _ | with_reducible refine q_drew ?_ | with_reducible refine q_drewN _ ?_ | with_reducible refine q_setCell ?_ ?_ _ | (left; simp; done) | (right; simp; done) | (right; dsimp only; omega) | (left; dsimp only; omega)))); (first | exact z0 | (simp; omega)); rintro e w5 ⟨a5, cap5, m5, rfl, hT5, hb⟩; have hb' : Below w8.heap.size w8 w5 := q_step (by (repeat' (first | with_reducible exact Below.refl _ _ | with_reducible assumption | with_reducible refine q_alloc ?_ _ | with_reducible refine q_drew ?_ | with_reducible refine q_drewN _ ?_ | with_reducible refine q_setCell ?_ ?_ _ | (left; simp; done) | (right; simp; done) | (right; dsimp only; omega) | (left; dsimp only; omega)))) hb; have hblk5 := hblk.below hb'; have hq5 := q_step hq hb'; have c0 := hblk5.cell 0 rfl; have c1 := hblk5.cell 1 rfl; have f0 := hblk5.froz 0 rfl; have f1 := hblk5.froz 1 rfl; have z0 := hblk5.lt; clear hb hb'))
           all_goals
            go_wp2_with fail
            go_roundw
            case rel =>
             exact ⟨k + 1, (internL more s false).1, by go_num, by go_num, Nat.le_trans (internL_len _ _ _) (by omega), a5, cap5, m5, (internL_stays more s nm false (by omega)).trans hnm, set2_q hq5 hcw, hblk5.set2, hT5.set.set⟩
            case measure => simp [intOf]; omega
        · obtain rfl : k = ss.length := by omega
          clear HIS HS3 hlt hk
          have hm10 : more.length ≤ 100000 := by omega
          have hag := fun o => internL_again more nm o hnn (by omega)
          rw [hnm] at hag
          have hAz : ((A : Int) == 0) = false := by simpa using hA0
          clear hnm hmk hl40
          have c0 := hblk.cell 0 rfl
          have c1 := hblk.cell 1 rfl
          have z0 := hblk.lt
          go_wp2_with fail
          refine (lentU_any a more.length cap2 (.map m) _ hm10).mono ?_
          rintro e w4 ⟨rfl, hb⟩
          replace hq := q_step hq hb
          replace hT := hT.below hb
          replace hblk := hblk.below hb
          clear hb c0 c1 z0
          have c0 := hblk.cell 0 rfl
          have c1 := hblk.cell 1 rfl
          have z0 := hblk.lt
          go_wp2_with fail
          refine (internN_any c _ _ more nm false _ (HS.out.below hq) (by omega) hm10 hT z0).mono ?_
          rintro e w5 ⟨a5, cap5, m5, rfl, hT5, hb⟩
          rw [hag] at hT5 ⊢
          dsimp only at hT5 ⊢
          replace hq := q_step hq hb
          have hcz := Nat.lt_of_lt_of_le z0 hb.size
          clear hb c0 c1 z0 hT hblk
          go_wp2_with fail
          refine calls_world (fun W => Below w.heap.size w W ∧ c < W.heap.size ∧ Blk W (w5.heap.size) [.slice a5 more.length cap5, .map m5] ∧ TabNe c W (.slice a5 more.length cap5) (.map m5) more) ⟨by (repeat' (first | with_reducible exact Below.refl _ _ | with_reducible assumption | with_reducible refine q_alloc ?_ _ | with_reducible refine q_drew ?_ | with_reducible refine q_drewN _ ?_ | with_reducible refine q_setCell ?_ ?_ _ | (left; simp; done) | (right; simp; done) | (right; dsimp only; omega) | (left; dsimp only; omega))), by simp; omega, Blk.new rfl, hT5.below (q_alloc (Below.refl _ _) _)⟩ ?_
          intro W5 ⟨hq5, hc5, hu5, hT6⟩
          clear hq hT5 hcz
          generalize w5.heap.size = d5 at hu5 ⊢
          refine (internN_any c _ _ more nm true _ (HS.out.below hq5) (by omega) hm10 hT6 hc5).mono ?_
          rintro e w6 ⟨a6, cap6, m6, rfl, hT7, hb⟩
          rw [hag] at hT7 ⊢
          dsimp only at hT7 ⊢
          replace hq5 := q_step hq5 hb
          replace hu5 := hu5.below hb
          clear hb hT6 hT7 hc5
          have u0 := hu5.cell 0 rfl
          have u1 := hu5.cell 1 rfl
          have uz := hu5.lt
          go_wp2_with fail
          refine calls_world (fun W => Below w.heap.size w W ∧ Blk W (w6.heap.size) [.slice a6 more.length cap6, .map m6]) ⟨by (repeat' (first | with_reducible exact Below.refl _ _ | with_reducible assumption | with_reducible refine q_alloc ?_ _ | with_reducible refine q_drew ?_ | with_reducible refine q_drewN _ ?_ | with_reducible refine q_setCell ?_ ?_ _ | (left; simp; done) | (right; simp; done) | (right; dsimp only; omega) | (left; dsimp only; omega))), Blk.new rfl⟩ ?_
          intro W6 ⟨hq6, hu6⟩
          clear hq5 hu5 u0 u1 uz
          generalize w6.heap.size = d6 at hu6 ⊢
          refine (lentU_any a5 more.length cap5 (.map m5) _ hm10).mono ?_
          rintro e w7 ⟨rfl, hb⟩
          replace hq6 := q_step hq6 hb
          replace hu6 := hu6.below hb
          clear hb
          have u0 := hu6.cell 0 rfl
          have u1 := hu6.cell 1 rfl
          have uz := hu6.lt
          go_wp2_with fail
          refine (lentU_any a6 more.length cap6 (.map m6) _ hm10).mono ?_
          rintro e w8 ⟨rfl, hb⟩
          replace hq6 := q_step hq6 hb
          clear hb
          go_wp2_with fail
          have hAn : ((A : Int) != 0) = true := by simp only [bne, hAz, Bool.not_false]
          go_returns
          exact ⟨by rw [hAn]; rfl, hq6⟩
    · rw [he] at hT3 ⊢
      dsimp only at hT3 ⊢
      have hE3 : (E == 0) = false := by simpa using hE0
      go_wp2_with fail
      refine (lentN_any _ _ [] 10 _ (by decide) (hT3.1.below (q_alloc (Below.refl _ _) _)) rfl).mono ?_
      rintro e w4 ⟨rfl, hb⟩
      have hq4 := q_step (q_alloc hq3 _) hb
      clear hq3 hb
      go_wp2_with fail
      go_returns
      exact ⟨rfl, hq4⟩
end Go.Proofs.YtdkdpjlkjamemaaDoor
