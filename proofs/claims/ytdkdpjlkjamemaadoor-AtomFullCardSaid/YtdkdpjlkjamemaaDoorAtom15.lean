/- Layer 9: the table and the document's list, side by side (under way). -/
import Derived.Test.YtdkdpjlkjamemaaDoorAtom14
import Derived.Test.YtdkdpjlkjamemaaDoorBools2
namespace Go.Proofs.YtdkdpjlkjamemaaDoor
open Go Go.RowKit Go.Maps
set_option linter.unusedSimpArgs false
set_option linter.unusedVariables false
/-- A table none of whose blocks meets X, and none of whose blocks is new. -/
theorem TabX.or {X : Nat → Prop} {d : Nat} {w : World} {sv mv : Value} {more : List B} (h : TabX X w sv mv more) (hd : w.heap.size ≤ d) : TabX (fun x => X x ∨ x = d) w sv mv more :=
  ⟨h.1, fun c hc => by
    rcases hc with hc | rfl
    · exact h.2 c hc
    · exact (TabX.of (X := fun x => x = c) h.1 (by rintro x rfl; exact hd)).2 c rfl⟩
theorem internL_num (more : List B) (s : B) (o : Bool) (h : more.length ≤ 1000) : 0 ≤ (internL more s o).2.1 ∧ (internL more s o).2.1 ≤ 2000 := by
  have h1 : numT more s ≤ 10 + more.length := by
    have := findL_le (knownL ++ more) s
    rw [List.length_append] at this
    exact this
  unfold internL
  repeat' split
  all_goals (dsimp only; omega)
/-- The loop's state. -/
def PlS (w : World) (c : Nat) (more : List B) (v : Value) (wr : World) : Prop :=
  Below w.heap.size w wr ∧ VarX (fun x => x = c) c more wr ∧ StrLo (c + 1) wr v (knownL ++ more)
set_option maxRecDepth 100000 in
set_option maxHeartbeats 4000000 in
theorem lplays_any (a0 a1 : Option Addr) (cap0 cap1 : Nat) (ss : List B) (os : List Bool) (g : Int) (w : World) (hs : RowAt 0 knownCells w) (hl0 : IsStrs w (.slice a0 ss.length cap0) ss) (hl1 : IsBools w (.slice a1 os.length cap1) os) (hg0 : 0 ≤ g) (hg1 : g < 4294967296) :
    Calls Tryd.prog 3 #[.slice a0 ss.length cap0, .slice a1 os.length cap1, u3 g] w fun e w' => e = .returned (.bool true) ∧ Below w.heap.size w w' := by
  have HS := Lib.hid hs
  have HI0 := Lib.hid hl0
  have HI1 := Lib.hid hl1
  clear hs hl0 hl1
  go_enter Tryd.func3, Tryd.ntmps3
  go_wp2_with fail
  refine (awake09 _ HS.out).mono ?_
  rintro e w1 ⟨rfl, hq1⟩
  go_wp2_with fail
  refine (short_any _ ss 40 _ (HI0.out.below hq1) (by decide)).mono ?_
  rintro e w2 ⟨r, rfl, hr0, rfl⟩
  cases r with
  | false => go_wp2_with fail; go_returns; exact ⟨rfl, hq1⟩
  | true =>
  obtain ⟨hl40, hs0⟩ := hr0 rfl
  have HT0 := Lib.hid hs0
  clear hs0 hr0
  go_wp2_with fail
  have hcw := hq1.size
  refine calls_world (fun W => w1.heap.size < W.heap.size ∧ Below w.heap.size w W ∧ VarX (fun x => x = w1.heap.size) w1.heap.size [] W) ⟨by simp, by (repeat' (first | with_reducible exact Below.refl _ _ | with_reducible assumption | with_reducible refine q_alloc ?_ _ | with_reducible refine q_drew ?_ | with_reducible refine q_drewN _ ?_ | with_reducible refine q_setCell ?_ ?_ _ | (left; simp; done) | (right; simp; done) | (right; dsimp only; omega) | (left; dsimp only; omega))), none, 0, none, Blk.new rfl, tabX_zero _⟩ ?_
  intro W2 ⟨hcz, hq2, hv2⟩
  clear hq1
  generalize w1.heap.size = c at hcw hv2 hcz ⊢
  refine (rknown_any _).mono ?_
  rintro e w3 ⟨v, rfl, hv, hb⟩
  have hP : PlS w c [] v w3 := ⟨q_step hq2 hb, hv2.below hb, ⟨(ownS_lo hv).1, fun b off n cap e => by have := (ownS_lo hv).2 b off n cap e; omega⟩⟩
  clear hq2 hv2 hv hb hcz
  go_wp2_with fail
  go_loopw [8, 9] (fun v i wr => ∃ (k : Nat) (more : List B), k ≤ ss.length ∧ i = .int .i64 k ∧ more.length ≤ k ∧ PlS w c more v wr)
    (fun v i _ => ss.length - (intOf i).toNat)
  case atStart => exact ⟨0, [], by omega, rfl, by simp, hP⟩
  case round =>
    clear hP
    obtain ⟨k, more, hk, rfl, hmk, hq, hv, hst⟩ := hrel
    by_cases hlt : k < ss.length
    · obtain ⟨b, off, rfl, hcap, hcm, hb, hL⟩ := isStrs_pos HI0.out (by omega)
      have hlk : ss[k]? = some ss[k] := List.getElem?_eq_getElem hlt
      have d0 := hL.below hq k _ hlk
      clear hL
      have hs3 := HT0.out _ (List.getElem_mem hlt)
      clear hlk
      generalize ss[k] = s at d0 hs3
      have z1 := block_lt_of_cell d0
      dsimp only at z1
      obtain ⟨lb, lo, lcap, ln, rfl, hln, hA⟩ := allS hst.1
      obtain ⟨a, capT, m, hblk, hT⟩ := hv
      have c0 := hblk.cell 0 rfl
      have c1 := hblk.cell 1 rfl
      have z0 := hblk.lt
      go_upto_region 10 with fail
      go_cut [10] from 27 to 89 (fun p wx => ∃ o : Bool, p = .bool o ∧ wr = wx)
      case first =>
        by_cases hko : k < os.length
        · obtain ⟨b', off', rfl, hcap', hcm', hb', hL'⟩ := isBools_pos HI1.out (by omega)
          have hok : os[k]? = some os[k] := List.getElem?_eq_getElem hko
          have o0 := cell_below hq (hL' k _ hok)
          clear hL' hok
          generalize os[k] = o at o0
          have hk1 : (k : Int) < os.length := by omega
          go_wp2_with fail
          go_meet
          exact ⟨o, rfl, rfl⟩
        · have hk1 : ¬ (k : Int) < os.length := by omega
          go_wp2_with fail
          go_meet
          exact ⟨false, rfl, rfl⟩
      case rest =>
        obtain ⟨o, rfl, rfl⟩ := hcut
        go_upto_region 11 with fail
        go_cut [11, 12, 13] from 27 to 89 (fun p x e wx => ∃ d a5 cap5 m5, p = .pointer (some ⟨d, 0, none⟩) ∧ x = u3 (internL more s o).2.1 ∧ e = i6 (internL more s o).2.2 ∧ Below wr.heap.size wr wx ∧ Blk wx d [.slice a5 (internL more s o).1.length cap5, .map m5] ∧ TabX (fun x => x = c) wx (.slice a5 (internL more s o).1.length cap5) (.map m5) (internL more s o).1)
        case first =>
          go_region_with (first
            | (go_at_call 12; refine (internX_any (fun x => x = c ∨ x = wr.heap.size) _ _ more s o _ ?_ (by omega) (by omega) ?_ ?_).mono ?_; exact HS.out.below (q_step hq (by (repeat' (first | with_reducible exact Below.refl _ _ | with_reducible assumption | with_reducible refine q_alloc ?_ _ | with_reducible refine q_drew ?_ | with_reducible refine q_drewN _ ?_ | with_reducible refine q_setCell ?_ ?_ _ | (left; simp; done) | (right; simp; done) | (right; dsimp only; omega) | (left; dsimp only; omega))))); exact (hT.or (Nat.le_refl _)).below (by (repeat' (first | with_reducible exact Below.refl _ _ | with_reducible assumption | with_reducible refine q_alloc ?_ _ | with_reducible refine q_drew ?_ | with_reducible refine q_drewN _ ?_ | with_reducible refine q_setCell ?_ ?_ _ | (left; simp; done) | (right; simp; done) | (right; dsimp only; omega) | (left; dsimp only; omega)))); (rintro x (rfl | rfl) <;> first | (simp; done) | (simp; omega)); rintro e w5 ⟨a5, cap5, m5, rfl, hT5, hb⟩; have hb' : Below wr.heap.size wr w5 := q_step (by (repeat' (first | with_reducible exact Below.refl _ _ | with_reducible assumption | with_reducible refine q_alloc ?_ _ | with_reducible refine q_drew ?_ | with_reducible refine q_drewN _ ?_ | with_reducible refine q_setCell ?_ ?_ _ | (left; simp; done) | (right; simp; done) | (right; dsimp only; omega) | (left; dsimp only; omega)))) hb; have hd : Blk w5 wr.heap.size [.slice none 0 0, .map none] := Blk.below (Blk.below (Blk.new rfl) (Below.refl _ _).drew) hb; have dc0 := hd.cell 0 rfl; have dc1 := hd.cell 1 rfl; have df0 := hd.froz 0 rfl; have df1 := hd.froz 1 rfl; have dz := hd.lt; clear hb)
            | (go_at_call 12; refine (internX_any (fun x => x = c) _ _ more s o _ ?_ (by omega) (by omega) ?_ ?_).mono ?_; exact HS.out.below (q_step hq (by (repeat' (first | with_reducible exact Below.refl _ _ | with_reducible assumption | with_reducible refine q_alloc ?_ _ | with_reducible refine q_drew ?_ | with_reducible refine q_drewN _ ?_ | with_reducible refine q_setCell ?_ ?_ _ | (left; simp; done) | (right; simp; done) | (right; dsimp only; omega) | (left; dsimp only; omega))))); exact hT.below (by (repeat' (first | with_reducible exact Below.refl _ _ | with_reducible assumption | with_reducible refine q_alloc ?_ _ | with_reducible refine q_drew ?_ | with_reducible refine q_drewN _ ?_ | with_reducible refine q_setCell ?_ ?_ _ | (left; simp; done) | (right; simp; done) | (right; dsimp only; omega) | (left; dsimp only; omega)))); (rintro x rfl; first | exact z0 | (simp; omega)); rintro e w5 ⟨a5, cap5, m5, rfl, hT5, hb⟩; have hb' : Below wr.heap.size wr w5 := q_step (by (repeat' (first | with_reducible exact Below.refl _ _ | with_reducible assumption | with_reducible refine q_alloc ?_ _ | with_reducible refine q_drew ?_ | with_reducible refine q_drewN _ ?_ | with_reducible refine q_setCell ?_ ?_ _ | (left; simp; done) | (right; simp; done) | (right; dsimp only; omega) | (left; dsimp only; omega)))) hb; clear hb))
          all_goals (go_wp2_with fail; go_meet; (first | exact ⟨_, a5, cap5, m5, rfl, rfl, rfl, set2_q hb' (Nat.le_refl _), hd.set2, ⟨((hT5.set (Or.inr rfl)).set (Or.inr rfl)).1, fun x hx => hT5.2 x (Or.inl hx)⟩⟩ | exact ⟨_, a5, cap5, m5, rfl, rfl, rfl, by (repeat' (first | with_reducible exact Below.refl _ _ | with_reducible assumption | with_reducible refine q_alloc ?_ _ | with_reducible refine q_drew ?_ | with_reducible refine q_drewN _ ?_ | with_reducible refine q_setCell ?_ ?_ _ | (left; simp; done) | (right; simp; done) | (right; dsimp only; omega) | (left; dsimp only; omega))), Blk.new rfl, hT5.below (q_alloc (Below.refl _ _) _)⟩))
        case rest =>
          obtain ⟨d, a5, cap5, m5, rfl, rfl, rfl, hb, hu, hT5⟩ := hcut
          replace hq := q_step hq hb
          replace hblk := hblk.below hb
          replace hT := hT.below hb
          replace hst := hst.below hb
          replace hA := hA.below hb
          replace d0 := cell_below hb d0
          replace z1 := block_lt_of_cell d0
          dsimp only at z1
          clear hb c0 c1 z0
          have z0 := hblk.lt
          have hl1 : (knownL ++ more).length ≤ 100000 := by rw [List.length_append]; show 10 + more.length ≤ 100000; omega
          have hl2 : 0 < (knownL ++ more).length := by rw [List.length_append]; show 0 < 10 + more.length; omega
          go_wp2_with fail
          refine (rintern_any (c + 1) _ (knownL ++ more) s o _ hst (by omega) hl1 (by omega) hl2).mono ?_
          rintro e w6 ⟨v', rfl, hst', hb⟩
          rw [intern_same] at hst' ⊢
          dsimp only at hst' ⊢
          replace hq := q_step hq hb
          replace hblk := hblk.below hb
          replace hT := hT.below hb
          replace hA := hA.below hb
          replace hu := hu.below hb
          replace hT5 := hT5.below hb
          clear hb z0 z1 d0 hst
          have c0 := hblk.cell 0 rfl
          have c1 := hblk.cell 1 rfl
          have z0 := hblk.lt
          have hAb := internL_num more s o (by omega)
          generalize (internL more s o).2.1 = A at hAb ⊢
          generalize (internL more s o).2.2 = E
          have hwr : IntKind.i64.wrap A = A := IntWalk.i64_in _ (by omega)
          have hlnE : (10 + (more.length : Int)) = (ln : Int) := by have h1 := hA.1; rw [List.length_append] at h1; have h2 : knownL.length = 10 := rfl; omega
          go_wp2_with fail
          refine (all_any _ _ more _ (HS.out.below hq) (by omega) hT.1).mono ?_
          rintro e w7 ⟨tv, rfl, hA3, hb⟩
          replace hq := q_step hq hb
          replace hblk := hblk.below hb
          replace hT := hT.below hb
          replace hA := hA.below hb
          replace hu := hu.below hb
          replace hT5 := hT5.below hb
          replace hst' := hst'.below hb
          clear hb c0 c1 z0
          have c0 := hblk.cell 0 rfl
          have c1 := hblk.cell 1 rfl
          have z0 := hblk.lt
          go_wp2_with fail
          refine (rsame_eq _ _ (knownL ++ more) _ hA3 (hA.is (by omega)) hl1).mono ?_
          rintro e w8 ⟨rfl, hb⟩
          replace hq := q_step hq hb
          replace hblk := hblk.below hb
          replace hT := hT.below hb
          replace hA := hA.below hb
          replace hu := hu.below hb
          replace hT5 := hT5.below hb
          replace hst' := hst'.below hb
          clear hb c0 c1 z0
          have c0 := hblk.cell 0 rfl
          have c1 := hblk.cell 1 rfl
          have z0 := hblk.lt
          clear hA3
          go_wp2_with fail
          refine (lentU_any a more.length capT (.map m) _ (by omega)).mono ?_
          rintro e w9 ⟨rfl, hb⟩
          replace hq := q_step hq hb
          replace hblk := hblk.below hb
          replace hT := hT.below hb
          replace hA := hA.below hb
          replace hu := hu.below hb
          replace hT5 := hT5.below hb
          replace hst' := hst'.below hb
          clear hb c0 c1 z0
          have c0 := hblk.cell 0 rfl
          have c1 := hblk.cell 1 rfl
          have z0 := hblk.lt
          have f0 := hblk.froz 0 rfl
          have f1 := hblk.froz 1 rfl
          have u0 := hu.cell 0 rfl
          have u1 := hu.cell 1 rfl
          have uz := hu.lt
          go_wp2_with fail
          go_roundw
          case rel => exact ⟨k + 1, (internL more s o).1, by go_num, by go_num, Nat.le_trans (internL_len _ _ _) (by omega), set2_q hq hcw, VarX.put hblk hT5 rfl, (hst'.set (by omega)).set (by omega)⟩
          case measure => simp [intOf]; omega
    · obtain rfl : k = ss.length := by omega
      clear HI0 HI1 HT0 hlt hk
      obtain ⟨lb, lo, lcap, ln, rfl, hln, hA⟩ := allS hst.1
      obtain ⟨a, capT, m, hblk, hT⟩ := hv
      clear hst
      have hlnE : (10 + (more.length : Int)) = (ln : Int) := by have h1 := hA.1; rw [List.length_append] at h1; have h2 : knownL.length = 10 := rfl; omega
      have hl1 : (knownL ++ more).length ≤ 100000 := by rw [List.length_append]; show 10 + more.length ≤ 100000; omega
      have hml : more.length ≤ 100000 := by omega
      have hlnL : ((knownL ++ more).length : Int) = ln := by rw [hA.1]
      have hlcap := hA.2.1
      clear hmk hl40
      have c0 := hblk.cell 0 rfl
      have c1 := hblk.cell 1 rfl
      have z0 := hblk.lt
      have hcase : g = 0 ∨ (∃ j : Nat, g = (j : Int) + 1 ∧ j < ln) ∨ (ln : Int) < g := by
        by_cases h0 : g = 0
        · exact Or.inl h0
        · by_cases h1 : (ln : Int) < g
          · exact Or.inr (Or.inr h1)
          · exact Or.inr (Or.inl ⟨(g - 1).toNat, by omega, by omega⟩)
      have hn : ∃ nm ok, nameL (knownL ++ more) g = (nm, ok) := ⟨_, _, rfl⟩
      obtain ⟨nm, ok, hnm⟩ := hn
      have hwg : IntKind.i64.wrap g = g := IntWalk.i64_in _ (by omega)
      go_wp2_with fail
      refine (name_any _ _ more g _ (HS.out.below hq) hml hT.1 hg0 hg1).mono ?_
      rintro e w5 ⟨rfl, hb⟩
      rw [hnm]
      dsimp only
      replace hq := q_step hq hb
      replace hblk := hblk.below hb
      replace hT := hT.below hb
      replace hA := hA.below hb
      clear hb c0 c1 z0
      have c0 := hblk.cell 0 rfl
      have c1 := hblk.cell 1 rfl
      have z0 := hblk.lt
      rcases hcase with rfl | ⟨j, rfl, hj⟩ | hgt
      · obtain ⟨rfl, rfl⟩ : nm = [] ∧ ok = false := by
          unfold nameL at hnm
          rw [if_neg (by omega)] at hnm
          simp only [Prod.mk.injEq] at hnm
          exact ⟨hnm.1.symm, hnm.2.symm⟩
        go_wp2_with fail
        refine (all_any _ _ more _ (HS.out.below hq) hml hT.1).mono ?_
        rintro e w6 ⟨tv, rfl, hA3, hb⟩
        replace hq := q_step hq hb
        replace hblk := hblk.below hb
        replace hT := hT.below hb
        replace hA := hA.below hb
        clear hb c0 c1 z0
        have c0 := hblk.cell 0 rfl
        have c1 := hblk.cell 1 rfl
        have z0 := hblk.lt
        go_wp2_with fail
        refine (rsame_eq _ _ (knownL ++ more) _ hA3 (hA.is (by omega)) hl1).mono ?_
        rintro e w7 ⟨rfl, hb⟩
        replace hq := q_step hq hb
        replace hblk := hblk.below hb
        replace hT := hT.below hb
        replace hA := hA.below hb
        clear hb c0 c1 z0
        have c0 := hblk.cell 0 rfl
        have c1 := hblk.cell 1 rfl
        have z0 := hblk.lt
        clear hA3
        go_wp2_with fail
        refine (lentU_any a more.length capT (.map m) _ hml).mono ?_
        rintro e w8 ⟨rfl, hb⟩
        replace hq := q_step hq hb
        replace hblk := hblk.below hb
        replace hT := hT.below hb
        replace hA := hA.below hb
        clear hb c0 c1 z0
        have c0 := hblk.cell 0 rfl
        have c1 := hblk.cell 1 rfl
        have z0 := hblk.lt
        go_wp2_with fail
        go_returns
        exact ⟨by first | rfl | simp, hq⟩
      · have hj1 : (1 : Int) ≤ (j : Int) + 1 := by omega
        have hj2 : (j : Int) + 1 ≤ (ln : Int) := by omega
        obtain ⟨hnj, rfl⟩ : (knownL ++ more)[j]? = some nm ∧ ok = true := by
          unfold nameL at hnm
          rw [if_pos ⟨hj1, by rw [hlnL]; exact hj2⟩] at hnm
          simp only [Prod.mk.injEq] at hnm
          refine ⟨?_, hnm.2.symm⟩
          have hjl : j < (knownL ++ more).length := by rw [← hA.1]; exact hj
          rw [List.getElem?_eq_getElem hjl, ← hnm.1, show ((j : Int) + 1).toNat - 1 = j by omega, List.getD_eq_getElem?_getD, List.getElem?_eq_getElem hjl]
          rfl
        have hwu : IntKind.u32.wrap ((j : Int) + 1 - 1) = (j : Int) := by rw [show (j : Int) + 1 - 1 = j by omega]; simp only [IntKind.wrap, IntKind.bits, IntKind.signed]; simp; omega
        go_wp2_with fail
        refine (all_any _ _ more _ (HS.out.below hq) hml hT.1).mono ?_
        rintro e w6 ⟨tv, rfl, hA3, hb⟩
        replace hq := q_step hq hb
        replace hblk := hblk.below hb
        replace hT := hT.below hb
        replace hA := hA.below hb
        clear hb c0 c1 z0
        have c0 := hblk.cell 0 rfl
        have c1 := hblk.cell 1 rfl
        have z0 := hblk.lt
        go_wp2_with fail
        refine (rsame_eq _ _ (knownL ++ more) _ hA3 (hA.is (by omega)) hl1).mono ?_
        rintro e w7 ⟨rfl, hb⟩
        replace hq := q_step hq hb
        replace hblk := hblk.below hb
        replace hT := hT.below hb
        replace hA := hA.below hb
        clear hb c0 c1 z0
        have c0 := hblk.cell 0 rfl
        have c1 := hblk.cell 1 rfl
        have z0 := hblk.lt
        clear hA3
        go_wp2_with fail
        refine (lentU_any a more.length capT (.map m) _ hml).mono ?_
        rintro e w8 ⟨rfl, hb⟩
        replace hq := q_step hq hb
        replace hblk := hblk.below hb
        replace hT := hT.below hb
        replace hA := hA.below hb
        clear hb c0 c1 z0
        have c0 := hblk.cell 0 rfl
        have c1 := hblk.cell 1 rfl
        have z0 := hblk.lt
        have d0 := hA.2.2.2.2 j nm hnj
        have hj3 : (0 : Int) ≤ (j : Int) := by omega
        have hj4 : (j : Int) < (ln : Int) := by omega
        go_wp2_with fail
        go_returns
        exact ⟨by first | rfl | simp, hq⟩
      · have hg2 : (1 : Int) ≤ g := by omega
        have hg3 : ¬ g ≤ (ln : Int) := by omega
        obtain ⟨rfl, rfl⟩ : nm = [] ∧ ok = false := by
          unfold nameL at hnm
          rw [if_neg (by rw [hlnL]; omega)] at hnm
          simp only [Prod.mk.injEq] at hnm
          exact ⟨hnm.1.symm, hnm.2.symm⟩
        go_wp2_with fail
        refine (all_any _ _ more _ (HS.out.below hq) hml hT.1).mono ?_
        rintro e w6 ⟨tv, rfl, hA3, hb⟩
        replace hq := q_step hq hb
        replace hblk := hblk.below hb
        replace hT := hT.below hb
        replace hA := hA.below hb
        clear hb c0 c1 z0
        have c0 := hblk.cell 0 rfl
        have c1 := hblk.cell 1 rfl
        have z0 := hblk.lt
        go_wp2_with fail
        refine (rsame_eq _ _ (knownL ++ more) _ hA3 (hA.is (by omega)) hl1).mono ?_
        rintro e w7 ⟨rfl, hb⟩
        replace hq := q_step hq hb
        replace hblk := hblk.below hb
        replace hT := hT.below hb
        replace hA := hA.below hb
        clear hb c0 c1 z0
        have c0 := hblk.cell 0 rfl
        have c1 := hblk.cell 1 rfl
        have z0 := hblk.lt
        clear hA3
        go_wp2_with fail
        refine (lentU_any a more.length capT (.map m) _ hml).mono ?_
        rintro e w8 ⟨rfl, hb⟩
        replace hq := q_step hq hb
        replace hblk := hblk.below hb
        replace hT := hT.below hb
        replace hA := hA.below hb
        clear hb c0 c1 z0
        have c0 := hblk.cell 0 rfl
        have c1 := hblk.cell 1 rfl
        have z0 := hblk.lt
        go_wp2_with fail
        go_returns
        exact ⟨by first | rfl | simp, hq⟩
end Go.Proofs.YtdkdpjlkjamemaaDoor
