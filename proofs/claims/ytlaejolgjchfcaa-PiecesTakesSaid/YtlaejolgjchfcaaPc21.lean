/- Layer 42: PiecesGives' walk. -/
import Derived.Test.YtlaejolgjchfcaaPc20
namespace Go.Proofs.Ytlaejolgjchfcaa
open Go Go.RowKit Go.Maps
set_option linter.unusedSimpArgs false
set_option linter.unusedVariables false
theorem put_bk (da : Option Addr) (cap : Nat) (us : List Int) (k m a P : Nat) (w : World) (hk : us.length = k) (hv : IsI w (.slice da k cap) us) (hl : k ≤ 400) (hm : 1 ≤ m) (hm3 : m ≤ 16382) (hc : CntIs k m P) (ha : a < P) :
    Calls Try.prog 13 #[gV (.slice da k cap) m a P] w fun e w' => ∃ va vc pn, e = .returned (.tuple #[pV (readA (pk P a)) (pt k P a) (.slice va pn vc) (readB (pk P a)), .bool true]) ∧ pn = (pd us m P a).length ∧ IsI w' (.slice va pn vc) (pd us m P a) ∧ (va = none → vc = 0) ∧ Below w.heap.size w w' := by
  subst hk
  exact (put_big da cap us m a P w hv hl hm hm3 hc ha).mono fun e w' ⟨va, vc, he, hi, hn, hb⟩ => ⟨va, vc, _, he, rfl, hi, hn, hb⟩
theorem rall_ok (da : Option Addr) (k dc : Nat) (us : List Int) (m P : Nat) (w0 : World) (hv0 : IsI w0 (.slice da k dc) us) (w : World) (hk : us.length = k) (hv : IsI w (.slice da k dc) us) (h1 : 1 ≤ m) (h2 : m ≤ 16382) (hl : k ≤ 400) (hok : numsB us = true) (hc : CntIs k m P) :
    Calls Try.prog 12 #[.slice da k dc, i6 m] w fun e w' => ∃ g cap, e = .returned (.tuple #[.slice (some ⟨g, 0, none⟩) P cap, i6 0]) ∧ IsPs w0 w.heap.size w' (.slice (some ⟨g, 0, none⟩) P cap) k us m P ∧ Below w.heap.size w w' := by
  by_cases hP : P = 1
  · refine (rall_one da k dc us m P w0 hv0 w hk hv h1 h2 hl hok hc hP).mono ?_
    rintro e w' ⟨v, rfl, hi, hb⟩
    have hi' := hi
    obtain ⟨g, cap, dvs, rfl, _⟩ := hi'
    exact ⟨g, cap, rfl, hi, hb⟩
  · refine (rall_more da k dc us m P w0 hv0 w hk hv h1 h2 hl hok hc (by have := (cnt_le h1 hc).1; omega)).mono ?_
    rintro e w' ⟨v, rfl, hi, hb⟩
    have hi' := hi
    obtain ⟨g, cap, dvs, rfl, _⟩ := hi'
    exact ⟨g, cap, rfl, hi, hb⟩
theorem gives_end {w W : World} {gb k m a P : Nat} {da wa : Option Addr} {dc wc B : Nat} {us : List Int} {w0 : World}
    (hg : Blk W gb [.slice da k dc, i6 m, i6 a, i6 P]) (hd : IsI W (.slice da k dc) us) (dg : Apart gb (.slice da k dc) us) (hp : IsPs w0 B W (.slice wa P wc) k us m P) (hB : gb < B) (zg : w.heap.size ≤ gb) (hq : Below w.heap.size w W) :
    (fun wx => Blk wx gb [.slice da k dc, i6 m, i6 ((a + 1 : Nat) : Int), i6 P] ∧ IsI wx (.slice da k dc) us ∧ IsPs w0 B wx (.slice wa P wc) k us m P ∧ Below w.heap.size w wx)
      ((((W.setCell ⟨gb, 0, none⟩ (.slice da k dc)).setCell ⟨gb, 1, none⟩ (i6 m)).setCell ⟨gb, 2, none⟩ (i6 ((a : Int) + 1))).setCell ⟨gb, 3, none⟩ (i6 P)) := by
  refine ⟨(((hg.set 0 _ (by simp) rfl).set 1 _ (by simp) rfl).set 2 _ (by simp) rfl).set 3 _ (by simp) rfl, (((hd.setA dg 0 _).setA dg 1 _).setA dg 2 _).setA dg 3 _, (((hp.set hB 0 _).set hB 1 _).set hB 2 _).set hB 3 _, ?_⟩
  exact q_setCell (q_setCell (q_setCell (q_setCell hq (Or.inr zg) _) (Or.inr zg) _) (Or.inr zg) _) (Or.inr zg) _
set_option maxRecDepth 100000 in
set_option maxHeartbeats 16000000 in
theorem lgives_any (A : Option Addr) (n cap : Nat) (us : List Int) (most : Int) (w : World) (hv : IsI w (.slice A n cap) us) (hn : us.length = n) :
    Calls Try.prog 3 #[.slice A n cap, i6 most] w fun e w' => e = .returned (.bool true) ∧ Below w.heap.size w w' := by
  have HV := Lib.hid hv
  have HN := Lib.hid hn
  clear hv hn
  by_cases hl : 300 < n
  · have hl' : (300 : Int) < n := by omega
    go_enter Try.func3, Try.ntmps3
    go_wp2_with fail
    refine (awake42 _).mono ?_
    rintro e w1 ⟨rfl, hb⟩
    go_wp2_with fail
    go_returns
    exact ⟨by first | rfl | (simp; done), hb⟩
  have hl' : ¬ (300 : Int) < n := by omega
  have hln : n ≤ 400 := by omega
  by_cases hm : most < 1 ∨ 16382 < most
  · have HM := Lib.hid hm
    clear hm
    go_enter Try.func3, Try.ntmps3
    go_wp2_with fail
    refine (new_size _ most _ HM.out).mono ?_
    rintro e w1 ⟨rfl, hb⟩
    go_wp2_with fail
    refine (rall_size _ most _ HM.out).mono ?_
    rintro e w2 ⟨rfl, hb2⟩
    have J := q_step (show Below w.heap.size w _ by first | with_reducible exact q_alloc hb _ | (repeat' (first | with_reducible exact Below.refl _ _ | with_reducible assumption | with_reducible refine q_alloc ?_ _ | with_reducible refine q_drew ?_ | with_reducible refine q_drewN _ ?_ | with_reducible refine q_setCell ?_ ?_ _ | (left; simp; done) | (right; simp; done) | (right; dsimp only; omega) | (left; dsimp only; omega)))) hb2
    clear hb hb2
    go_wp2_with fail
    refine (awake42 _).mono ?_
    rintro e w3 ⟨rfl, hb⟩
    go_wp2_with fail
    go_returns
    exact ⟨by first | rfl | (simp; done), q_step J hb⟩
  obtain ⟨m, rfl⟩ : ∃ m : Nat, most = (m : Int) := ⟨most.toNat, by omega⟩
  have hm1 : 1 ≤ m := by omega
  have hm3 : m ≤ 16382 := by omega
  clear hm
  cases hok : numsB us with
  | false =>
    have HOK := Lib.hid hok
    clear hok
    go_enter Try.func3, Try.ntmps3
    go_wp2_with fail
    refine (new_any _ us (m : Int) _ HV.out (by omega) (by omega) (by rw [HN.out]; omega)).mono ?_
    rintro e w1 ⟨hor, hb⟩
    rcases hor with ⟨_, rfl⟩ | ⟨hbad, _⟩
    rotate_left
    · rw [HOK.out] at hbad; simp at hbad
    go_wp2_with fail
    refine (rall_bad A n cap us (m : Int) _ HN.out (HV.out.below (by (repeat' (first | with_reducible exact Below.refl _ _ | with_reducible assumption | with_reducible refine q_alloc ?_ _ | with_reducible refine q_drew ?_ | with_reducible refine q_drewN _ ?_ | with_reducible refine q_setCell ?_ ?_ _ | (left; simp; done) | (right; simp; done) | (right; dsimp only; omega) | (left; dsimp only; omega))))) (by omega) (by omega) hln HOK.out).mono ?_
    rintro e w2 ⟨rfl, hb2⟩
    have J := q_step (show Below w.heap.size w _ by first | with_reducible exact q_alloc hb _ | (repeat' (first | with_reducible exact Below.refl _ _ | with_reducible assumption | with_reducible refine q_alloc ?_ _ | with_reducible refine q_drew ?_ | with_reducible refine q_drewN _ ?_ | with_reducible refine q_setCell ?_ ?_ _ | (left; simp; done) | (right; simp; done) | (right; dsimp only; omega) | (left; dsimp only; omega)))) hb2
    clear hb hb2
    go_wp2_with fail
    refine (awake42 _).mono ?_
    rintro e w3 ⟨rfl, hb⟩
    go_wp2_with fail
    go_returns
    exact ⟨by first | rfl | (simp; done), q_step J hb⟩
  | true =>
    have HOK := Lib.hid hok
    clear hok
    go_enter Try.func3, Try.ntmps3
    go_wp2_with fail
    refine (new_any _ us (m : Int) _ HV.out (by omega) (by omega) (by rw [HN.out]; omega)).mono ?_
    rintro e w2 ⟨hor, hb⟩
    rcases hor with ⟨hbad, _⟩ | ⟨_, dv, rfl, hid⟩
    · rw [HOK.out] at hbad; simp at hbad
    obtain ⟨da, dc, rfl, _⟩ := isI_form hid
    obtain ⟨P, hP, hcnt⟩ := cnt_of us.length m hm1
    rw [hP]
    rw [HN.out] at hcnt hid ⊢
    have hcl := cnt_le hm1 hcnt
    have HC := Lib.hid hcnt
    have HID := Lib.hid hid
    have hap1 := apart_old hid (Nat.le_refl _)
    have HAD := Lib.hid hap1
    clear hP hcnt hid hap1
    go_upto_region 4 with fail
    refine code_world (fun W => Below w.heap.size w W ∧ Blk W w2.heap.size [.slice da n dc, i6 m, i6 0, i6 P] ∧ IsI W (.slice da n dc) us) ⟨by (repeat' (first | with_reducible exact Below.refl _ _ | with_reducible assumption | with_reducible refine q_alloc ?_ _ | with_reducible refine q_drew ?_ | with_reducible refine q_drewN _ ?_ | with_reducible refine q_setCell ?_ ?_ _ | (left; simp; done) | (right; simp; done) | (right; dsimp only; omega) | (left; dsimp only; omega))), Blk.new rfl, HID.out.below (by (repeat' (first | with_reducible exact Below.refl _ _ | with_reducible assumption | with_reducible refine q_alloc ?_ _ | with_reducible refine q_drew ?_ | with_reducible refine q_drewN _ ?_ | with_reducible refine q_setCell ?_ ?_ _ | (left; simp; done) | (right; simp; done) | (right; dsimp only; omega) | (left; dsimp only; omega))))⟩ ?_
    intro W3 ⟨J3, c1, i1⟩
    have hgz : w.heap.size ≤ w2.heap.size := hb.size
    have ad1 := HAD.out
    generalize w2.heap.size = gb at c1 ad1 hgz ⊢
    have HA1 := Lib.hid ad1
    have HI1 := Lib.hid i1
    have HC1 := Lib.hid c1
    have HJ3 := Lib.hid J3
    have hgB : gb < W3.heap.size := c1.lt
    clear hb HID HAD ad1 i1 c1
    go_wp2_with fail
    refine (rall_ok A n cap us m P w HV.out _ HN.out (HV.out.below J3) hm1 hm3 hln HOK.out HC.out).mono ?_
    rintro e w4 ⟨wg, wcap, rfl, hps, hb⟩
    have HPS := Lib.hid hps
    have J4 := q_step J3 hb
    have HC4 := Lib.hid (HC1.out.below hb)
    have HI4 := Lib.hid (HI1.out.below hb)
    generalize W3.heap.size = B at HPS hgB hb
    have hP1 : 1 ≤ P := hcl.1
    have hPk : P ≤ n + 2 := hcl.2.1
    clear hps J3 hb hcl HC1 HI1
    go_wp2_with fail
    go_loopw [9] (fun i wr => ∃ a : Nat, a ≤ P ∧ i = .int .i64 a ∧ Blk wr gb [.slice da n dc, i6 m, i6 a, i6 P] ∧ IsI wr (.slice da n dc) us ∧ IsPs w B wr (.slice (some ⟨wg, 0, none⟩) P wcap) n us m P ∧ Below w.heap.size w wr)
      (fun i _ => P - (intOf i).toNat)
    case atStart => exact ⟨0, Nat.zero_le _, rfl, HC4.out, HI4.out, HPS.out, J4⟩
    case round =>
      clear J4
      obtain ⟨a, ha, rfl, bg, id, ips, hq⟩ := hrel
      have HBG := Lib.hid bg
      have HID := Lib.hid id
      have HPS1 := Lib.hid ips
      have HQ := Lib.hid hq
      have g0 := stick (bg.cell 0 rfl)
      have g1 := stick (bg.cell 1 rfl)
      have g2 := stick (bg.cell 2 rfl)
      have g3 := stick (bg.cell 3 rfl)
      have zg := bg.lt
      have J : Below wr.heap.size wr wr := Below.refl _ _
      by_cases hlt : a < P
      · have hki : (a : Int) < (P : Int) := by omega
        obtain ⟨wg', wcap', dvs, e1, hBg, hgl, hrows, hdat⟩ := ips
        simp only [Value.slice.injEq, Option.some.injEq, Addr.mk.injEq, and_true, true_and] at e1
        obtain ⟨rfl, rfl⟩ := e1
        have w0 := stick (hrows a hlt 0 _ rfl)
        have w1 := stick (hrows a hlt 1 _ rfl)
        have w2 := stick (hrows a hlt 2 _ rfl)
        have w3 := stick (hrows a hlt 3 _ rfl)
        have HDAT := Lib.hid (hdat a hlt)
        rw [Nat.add_zero] at w0
        obtain ⟨ea, ec, eda, _⟩ := isI_form HDAT.out
        rw [eda] at w2 HDAT
        generalize hpl : (pd us m P a).length = pl at w2 HDAT eda
        have HPL := Lib.hid hpl
        clear hrows hdat bg id hq hpl eda hBg hgl
        go_wp2_with fail
        refine (put_bk da dc us n m a P _ HN.out (HID.out.below J) hln hm1 hm3 HC.out hlt).mono ?_
        rintro e w5 ⟨va1, vc1, pn, rfl, hpn, hi1, hno, hb⟩
        have J5 : Below wr.heap.size wr w5 := q_step J hb
        have HI1 := Lib.hid hi1
        have HPN := Lib.hid hpn
        replace J := J5
        clear J5 hb hpn hi1 hno
        go_upto_region 13 with fail
        refine code_world (fun W => Below wr.heap.size wr W ∧ Blk W w5.heap.size [.bool (readA (pk P a)), i6 (pt n P a), .slice va1 pn vc1, .bool (readB (pk P a))] ∧ IsI W (.slice va1 pn vc1) (pd us m P a)) ⟨by (repeat' (first | with_reducible exact Below.refl _ _ | with_reducible assumption | with_reducible refine q_alloc ?_ _ | with_reducible refine q_drew ?_ | with_reducible refine q_drewN _ ?_ | with_reducible refine q_setCell ?_ ?_ _ | (left; simp; done) | (right; simp; done) | (right; dsimp only; omega) | (left; dsimp only; omega))), Blk.new rfl, HI1.out.below (by (repeat' (first | with_reducible exact Below.refl _ _ | with_reducible assumption | with_reducible refine q_alloc ?_ _ | with_reducible refine q_drew ?_ | with_reducible refine q_drewN _ ?_ | with_reducible refine q_setCell ?_ ?_ _ | (left; simp; done) | (right; simp; done) | (right; dsimp only; omega) | (left; dsimp only; omega))))⟩ ?_
        intro W6 ⟨J6, p6, i6'⟩
        generalize w5.heap.size = pb at p6 ⊢
        have xg0 := fun W h => g0 W (q_step J6 h)
        have xg1 := fun W h => g1 W (q_step J6 h)
        have xg2 := fun W h => g2 W (q_step J6 h)
        have xg3 := fun W h => g3 W (q_step J6 h)
        have xw0 := fun W h => w0 W (q_step J6 h)
        have xw1 := fun W h => w1 W (q_step J6 h)
        have xw2 := fun W h => w2 W (q_step J6 h)
        have xw3 := fun W h => w3 W (q_step J6 h)
        have p0 := stick (p6.cell 0 rfl)
        have p1 := stick (p6.cell 1 rfl)
        have p2 := stick (p6.cell 2 rfl)
        have p3 := stick (p6.cell 3 rfl)
        have HI6 := Lib.hid i6'
        have HJ6 := Lib.hid J6
        have hPa : decide ((P : Int) ≤ (a : Int)) = false := decide_eq_false (by omega)
        have HPA := Lib.hid hPa
        have hax : a < P := hlt
        clear g0 g1 g2 g3 w0 w1 w2 w3 J J6 HI1 i6' p6 hPa
        have J : Below W6.heap.size W6 W6 := Below.refl _ _
        go_cut [62] from 36 to 64 (fun s wx => s = .bool false ∧ Below W6.heap.size W6 wx)
        case first =>
          go_region_held3 (fun w' => Below W6.heap.size W6 w')
            (first | with_reducible exact J | with_reducible exact J.drew | ((repeat' (first | with_reducible exact Below.refl _ _ | with_reducible assumption | with_reducible refine q_alloc ?_ _ | with_reducible refine q_drew ?_ | with_reducible refine q_drewN _ ?_ | with_reducible refine q_setCell ?_ ?_ _ | (left; simp; done) | (right; simp; done) | (right; dsimp only; omega) | (left; dsimp only; omega))); done))
            (first
              | (go_at_call 14; refine (done_any (.slice da n dc) m a P _).mono ?_; rintro e w7 ⟨rfl, hb⟩; rw [HPA.out]; have J5 : Below W6.heap.size W6 w7 := q_step (by first | with_reducible exact J | with_reducible exact J.drew | ((repeat' (first | with_reducible exact Below.refl _ _ | with_reducible assumption | with_reducible refine q_alloc ?_ _ | with_reducible refine q_drew ?_ | with_reducible refine q_drewN _ ?_ | with_reducible refine q_setCell ?_ ?_ _ | (left; simp; done) | (right; simp; done) | (right; dsimp only; omega) | (left; dsimp only; omega))); done)) hb; replace J := J5; clear J5 hb)
              | (go_at_call 16; refine (of_any _ _ (.slice va1 pn vc1) _ _ ⟨_, _, _, rfl⟩).mono ?_; rintro e w7 ⟨rfl, hb⟩; have J5 : Below W6.heap.size W6 w7 := q_step (by first | with_reducible exact J | with_reducible exact J.drew | ((repeat' (first | with_reducible exact Below.refl _ _ | with_reducible assumption | with_reducible refine q_alloc ?_ _ | with_reducible refine q_drew ?_ | with_reducible refine q_drewN _ ?_ | with_reducible refine q_setCell ?_ ?_ _ | (left; simp; done) | (right; simp; done) | (right; dsimp only; omega) | (left; dsimp only; omega))); done)) hb; replace J := J5; clear J5 hb)
              | (go_at_call 15; refine (sameP_any _ _ (.slice va1 pn vc1) (.slice ea pl ec) _ (pd us m P a) _ (HI6.out.below (by first | with_reducible exact J | with_reducible exact J.drew | ((repeat' (first | with_reducible exact Below.refl _ _ | with_reducible assumption | with_reducible refine q_alloc ?_ _ | with_reducible refine q_drew ?_ | with_reducible refine q_drewN _ ?_ | with_reducible refine q_setCell ?_ ?_ _ | (left; simp; done) | (right; simp; done) | (right; dsimp only; omega) | (left; dsimp only; omega))); done))) (HDAT.out.below (q_step HQ.out (q_step HJ6.out (by first | with_reducible exact J | with_reducible exact J.drew | ((repeat' (first | with_reducible exact Below.refl _ _ | with_reducible assumption | with_reducible refine q_alloc ?_ _ | with_reducible refine q_drew ?_ | with_reducible refine q_drewN _ ?_ | with_reducible refine q_setCell ?_ ?_ _ | (left; simp; done) | (right; simp; done) | (right; dsimp only; omega) | (left; dsimp only; omega))); done))))) (by have := pd_le us m P a; have := HN.out; omega)).mono ?_; rintro e w7 ⟨rfl, hb⟩; have J5 : Below W6.heap.size W6 w7 := q_step (by first | with_reducible exact J | with_reducible exact J.drew | ((repeat' (first | with_reducible exact Below.refl _ _ | with_reducible assumption | with_reducible refine q_alloc ?_ _ | with_reducible refine q_drew ?_ | with_reducible refine q_drewN _ ?_ | with_reducible refine q_setCell ?_ ?_ _ | (left; simp; done) | (right; simp; done) | (right; dsimp only; omega) | (left; dsimp only; omega))); done)) hb; replace J := J5; clear J5 hb))
          all_goals (go_wp2_with fail; go_meet; exact ⟨by first | rfl | (simp; done), by (repeat' (first | with_reducible exact Below.refl _ _ | with_reducible assumption | with_reducible refine q_alloc ?_ _ | with_reducible refine q_drew ?_ | with_reducible refine q_drewN _ ?_ | with_reducible refine q_setCell ?_ ?_ _ | (left; simp; done) | (right; simp; done) | (right; dsimp only; omega) | (left; dsimp only; omega)))⟩)
        case rest =>
          obtain ⟨rfl, J4⟩ := hcut
          obtain ⟨W7, rfl⟩ : ∃ W : World, W = wc := ⟨_, rfl⟩
          replace J := J4
          clear J4 p0 p1 p2 p3 xw0 xw1 xw2 xw3
          have hga : goneA (a : Int) (P : Int) = (a : Int) + 1 := by unfold goneA; rw [if_neg (by omega)]
          have HGA := Lib.hid hga
          clear hga
          go_wp2_with fail
          refine (gone_any da n dc m a P _ (by omega) (by omega)).mono ?_
          rintro e w8 ⟨rfl, hb⟩
          rw [HGA.out]
          have J5 : Below wr.heap.size wr w8 := q_step HJ6.out (q_step J hb)
          have bg8 := HBG.out.below J5
          have d0 := bg8.cell 0 rfl
          have d1 := bg8.cell 1 rfl
          have d2 := bg8.cell 2 rfl
          have d3 := bg8.cell 3 rfl
          have f0 := bg8.froz 0 rfl
          have f1 := bg8.froz 1 rfl
          have f2 := bg8.froz 2 rfl
          have f3 := bg8.froz 3 rfl
          have HJ8 := Lib.hid J5
          clear xg0 xg1 xg2 xg3 J J5 hb bg8
          go_wp2_with fail
          go_roundw
          case rel => exact ⟨a + 1, by omega, by go_num, gives_end (HBG.out.below HJ8.out) (HID.out.below HJ8.out) HA1.out (HPS1.out.below HJ8.out) hgB hgz (q_step HQ.out HJ8.out)⟩
          case measure => simp [intOf] <;> omega
      · obtain rfl : a = P := by omega
        clear bg id ips hq
        have hdd : decide ((a : Int) ≤ (a : Int)) = true := decide_eq_true (Int.le_refl _)
        have HDD := Lib.hid hdd
        have hga : goneA (a : Int) (a : Int) = (a : Int) := by unfold goneA; rw [if_pos (Int.le_refl _)]
        have HGA := Lib.hid hga
        clear hdd hga
        go_wp2_with fail
        refine (put_end da dc us n m a _ HN.out (HID.out.below J)).mono ?_
        rintro e w5 ⟨rfl, hb⟩
        have J5 : Below wr.heap.size wr w5 := q_step J hb
        replace J := J5
        clear J5 hb
        go_upto_region 17 with fail
        refine code_world (fun W => Below wr.heap.size wr W ∧ Blk W w5.heap.size [.bool false, i6 0, .slice none 0 0, .bool false]) ⟨by (repeat' (first | with_reducible exact Below.refl _ _ | with_reducible assumption | with_reducible refine q_alloc ?_ _ | with_reducible refine q_drew ?_ | with_reducible refine q_drewN _ ?_ | with_reducible refine q_setCell ?_ ?_ _ | (left; simp; done) | (right; simp; done) | (right; dsimp only; omega) | (left; dsimp only; omega))), Blk.new rfl⟩ ?_
        intro W6 ⟨J6, p6⟩
        generalize w5.heap.size = pb at p6 ⊢
        replace J := J6
        clear J6
        have HP6 := Lib.hid p6
        clear p6
        go_wp2_with fail
        refine (done_any (.slice da n dc) m a a _).mono ?_
        rintro e w7 ⟨rfl, hb⟩
        rw [HDD.out]
        have J5 : Below wr.heap.size wr w7 := q_step J hb
        have p7 := HP6.out.below hb
        replace J := J5
        have p0 := p7.cell 0 rfl
        have p1 := p7.cell 1 rfl
        have p2 := p7.cell 2 rfl
        have p3 := p7.cell 3 rfl
        clear J5 hb p7 HP6
        go_wp2_with fail
        refine (of_any false 0 (.slice none 0 0) false _ ⟨_, _, _, rfl⟩).mono ?_
        rintro e w8 ⟨rfl, hb⟩
        have J5 : Below wr.heap.size wr w8 := q_step J hb
        replace J := J5
        clear J5 hb p0 p1 p2 p3
        go_wp2_with fail
        refine (sameP_any false 0 (.slice none 0 0) (.slice none 0 0) false [] _ (isI_zero _) (isI_zero _) (by simp)).mono ?_
        rintro e w9 ⟨rfl, hb⟩
        have J5 : Below wr.heap.size wr w9 := q_step J hb
        replace J := J5
        clear J5 hb
        go_wp2_with fail
        refine (gone_any da n dc m a a _ (by omega) (by omega)).mono ?_
        rintro e w10 ⟨rfl, hb⟩
        rw [HGA.out]
        have J5 : Below wr.heap.size wr w10 := q_step J hb
        replace J := J5
        clear J5 hb
        go_wp2_with fail
        refine (done_any (.slice da n dc) m a a _).mono ?_
        rintro e w11 ⟨rfl, hb⟩
        rw [HDD.out]
        have J5 : Below wr.heap.size wr w11 := q_step J hb
        replace J := J5
        clear J5 hb
        go_wp2_with fail
        refine (awake42 _).mono ?_
        rintro e w12 ⟨rfl, hb⟩
        go_wp2_with fail
        go_returns
        exact ⟨by first | rfl | (simp; done), q_step HQ.out (q_step J hb)⟩
end Go.Proofs.Ytlaejolgjchfcaa
