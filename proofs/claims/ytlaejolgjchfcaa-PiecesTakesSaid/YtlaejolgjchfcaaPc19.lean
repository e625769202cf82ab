/- Layer 42: PiecesWhole's walk. -/
import Derived.Test.YtlaejolgjchfcaaPc18
import Derived.Test.YtlaejolgjchfcaaPc6
import Derived.Test.YtlaejolgjchfcaaInts2
import Derived.IntWalk
import Derived.Deep.CutRange
namespace Go.Proofs.Ytlaejolgjchfcaa
open Go Go.RowKit Go.Maps
set_option linter.unusedSimpArgs false
set_option linter.unusedVariables false
theorem ints_cell {w : World} {k : IntKind} {a : Option Addr} {n cap : Nat} {us : List Int} (h : IsInts w k (.slice a n cap) us) (hn : us.length = n) (h0 : 0 < n) :
    ∃ b off, a = some ⟨b, off, none⟩ ∧ b < w.heap.size ∧ ∀ (j : Nat) (u : Int), us[j]? = some u → w.cell? ⟨b, off + j, none⟩ = some (.int k u) := by
  rcases h with ⟨_, _, e, rfl⟩ | ⟨b, off, cap', e, h1, h2, h3, h4, h5⟩
  · simp at hn; omega
  · simp only [Value.slice.injEq] at e
    refine ⟨b, off, e.1, h4, fun j u hj => ?_⟩
    have hl := (List.getElem?_eq_some_iff.1 hj).1
    rw [h5 j hl, List.getD_eq_getElem?_getD, hj]; rfl
theorem take_more {us : List Int} {k : Nat} {u : Int} (h : us[k]? = some u) : (us.map i6).take (k + 1) = (us.map i6).take k ++ [i6 u] := by
  rw [List.take_add_one, List.getElem?_map, h]; rfl
theorem nums_all {us : List Int} (h : ∀ u ∈ us, 0 ≤ u ∧ u ≤ 4294967295) : numsB us = true := by
  unfold numsB
  rw [List.all_eq_true]
  intro x hx
  have := h x hx
  unfold okN
  simp [this.1, this.2]
theorem put_end (da : Option Addr) (dc : Nat) (us : List Int) (k m a : Nat) (w : World) (hk : us.length = k) (hv : IsI w (.slice da k dc) us) :
    Calls Try.prog 13 #[gV (.slice da k dc) m a a] w fun e w' => e = .returned (.tuple #[pV false 0 (.slice none 0 0) false, .bool false]) ∧ Below w.heap.size w w' := by
  subst hk
  exact put_done da dc us m a a w hv (Nat.le_refl _)
theorem round_end {w W : World} {gb kb k m a P kn kn' : Nat} {da ka va ka' : Option Addr} {dc vc kc kc' : Nat} {s t s' t' : Int} {us ds : List Int} (hgk : ¬ gb = kb)
    (hg : Blk W gb [.slice da k dc, i6 m, i6 a, i6 P]) (hk : Blk W kb [i6 s, i6 t, .slice ka kn kc]) (hi : IsI W (.slice ka' kn' kc') ds) (ag : Apart gb (.slice ka' kn' kc') ds) (ak : Apart kb (.slice ka' kn' kc') ds)
    (hd : IsI W (.slice da k dc) us) (dg : Apart gb (.slice da k dc) us) (dk : Apart kb (.slice da k dc) us) (hv : IsI W (.slice va k vc) us) (vg : Apart gb (.slice va k vc) us) (vk : Apart kb (.slice va k vc) us) (zg : w.heap.size ≤ gb) (zk : w.heap.size ≤ kb) (hq : Below w.heap.size w W) :
    (fun wx => Blk wx gb [.slice da k dc, i6 m, i6 ((a + 1 : Nat) : Int), i6 P] ∧ Blk wx kb [i6 s', i6 t', .slice ka' kn' kc'] ∧ IsI wx (.slice ka' kn' kc') ds ∧ Apart gb (.slice ka' kn' kc') ds ∧ Apart kb (.slice ka' kn' kc') ds ∧ IsI wx (.slice da k dc) us ∧ IsI wx (.slice va k vc) us ∧ Below w.heap.size w wx)
      (((((((W.setCell ⟨kb, 0, none⟩ (i6 s')).setCell ⟨kb, 1, none⟩ (i6 t')).setCell ⟨kb, 2, none⟩ (.slice ka' kn' kc')).setCell ⟨gb, 0, none⟩ (.slice da k dc)).setCell ⟨gb, 1, none⟩ (i6 m)).setCell ⟨gb, 2, none⟩ (i6 ((a : Int) + 1))).setCell ⟨gb, 3, none⟩ (i6 P)) := by
  have hkg : kb ≠ gb := fun e => hgk e.symm
  have all : ∀ {v : Value} {xs : List Int}, IsI W v xs → Apart gb v xs → Apart kb v xs → IsI (((((((W.setCell ⟨kb, 0, none⟩ (i6 s')).setCell ⟨kb, 1, none⟩ (i6 t')).setCell ⟨kb, 2, none⟩ (.slice ka' kn' kc')).setCell ⟨gb, 0, none⟩ (.slice da k dc)).setCell ⟨gb, 1, none⟩ (i6 m)).setCell ⟨gb, 2, none⟩ (i6 ((a : Int) + 1))).setCell ⟨gb, 3, none⟩ (i6 P)) v xs :=
    fun h h1 h2 => ((((((h.setA h2 0 _).setA h2 1 _).setA h2 2 _).setA h1 0 _).setA h1 1 _).setA h1 2 _).setA h1 3 _
  refine ⟨?_, ?_, all hi ag ak, ag, ak, all hd dg dk, all hv vg vk, ?_⟩
  · exact (((((((hg.set_far (p := ⟨kb, 0, none⟩) hkg _).set_far (p := ⟨kb, 1, none⟩) hkg _).set_far (p := ⟨kb, 2, none⟩) hkg _).set 0 _ (by simp) rfl).set 1 _ (by simp) rfl).set 2 _ (by simp) rfl).set 3 _ (by simp) rfl)
  · exact (((((((hk.set 0 _ (by simp) rfl).set 1 _ (by simp) rfl).set 2 _ (by simp) rfl).set_far (p := ⟨gb, 0, none⟩) hgk _).set_far (p := ⟨gb, 1, none⟩) hgk _).set_far (p := ⟨gb, 2, none⟩) hgk _).set_far (p := ⟨gb, 3, none⟩) hgk _)
  · exact q_setCell (q_setCell (q_setCell (q_setCell (q_setCell (q_setCell (q_setCell hq (Or.inr zk) _) (Or.inr zk) _) (Or.inr zk) _) (Or.inr zg) _) (Or.inr zg) _) (Or.inr zg) _) (Or.inr zg) _
set_option maxRecDepth 100000 in
set_option maxHeartbeats 16000000 in
theorem lwhole_any (A : Option Addr) (n cap : Nat) (us : List Int) (most : Int) (w : World) (hv : IsInts w .u32 (.slice A n cap) us) (hn : us.length = n) (hu : ∀ u ∈ us, 0 ≤ u ∧ u ≤ 4294967295) (hm : 0 ≤ most ∧ most ≤ 65535) :
    Calls Try.prog 7 #[.slice A n cap, .int .u16 most] w fun e w' => e = .returned (.bool true) ∧ Below w.heap.size w w' := by
  have HV := Lib.hid hv
  have HU := Lib.hid hu
  have HN := Lib.hid hn
  have HM := Lib.hid hm
  clear hv hu hn hm
  by_cases hl : 400 < n
  · have hl' : (400 : Int) < n := by omega
    go_enter Try.func7, Try.ntmps7
    go_wp2_with fail
    refine (awake42 _).mono ?_
    rintro e w1 ⟨rfl, hb⟩
    go_wp2_with fail
    go_returns
    exact ⟨by first | rfl | (simp; done), hb⟩
  have hl' : ¬ (400 : Int) < n := by omega
  have hln : n ≤ 400 := by omega
  obtain ⟨i0, hi, hz0, hz1, hz2⟩ := info_parts info_i64
  go_enter Try.func7, Try.ntmps7
  go_wp2_with fail
  go_loopw [5, 6] (fun v i wr => ∃ k : Nat, k ≤ n ∧ i = .int .i64 k ∧ wr.ownsRow w.heap.size 2 1 v k ((us.map i6).take k) ∧ Below w.heap.size w wr)
    (fun _ i _ => n - (intOf i).toNat)
  case atStart => exact ⟨0, Nat.zero_le _, rfl, World.ownsRow_nil _ _ _ _, Below.refl _ _⟩
  case round =>
    obtain ⟨k, hk, rfl, hown, hq⟩ := hrel
    by_cases hlt : k < n
    · have hki : (k : Int) < n := by omega
      obtain ⟨b, off, rfl, hbl, hcs⟩ := ints_cell HV.out HN.out (by omega)
      obtain ⟨u, hx⟩ : ∃ u, us[k]? = some u := ⟨_, List.getElem?_eq_getElem (by rw [HN.out]; exact hlt)⟩
      have hub := HU.out u (List.mem_of_getElem? hx)
      have y0 := cell_below hq (hcs k u hx)
      have HX := Lib.hid hx
      have r1 : IntKind.i64.wrap u = u := IntWalk.i64_in _ (by omega)
      obtain ⟨hu0, hu1⟩ := hub
      clear hcs hx
      go_wp2_with (first
        | (at_builtin; refine wpList_append_own _ rfl _ _ 22 rfl w.heap.size 2 i0 (i6 0) 1 8 und_i64s hi hz0 hz1 hz2 rfl (by decide) _ _ _ rfl (hown.alloc _) ⟨wr.heap.size, 0, none⟩ 1 1 [i6 u] rfl rfl ?c1 ?c2 ?c3 ?c4 ?c5 ?_))
      case c1 =>
        intro j z hj
        match j, hj with
        | 0, hj => simp at hj; subst hj; exact cell_new rfl
      case c2 => intro z hz; simp at hz; subst hz; rfl
      case c3 => unfold maxLen; omega
      case c4 => omega
      case c5 => have := hq.size; simp; omega
      intro v' w1 hown' hgrow _
      have hb1 : Below w.heap.size w w1 := (hq.alloc hq.size _).grown hgrow (by have := hq.size; simp; omega) (fun j hj => (hown.lt j hj).1)
      have hown2 : w1.ownsRow w.heap.size 2 1 v' (k + 1) ((us.map i6).take (k + 1)) := by
        rw [take_more HX.out]; exact hown'
      clear hown' hgrow hown hq y0
      go_wp2_with fail
      go_roundw
      case rel => exact ⟨k + 1, by omega, by go_num, hown2, hb1⟩
      case measure => simp [intOf] <;> omega
    · obtain rfl : k = n := by omega
      have hown2 : OwnL wr w.heap.size u5 us := by
        rw [List.take_of_length_le (by rw [List.length_map, HN.out]; exact Nat.le_refl _)] at hown
        unfold OwnL
        rw [HN.out]
        exact hown
      have hi1 := ownL_is hown2
      clear hown hown2
      obtain ⟨va, vc, rfl, _⟩ := isI_form hi1
      have HI1 := Lib.hid hi1
      clear hi1
      rw [HN.out] at HI1 ⊢
      have hm := HM.out
      have q1 : most.tmod 300 = most % 300 := Int.tmod_eq_emod_of_nonneg hm.1
      obtain ⟨m, hmm⟩ : ∃ m : Nat, 1 + most % 300 = (m : Int) := ⟨(1 + most % 300).toNat, by omega⟩
      have hm1 : 1 ≤ m := by omega
      have hm3 : m ≤ 300 := by omega
      have q2 : IntKind.u16.wrap (most % 300) = most % 300 := by simp only [IntKind.wrap, IntKind.bits, IntKind.signed]; simp; omega
      have q3 : IntKind.i64.wrap (most % 300) = most % 300 := IntWalk.i64_in _ (by omega)
      have q4 : IntKind.i64.wrap (1 + most % 300) = (m : Int) := (IntWalk.i64_in _ (by omega)).trans hmm
      have q5 : ¬ (300 : Int) = 0 := by decide
      have HMM := Lib.hid hmm
      clear hmm
      obtain ⟨qm0, qm1⟩ := hm
      go_wp2_with fail
      have hnb := nums_all HU.out
      have HNB := Lib.hid hnb
      clear hnb
      refine (new_any _ us (m : Int) _ HI1.out (by omega) (by omega) (by rw [HN.out]; omega)).mono ?_
      rintro e w2 ⟨hor, hb⟩
      rcases hor with ⟨hbad, _⟩ | ⟨_, dv, rfl, hid⟩
      · rw [HNB.out] at hbad; simp at hbad
      obtain ⟨da, dc, rfl, _⟩ := isI_form hid
      obtain ⟨P, hP, hcnt⟩ := cnt_of us.length m hm1
      rw [hP]
      rw [HN.out] at hcnt hid ⊢
      have hcl := cnt_le hm1 hcnt
      have HC := Lib.hid hcnt
      have HID := Lib.hid hid
      have hqa := q_step hq hb
      have HI2 := Lib.hid (HI1.out.below hb)
      have hap1 : ∀ r, w2.heap.size ≤ r → Apart r (.slice da k dc) us := fun r hr => apart_old HID.out hr
      have hap2 : ∀ r, w2.heap.size ≤ r → Apart r (.slice va k vc) us := fun r hr => apart_old HI2.out hr
      have HAD := Lib.hid hap1
      have HAV := Lib.hid hap2
      clear hP hcnt hid hq hb HI1 q1 q2 q3 q4 q5 hap1 hap2
      go_wp2_with fail
      refine code_world (fun W => Below w.heap.size w W ∧ Blk W w2.heap.size [.slice da k dc, i6 m, i6 0, i6 P] ∧ Blk W (w2.heap.size + 1) [i6 0, i6 0, .slice none 0 0] ∧ IsI W (.slice da k dc) us ∧ IsI W (.slice va k vc) us) ⟨by (repeat' (first | with_reducible exact Below.refl _ _ | with_reducible assumption | with_reducible refine q_alloc ?_ _ | with_reducible refine q_drew ?_ | with_reducible refine q_drewN _ ?_ | with_reducible refine q_setCell ?_ ?_ _ | (left; simp; done) | (right; simp; done) | (right; dsimp only; omega) | (left; dsimp only; omega))), (Blk.new rfl).alloc _, blk_new1 rfl, HID.out.below (by (repeat' (first | with_reducible exact Below.refl _ _ | with_reducible assumption | with_reducible refine q_alloc ?_ _ | with_reducible refine q_drew ?_ | with_reducible refine q_drewN _ ?_ | with_reducible refine q_setCell ?_ ?_ _ | (left; simp; done) | (right; simp; done) | (right; dsimp only; omega) | (left; dsimp only; omega)))), HI2.out.below (by (repeat' (first | with_reducible exact Below.refl _ _ | with_reducible assumption | with_reducible refine q_alloc ?_ _ | with_reducible refine q_drew ?_ | with_reducible refine q_drewN _ ?_ | with_reducible refine q_setCell ?_ ?_ _ | (left; simp; done) | (right; simp; done) | (right; dsimp only; omega) | (left; dsimp only; omega))))⟩ ?_
      intro W3 ⟨J3, c1, c2, i1, i2⟩
      have hgz : w.heap.size ≤ w2.heap.size := hqa.size
      have ad1 := HAD.out w2.heap.size (Nat.le_refl _)
      have ad2 := HAD.out (w2.heap.size + 1) (Nat.le_succ _)
      have av1 := HAV.out w2.heap.size (Nat.le_refl _)
      have av2 := HAV.out (w2.heap.size + 1) (Nat.le_succ _)
      have hkz : w.heap.size ≤ w2.heap.size + 1 := Nat.le_succ_of_le hgz
      have hgk : ¬ w2.heap.size = w2.heap.size + 1 := by omega
      generalize w2.heap.size + 1 = kb at c2 ad2 av2 hkz hgk ⊢
      generalize w2.heap.size = gb at c1 ad1 av1 hgz hgk ⊢
      have HA1 := Lib.hid ad1
      have HA2 := Lib.hid ad2
      have HB1 := Lib.hid av1
      have HB2 := Lib.hid av2
      have hkg : ¬ kb = gb := fun e => hgk e.symm
      have hPk : P ≤ k + 2 := hcl.2.1
      have hP1 : 1 ≤ P := hcl.1
      clear hqa HID HI2 HAD HAV ad1 ad2 av1 av2 hcl
      go_loopw [10] (fun i wr => ∃ (a kn : Nat) (ka : Option Addr) (kc : Nat), a ≤ P ∧ i = .int .i64 a ∧ kn = (stD us m P a).length ∧ Blk wr gb [.slice da k dc, i6 m, i6 a, i6 P] ∧ Blk wr kb [i6 (stS P a), i6 (stT k P a), .slice ka kn kc] ∧ IsI wr (.slice ka kn kc) (stD us m P a) ∧ Apart gb (.slice ka kn kc) (stD us m P a) ∧ Apart kb (.slice ka kn kc) (stD us m P a) ∧ IsI wr (.slice da k dc) us ∧ IsI wr (.slice va k vc) us ∧ Below w.heap.size w wr)
        (fun i _ => P - (intOf i).toNat)
      case atStart => exact ⟨0, 0, none, 0, Nat.zero_le _, rfl, rfl, c1, c2, Or.inl ⟨_, _, rfl, rfl⟩, Or.inl rfl, Or.inl rfl, i1, i2, J3⟩
      case round =>
        clear c1 c2 i1 i2 J3
        obtain ⟨a, kn, ka, kc, ha, rfl, hkn, bg, bk, ik, ag, ak, id, iv, hq⟩ := hrel
        have HKN := Lib.hid hkn
        have HBG := Lib.hid bg
        have HBK := Lib.hid bk
        have HIK := Lib.hid ik
        have HAG := Lib.hid ag
        have HAK := Lib.hid ak
        have HID := Lib.hid id
        have HIV := Lib.hid iv
        have HQ := Lib.hid hq
        have g0 := stick (bg.cell 0 rfl)
        have g1 := stick (bg.cell 1 rfl)
        have g2 := stick (bg.cell 2 rfl)
        have g3 := stick (bg.cell 3 rfl)
        have k0 := stick (bk.cell 0 rfl)
        have k1 := stick (bk.cell 1 rfl)
        have k2 := stick (bk.cell 2 rfl)
        have zg := bg.lt
        have zk := bk.lt
        have hin : (a : Int) ≤ (k : Int) + 2 := by omega
        have J : Below wr.heap.size wr wr := Below.refl _ _
        clear hkn bg bk ik ag ak id iv hq
        by_cases hlt : a < P
        · skip
          have hPa : ¬ (P : Int) ≤ (a : Int) := by omega
          have hs2 := stS_lt hlt
          go_wp2_with fail
          refine (put_k da dc us k m a P _ HN.out (HID.out.below J) hln hm1 hm3 HC.out hlt).mono ?_
          rintro e w5 ⟨va1, vc1, pn, rfl, hpn, hi1, hno, hb⟩
          have J5 : Below wr.heap.size wr w5 := q_step (by first | with_reducible exact J | with_reducible exact J.drew | ((repeat' (first | with_reducible exact Below.refl _ _ | with_reducible assumption | with_reducible refine q_alloc ?_ _ | with_reducible refine q_drew ?_ | with_reducible refine q_drewN _ ?_ | with_reducible refine q_setCell ?_ ?_ _ | (left; simp; done) | (right; simp; done) | (right; dsimp only; omega) | (left; dsimp only; omega))); done)) hb
          have HPN := Lib.hid hpn
          have HI1 := Lib.hid hi1
          have HNO := Lib.hid hno
          clear hpn hi1 hno
          replace J := J5
          clear J5 hb
          go_upto_region 16 with fail
          refine code_world (fun W => Below wr.heap.size wr W ∧ Blk W w5.heap.size [.bool (readA (pk P a)), i6 (pt k P a), .slice va1 pn vc1, .bool (readB (pk P a))] ∧ IsI W (.slice va1 pn vc1) (pd us m P a)) ⟨by (repeat' (first | with_reducible exact Below.refl _ _ | with_reducible assumption | with_reducible refine q_alloc ?_ _ | with_reducible refine q_drew ?_ | with_reducible refine q_drewN _ ?_ | with_reducible refine q_setCell ?_ ?_ _ | (left; simp; done) | (right; simp; done) | (right; dsimp only; omega) | (left; dsimp only; omega))), Blk.new rfl, HI1.out.below (by (repeat' (first | with_reducible exact Below.refl _ _ | with_reducible assumption | with_reducible refine q_alloc ?_ _ | with_reducible refine q_drew ?_ | with_reducible refine q_drewN _ ?_ | with_reducible refine q_setCell ?_ ?_ _ | (left; simp; done) | (right; simp; done) | (right; dsimp only; omega) | (left; dsimp only; omega))))⟩ ?_
          intro W6 ⟨J5, p6, i6⟩
          clear J
          have J := J5
          clear J5
          generalize w5.heap.size = pb at p6 ⊢
          clear HI1 w5
          have HI1 := Lib.hid i6
          have HP6 := Lib.hid p6
          clear i6 p6
          go_wp2_with fail
          refine (data_k _ _ ka kn kc _ _ HKN.out (HIK.out.below J) (by have := stD_le us m P a; have := HN.out; omega)).mono ?_
          rintro e w7 ⟨xa7, xc7, rfl, _, hb⟩
          have p7 := HP6.out.below hb
          have i7 := HI1.out.below hb
          have J5 : Below wr.heap.size wr w7 := q_step J hb
          replace J := J5
          have p0 := p7.cell 0 rfl
          have p1 := p7.cell 1 rfl
          have p2 := p7.cell 2 rfl
          have p3 := p7.cell 3 rfl
          have HP7 := Lib.hid p7
          have HI7 := Lib.hid i7
          clear J5 hb p7 i7 HP6 HI1 W6
          go_wp2_with fail
          refine (done_any (.slice da k dc) m a P _).mono ?_
          rintro e w8 ⟨rfl, hb⟩
          rw [decide_eq_false (show ¬ (P : Int) ≤ (a : Int) by omega)]
          have p8 := HP7.out.below hb
          have i8 := HI7.out.below hb
          have J5 : Below wr.heap.size wr w8 := q_step J hb
          replace J := J5
          clear p0 p1 p2 p3
          have p0 := p8.cell 0 rfl
          have p1 := p8.cell 1 rfl
          have p2 := p8.cell 2 rfl
          have p3 := p8.cell 3 rfl
          have HI8 := Lib.hid i8
          clear J5 hb p8 i8 HP7 HI7
          go_wp2_with fail
          refine (code_k us k m P a va1 pn vc1 _ HN.out HPN.out hm1 hm3 hln HNB.out HC.out hlt HI8.out HNO.out).mono ?_
          rintro e w9 ⟨v9, rfl, hi9, hb⟩
          have J5 : Below wr.heap.size wr w9 := q_step J hb
          replace J := J5
          have HI9 := Lib.hid hi9
          clear J5 hb p0 p1 p2 p3 hi9 HI8
          go_wp2_with fail
          refine (read_k us k m P a v9 _ HN.out hm1 hm3 hln HNB.out HC.out hlt HI9.out).mono ?_
          rintro e w10 ⟨xa, qn, xc, rfl, hi10, hb⟩
          have J5 : Below wr.heap.size wr w10 := q_step J hb
          replace J := J5
          have HI10 := Lib.hid hi10
          clear J5 hb hi10 HI9
          go_upto_region 21 with fail
          refine code_world (fun W => Below wr.heap.size wr W ∧ Blk W w10.heap.size [.bool (readA (pk P a)), i6 (pt k P a), .slice xa qn xc, .bool (readB (pk P a))] ∧ IsI W (.slice xa qn xc) (pd us m P a)) ⟨by (repeat' (first | with_reducible exact Below.refl _ _ | with_reducible assumption | with_reducible refine q_alloc ?_ _ | with_reducible refine q_drew ?_ | with_reducible refine q_drewN _ ?_ | with_reducible refine q_setCell ?_ ?_ _ | (left; simp; done) | (right; simp; done) | (right; dsimp only; omega) | (left; dsimp only; omega))), Blk.new rfl, HI10.out.below (by (repeat' (first | with_reducible exact Below.refl _ _ | with_reducible assumption | with_reducible refine q_alloc ?_ _ | with_reducible refine q_drew ?_ | with_reducible refine q_drewN _ ?_ | with_reducible refine q_setCell ?_ ?_ _ | (left; simp; done) | (right; simp; done) | (right; dsimp only; omega) | (left; dsimp only; omega))))⟩ ?_
          intro W11 ⟨J5, p11, i11⟩
          clear J
          have J := J5
          clear J5
          clear HI10
          generalize w10.heap.size = qb at p11 ⊢
          have p0 := p11.cell 0 rfl
          have p1 := p11.cell 1 rfl
          have p2 := p11.cell 2 rfl
          have p3 := p11.cell 3 rfl
          go_wp2_with fail
          refine (got_k us k m P a ka kn kc (.slice xa qn xc) _ HN.out HKN.out hm1 hm3 hln HNB.out HC.out hlt (HIK.out.below J) i11).mono ?_
          rintro e w12 ⟨ya, yn, yc, rfl, hyn, hi12, HAP, hb⟩
          have J5 : Below wr.heap.size wr w12 := q_step J hb
          have zw := J.size
          have HAG2 := Lib.hid (HAP.out gb (by omega) HAG.out)
          have HAK2 := Lib.hid (HAP.out kb (by omega) HAK.out)
          replace J := J5
          have HI12 := Lib.hid hi12
          have HYN := Lib.hid hyn
          clear J5 hb hi12 hyn i11 p11 HAP zw p0 p1 p2 p3
          go_upto_region 22 with fail
          have zj : wr.heap.size ≤ w12.heap.size := J.size
          refine code_world (fun W => Below wr.heap.size wr W ∧ Blk W w12.heap.size [i6 (stS P (a + 1)), i6 (stT k P (a + 1)), .slice ya yn yc] ∧ IsI W (.slice ya yn yc) (stD us m P (a + 1))) ⟨by (repeat' (first | with_reducible exact Below.refl _ _ | with_reducible assumption | with_reducible refine q_alloc ?_ _ | with_reducible refine q_drew ?_ | with_reducible refine q_drewN _ ?_ | with_reducible refine q_setCell ?_ ?_ _ | (left; simp; done) | (right; simp; done) | (right; dsimp only; omega) | (left; dsimp only; omega))), Blk.new rfl, HI12.out.below (by (repeat' (first | with_reducible exact Below.refl _ _ | with_reducible assumption | with_reducible refine q_alloc ?_ _ | with_reducible refine q_drew ?_ | with_reducible refine q_drewN _ ?_ | with_reducible refine q_setCell ?_ ?_ _ | (left; simp; done) | (right; simp; done) | (right; dsimp only; omega) | (left; dsimp only; omega))))⟩ ?_
          intro W13 ⟨J5, j13, i13⟩
          clear J
          have J := J5
          clear J5
          generalize w12.heap.size = jb at j13 zj ⊢
          have n1 : ¬ gb = jb := by omega
          have n2 : ¬ kb = jb := by omega
          have n3 : ¬ jb = gb := by omega
          have n4 : ¬ jb = kb := by omega
          have HI13 := Lib.hid i13
          have hga : goneA (a : Int) (P : Int) = (a : Int) + 1 := by unfold goneA; rw [if_neg (by omega)]
          have HGA := Lib.hid hga
          have bg13 := HBG.out.below J
          have bk13 := HBK.out.below J
          have id13 := HID.out.below J
          have iv13 := HIV.out.below J
          have HBG3 := Lib.hid bg13
          have HBK3 := Lib.hid bk13
          have HBJ3 := Lib.hid j13
          have HID3 := Lib.hid id13
          have HIV3 := Lib.hid iv13
          have HQ3 := Lib.hid (q_step HQ.out J)
          clear hga id13 iv13 i13
          clear g0 g1 g2 g3 k0 k1 k2
          have j0 := stick (j13.cell 0 rfl)
          have j1 := stick (j13.cell 1 rfl)
          have j2 := stick (j13.cell 2 rfl)
          have g0 := stick (bg13.cell 0 rfl)
          have g1 := stick (bg13.cell 1 rfl)
          have g2 := stick (bg13.cell 2 rfl)
          have g3 := stick (bg13.cell 3 rfl)
          have zj13 := j13.lt
          have zg13 := bg13.lt
          have zk13 := bk13.lt
          clear j13 bg13 bk13 J
          have J : Below W13.heap.size W13 W13 := Below.refl _ _
          go_upto_region 24 with fail
          go_region_law (first
            | (go_simp; go_at_call 17; refine (gone_any da k dc m a P _ (by omega) (by omega)).mono ?_; rintro e w5 ⟨rfl, hb⟩; rw [HGA.out]; have J5 : Below W13.heap.size W13 w5 := q_step (by first | with_reducible exact J | with_reducible exact J.drew | ((repeat' (first | with_reducible exact Below.refl _ _ | with_reducible assumption | with_reducible refine q_alloc ?_ _ | with_reducible refine q_drew ?_ | with_reducible refine q_drewN _ ?_ | with_reducible refine q_setCell ?_ ?_ _ | (left; simp; done) | (right; simp; done) | (right; dsimp only; omega) | (left; dsimp only; omega))); done)) hb; replace J := J5; have bk5 := HBK3.out.below J; have bg5 := HBG3.out.below J; have e0 := bk5.cell 0 rfl; have e1 := bk5.cell 1 rfl; have e2 := bk5.cell 2 rfl; have f0 := bk5.froz 0 rfl; have f1 := bk5.froz 1 rfl; have f2 := bk5.froz 2 rfl; have d0 := bg5.cell 0 rfl; have d1 := bg5.cell 1 rfl; have d2 := bg5.cell 2 rfl; have d3 := bg5.cell 3 rfl; have c0 := bg5.froz 0 rfl; have c1 := bg5.froz 1 rfl; have c2 := bg5.froz 2 rfl; have c3 := bg5.froz 3 rfl; have y0 := j0 _ J; have y1 := j1 _ J; have y2 := j2 _ J; clear J5 hb bk5 bg5))
          all_goals
            have HJ := Lib.hid J
            clear e0 e1 e2 f0 f1 f2 d0 d1 d2 d3 c0 c1 c2 c3 y0 y1 y2
            go_wp2_with fail
            go_roundw
            case rel => exact ⟨a + 1, yn, ya, yc, by omega, by go_num, HYN.out, round_end hgk (HBG3.out.below HJ.out) (HBK3.out.below HJ.out) (HI13.out.below HJ.out) HAG2.out HAK2.out (HID3.out.below HJ.out) HA1.out HA2.out (HIV3.out.below HJ.out) HB1.out HB2.out hgz hkz (q_step HQ3.out HJ.out)⟩
            case measure => simp [intOf] <;> omega
        · skip
          obtain rfl : a = P := by omega
          have hD : stD us m a a = us := stD_end hm1 (by rw [HN.out]; exact HC.out)
          have hS := stS_end (P := a) hP1
          rw [hD] at HKN HIK HAG HAK
          rw [hS] at k0 HBK
          have hknk : kn = k := HKN.out.trans HN.out
          subst hknk
          clear hD hS
          have hdd : decide ((a : Int) ≤ (a : Int)) = true := decide_eq_true (Int.le_refl _)
          have HDD := Lib.hid hdd
          have hn1 : us.length ≤ 1000000 := by rw [HN.out]; omega
          clear hdd
          go_wp2_with fail
          refine (put_end da dc us kn m a _ HN.out (HID.out.below J)).mono ?_
          rintro e w5 ⟨rfl, hb⟩
          have J5 : Below wr.heap.size wr w5 := q_step J hb
          replace J := J5
          clear J5 hb
          go_upto_region 16 with fail
          refine code_world (fun W => Below wr.heap.size wr W) (by (repeat' (first | with_reducible exact Below.refl _ _ | with_reducible assumption | with_reducible refine q_alloc ?_ _ | with_reducible refine q_drew ?_ | with_reducible refine q_drewN _ ?_ | with_reducible refine q_setCell ?_ ?_ _ | (left; simp; done) | (right; simp; done) | (right; dsimp only; omega) | (left; dsimp only; omega)))) ?_
          intro W6 J6
          replace J := J6
          clear J6
          go_wp2_with fail
          refine (data_k _ _ ka kn kc us _ (by rw [HN.out]) (HIK.out.below J) hn1).mono ?_
          rintro e w7 ⟨xa7, xc7, rfl, _, hb⟩
          have J5 : Below wr.heap.size wr w7 := q_step J hb
          replace J := J5
          clear J5 hb
          go_wp2_with fail
          refine (done_any (.slice da kn dc) m a a _).mono ?_
          rintro e w8 ⟨rfl, hb⟩
          rw [HDD.out]
          have J5 : Below wr.heap.size wr w8 := q_step J hb
          replace J := J5
          clear J5 hb
          go_wp2_with fail
          refine (data_k _ _ ka kn kc us _ (by rw [HN.out]) (HIK.out.below J) hn1).mono ?_
          rintro e w9 ⟨xa9, xc9, rfl, hi9, hb⟩
          have J5 : Below wr.heap.size wr w9 := q_step J hb
          replace J := J5
          have HI9 := Lib.hid hi9
          clear J5 hb hi9
          go_wp2_with fail
          refine (same_eq _ _ us _ HI9.out (HIV.out.below J) hn1).mono ?_
          rintro e w10 ⟨rfl, hb⟩
          have J5 : Below wr.heap.size wr w10 := q_step J hb
          replace J := J5
          clear J5 hb
          go_wp2_with fail
          refine (done_any (.slice da kn dc) m a a _).mono ?_
          rintro e w11 ⟨rfl, hb⟩
          rw [HDD.out]
          have J5 : Below wr.heap.size wr w11 := q_step J hb
          replace J := J5
          clear J5 hb
          go_wp2_with fail
          refine (awake42 _).mono ?_
          rintro e w12 ⟨rfl, hb⟩
          go_wp2_with fail
          go_returns
          exact ⟨by first | rfl | (simp; done), q_step HQ.out (q_step J hb)⟩
end Go.Proofs.Ytlaejolgjchfcaa
