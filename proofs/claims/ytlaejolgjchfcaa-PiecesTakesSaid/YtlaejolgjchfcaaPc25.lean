/- Layer 42: PiecesTakes' walk. -/
import Derived.Test.YtlaejolgjchfcaaPc24
import Derived.Test.YtlaejolgjchfcaaPes
namespace Go.Proofs.Ytlaejolgjchfcaa
open Go Go.RowKit Go.Maps
set_option linter.unusedSimpArgs false
set_option linter.unusedVariables false
/-- The program's take lies in block kb, the document's in mb; they have the same numbers, at most N. -/
structure TakF (w : World) (kb mb N : Nat) (W : World) (s t1 t2 : Int) (us : List Int) (ka : Option Addr) (kn kc : Nat) (ma : Option Addr) (mn mc : Nat) : Prop where
  bk : Blk W kb [i6 s, i6 t1, .slice ka kn kc]
  bm : Blk W mb [i6 s, i6 t2, .slice ma mn mc]
  ekn : kn = us.length
  emn : mn = us.length
  ki : IsI W (.slice ka kn kc) us
  mi : IsI W (.slice ma mn mc) us
  mo : ma = none → mc = 0
  tot : TotIs s t1 t2
  len : us.length ≤ N
  a1 : Apart kb (.slice ka kn kc) us
  a2 : Apart mb (.slice ka kn kc) us
  a3 : Apart kb (.slice ma mn mc) us
  a4 : Apart mb (.slice ma mn mc) us
  q : Below w.heap.size w W
theorem TakF.below {w : World} {kb mb N : Nat} {W W' : World} {s t1 t2 : Int} {us : List Int} {ka : Option Addr} {kn kc : Nat} {ma : Option Addr} {mn mc : Nat} (h : TakF w kb mb N W s t1 t2 us ka kn kc ma mn mc) (hb : Below W.heap.size W W') : TakF w kb mb N W' s t1 t2 us ka kn kc ma mn mc :=
  ⟨h.bk.below hb, h.bm.below hb, h.ekn, h.emn, h.ki.below hb, h.mi.below hb, h.mo, h.tot, h.len, h.a1, h.a2, h.a3, h.a4, q_step h.q hb⟩
theorem tak_same {w : World} {kb mb N : Nat} {W : World} {s t1 t2 : Int} {us : List Int} {ka : Option Addr} {kn kc : Nat} {ma : Option Addr} {mn mc : Nat} (h : TakF w kb mb N W s t1 t2 us ka kn kc ma mn mc) (hkm : ¬ kb = mb) (hkw : w.heap.size ≤ kb) :
    TakF w kb mb N (((W.setCell ⟨kb, 0, none⟩ (i6 s)).setCell ⟨kb, 1, none⟩ (i6 t1)).setCell ⟨kb, 2, none⟩ (.slice ka kn kc)) s t1 t2 us ka kn kc ma mn mc :=
  ⟨((h.bk.set 0 _ (by simp) rfl).set 1 _ (by simp) rfl).set 2 _ (by simp) rfl, ((h.bm.set_far (p := ⟨kb, 0, none⟩) hkm _).set_far (p := ⟨kb, 1, none⟩) hkm _).set_far (p := ⟨kb, 2, none⟩) hkm _, h.ekn, h.emn, ((h.ki.setA h.a1 0 _).setA h.a1 1 _).setA h.a1 2 _, ((h.mi.setA h.a3 0 _).setA h.a3 1 _).setA h.a3 2 _, h.mo, h.tot, h.len, h.a1, h.a2, h.a3, h.a4, q_setCell (q_setCell (q_setCell h.q (Or.inr hkw) _) (Or.inr hkw) _) (Or.inr hkw) _⟩
theorem tak_new {w : World} {kb mb N : Nat} {W : World} {x0 x1 x2 y0 y1 y2 : Value} {s t1 t2 : Int} {us : List Int} {ka : Option Addr} {kn kc : Nat} {ma : Option Addr} {mn mc : Nat} (hkm : ¬ kb = mb) (hkw : w.heap.size ≤ kb) (hmw : w.heap.size ≤ mb)
    (bk : Blk W kb [x0, x1, x2]) (bm : Blk W mb [y0, y1, y2]) (ekn : kn = us.length) (emn : mn = us.length) (ki : IsI W (.slice ka kn kc) us) (mi : IsI W (.slice ma mn mc) us) (mo : ma = none → mc = 0) (tot : TotIs s t1 t2) (len : us.length ≤ N)
    (a1 : Apart kb (.slice ka kn kc) us) (a2 : Apart mb (.slice ka kn kc) us) (a3 : Apart kb (.slice ma mn mc) us) (a4 : Apart mb (.slice ma mn mc) us) (q : Below w.heap.size w W) :
    TakF w kb mb N ((((((W.setCell ⟨kb, 0, none⟩ (i6 s)).setCell ⟨kb, 1, none⟩ (i6 t1)).setCell ⟨kb, 2, none⟩ (.slice ka kn kc)).setCell ⟨mb, 0, none⟩ (i6 s)).setCell ⟨mb, 1, none⟩ (i6 t2)).setCell ⟨mb, 2, none⟩ (.slice ma mn mc)) s t1 t2 us ka kn kc ma mn mc := by
  have hmk : ¬ mb = kb := fun e => hkm e.symm
  exact ⟨(((((bk.set 0 _ (by simp) rfl).set 1 _ (by simp) rfl).set 2 _ (by simp) rfl).set_far (p := ⟨mb, 0, none⟩) hmk _).set_far (p := ⟨mb, 1, none⟩) hmk _).set_far (p := ⟨mb, 2, none⟩) hmk _, (((((bm.set_far (p := ⟨kb, 0, none⟩) hkm _).set_far (p := ⟨kb, 1, none⟩) hkm _).set_far (p := ⟨kb, 2, none⟩) hkm _).set 0 _ (by simp) rfl).set 1 _ (by simp) rfl).set 2 _ (by simp) rfl, ekn, emn, (((((ki.setA a1 0 _).setA a1 1 _).setA a1 2 _).setA a2 0 _).setA a2 1 _).setA a2 2 _, (((((mi.setA a3 0 _).setA a3 1 _).setA a3 2 _).setA a4 0 _).setA a4 1 _).setA a4 2 _, mo, tot, len, a1, a2, a3, a4, q_setCell (q_setCell (q_setCell (q_setCell (q_setCell (q_setCell q (Or.inr hkw) _) (Or.inr hkw) _) (Or.inr hkw) _) (Or.inr hmw) _) (Or.inr hmw) _) (Or.inr hmw) _⟩
theorem ref2 (t1 : Int) (ka : Option Addr) (kn kc : Nat) (w : World) : Calls Try.prog 18 #[tV 2 t1 (.slice ka kn kc)] w fun e w' => e = .returned (tV 2 t1 (.slice ka kn kc)) ∧ Below w.heap.size w w' := by
  refine (refused_any 2 t1 ka kn kc w).mono ?_
  rintro e w' ⟨he, hb⟩
  rw [if_pos rfl] at he
  exact ⟨he, hb⟩
theorem ref3 (s t1 : Int) (hs : s ≠ 2) (ka : Option Addr) (kn kc : Nat) (w : World) : Calls Try.prog 18 #[tV s t1 (.slice ka kn kc)] w fun e w' => e = .returned (tV 3 0 (.slice none 0 0)) ∧ Below w.heap.size w w' := by
  refine (refused_any s t1 ka kn kc w).mono ?_
  rintro e w' ⟨he, hb⟩
  rw [if_neg hs] at he
  exact ⟨he, hb⟩
theorem zt0 {w : World} : Blk (w.alloc (.cells #[i6 0, i6 0, .slice none 0 0] 43)) w.heap.size [i6 0, i6 0, .slice none 0 0] := Blk.new rfl
theorem zr0 {w : World} : Blk (w.alloc (.cells #[i6 0, i6 0, .slice none 0 0] 45)) w.heap.size [i6 0, i6 0, .slice none 0 0] := Blk.new rfl
def TakI (w : World) (kb mb N : Nat) (W : World) : Prop := ∃ s t1 t2 us ka kn kc ma mn mc, TakF w kb mb N W s t1 t2 us ka kn kc ma mn mc
theorem takI_drew {w : World} {kb mb N : Nat} {W : World} (h : TakI w kb mb N W) : TakI w kb mb N W.drew := by
  obtain ⟨s, t1, t2, us, ka, kn, kc, ma, mn, mc, hT⟩ := h
  exact ⟨s, t1, t2, us, ka, kn, kc, ma, mn, mc, hT.below (Below.refl _ _).drew⟩
set_option maxRecDepth 100000 in
set_option maxHeartbeats 16000000 in
theorem ltakes_any (A : Option Addr) (cap : Nat) (xs : List Pe) (at' : Int) (w : World) (hv : IsPe w (.slice A xs.length cap) xs) (h0 : 0 ≤ at' ∧ at' ≤ 255) :
    Calls Try.prog 4 #[.slice A xs.length cap, .int .u8 at'] w fun e w' => e = .returned (.bool true) ∧ Below w.heap.size w w' := by
  obtain ⟨A', cap', eA, hf⟩ := hv
  simp only [Value.slice.injEq] at eA
  obtain ⟨rfl, -, rfl⟩ := eA
  have HF := Lib.hid hf
  clear hf
  obtain ⟨n, hn⟩ : ∃ n, xs.length = n := ⟨_, rfl⟩
  rw [hn] at HF ⊢
  have HN := Lib.hid hn
  clear hn
  obtain ⟨ha0, ha1⟩ := h0
  by_cases hl : 20 < n
  · have hl' : (20 : Int) < n := by omega
    go_enter Try.func4, Try.ntmps4
    go_wp2_with fail
    refine (awake42 _).mono ?_
    rintro e w1 ⟨rfl, hb⟩
    go_wp2_with fail
    go_returns
    exact ⟨by first | rfl | (simp; done), hb⟩
  have hl' : ¬ (20 : Int) < n := by omega
  have ra : IntKind.i64.wrap at' = at' := IntWalk.i64_in _ (by omega)
  go_enter Try.func4, Try.ntmps4
  go_wp2_with fail
  refine code_world (fun W => Below w.heap.size w W ∧ Blk W w.heap.size [i6 0, i6 0, .slice none 0 0] ∧ Blk W (w.heap.size + 1) [i6 0, i6 0, .slice none 0 0]) ⟨by (repeat' (first | with_reducible exact Below.refl _ _ | with_reducible assumption | with_reducible refine q_alloc ?_ _ | with_reducible refine q_drew ?_ | with_reducible refine q_drewN _ ?_ | with_reducible refine q_setCell ?_ ?_ _ | (left; simp; done) | (right; simp; done) | (right; dsimp only; omega) | (left; dsimp only; omega))), (Blk.new rfl).alloc _, blk_new1 rfl⟩ ?_
  intro W1 ⟨hq1, b1, b2⟩
  obtain ⟨kb, hkb⟩ : ∃ kb, kb = w.heap.size := ⟨_, rfl⟩
  obtain ⟨mb, hmb⟩ : ∃ mb, mb = w.heap.size + 1 := ⟨_, rfl⟩
  rw [← hmb] at b2 ⊢
  rw [← hkb] at b1 ⊢
  have hkw : w.heap.size ≤ kb := by omega
  have hmw : w.heap.size ≤ mb := by omega
  have hkm : ¬ kb = mb := by omega
  have hmk : ¬ mb = kb := by omega
  have hI : TakI w kb mb 0 W1 := ⟨0, 0, 0, [], none, 0, 0, none, 0, 0, b1, b2, rfl, rfl, isI_zero _, isI_zero _, fun _ => rfl, ⟨Or.inl rfl, fun _ => rfl⟩, Nat.zero_le _, Or.inl rfl, Or.inl rfl, Or.inl rfl, Or.inl rfl, hq1⟩
  clear b1 b2 hkb hmb hq1
  go_loopw [7] (fun i wr => ∃ k : Nat, k ≤ n ∧ i = .int .i64 k ∧ TakI w kb mb (200 * k) wr)
    (fun i _ => n - (intOf i).toNat)
  case atStart => exact ⟨0, Nat.zero_le _, rfl, hI⟩
  case round =>
    clear hI
    obtain ⟨k, hk, rfl, hI⟩ := hrel
    by_cases hlt : k < n
    · have hki : (k : Int) < n := by omega
      obtain ⟨b, off, rfl, hbl, hlay, hok⟩ := HF.out (by omega)
      obtain ⟨x, hx⟩ : ∃ x, xs[k]? = some x := ⟨xs[k]'(by rw [HN.out]; exact hlt), List.getElem?_eq_getElem _⟩
      have HOK := Lib.hid (hok x (List.mem_of_getElem? hx))
      have HLAY := Lib.hid (fun j u hj => hlay k x hx j u hj)
      clear hlay hok hx
      obtain ⟨pa, pt', psa, psc, pl, ds⟩ := x
      have HI := Lib.hid hI
      obtain ⟨s, t1, t2, us, ka, kn, kc, ma, mn, mc, hT⟩ := hI
      have HT := Lib.hid hT
      have y2 := cell_below hT.q (HLAY.out 2 _ rfl)
      have d0 := hT.bk.cell 0 rfl
      have d1 := hT.bk.cell 1 rfl
      have d2 := hT.bk.cell 2 rfl
      have e0 := hT.bm.cell 0 rfl
      have f0 := hT.bk.froz 0 rfl
      have f1 := hT.bk.froz 1 rfl
      have f2 := hT.bk.froz 2 rfl
      clear hT
      obtain ⟨dn, hdn⟩ : ∃ dn, ds.length = dn := ⟨_, rfl⟩
      have HDN := Lib.hid hdn
      dsimp only at y2
      rw [hdn] at y2
      clear hdn
      by_cases h200 : 200 < dn
      · have h200' : (200 : Int) < dn := by omega
        go_wp2_with fail
        refine (awake42 _).mono ?_
        rintro e w5 ⟨rfl, hb⟩
        go_wp2_with fail
        go_returns
        exact ⟨by first | rfl | (simp; done), q_step HT.out.q hb⟩
      have h200' : ¬ (200 : Int) < dn := by omega
      go_upto_if 35 with fail
      go_cut [] from 22 to 43 (fun wx => TakI w kb mb (200 * k) wx)
      case first =>
        clear y2
        by_cases hat : at' = (k : Int)
        · subst hat
          by_cases hs2 : s = 2
          · subst hs2
            go_wp2_with fail
            refine (ref2 t1 ka kn kc _).mono ?_
            rintro e w5 ⟨rfl, hb⟩
            clear d0 d1 d2 e0 f0 f1 f2
            have hT5 := HT.out.below hb
            have HT5 := Lib.hid hT5
            have d0 := hT5.bk.cell 0 rfl
            have d1 := hT5.bk.cell 1 rfl
            have d2 := hT5.bk.cell 2 rfl
            have e0 := hT5.bm.cell 0 rfl
            have e1 := hT5.bm.cell 1 rfl
            have e2 := hT5.bm.cell 2 rfl
            have f0 := hT5.bk.froz 0 rfl
            have f1 := hT5.bk.froz 1 rfl
            have f2 := hT5.bk.froz 2 rfl
            have g0 := hT5.bm.froz 0 rfl
            have g1 := hT5.bm.froz 1 rfl
            have g2 := hT5.bm.froz 2 rfl
            clear hT5 hb
            go_wp2_with fail
            go_meet
            exact ⟨_, _, _, _, _, _, _, _, _, _, tak_same HT5.out hkm hkw⟩
          · have hs2' : (s == 2) = false := by simpa using hs2
            have hs2'' : (s != 2) = true := by simpa using hs2
            go_wp2_with fail
            refine (ref3 s t1 hs2 ka kn kc _).mono ?_
            rintro e w5 ⟨rfl, hb⟩
            clear d0 d1 d2 e0 f0 f1 f2
            have hT5 := HT.out.below hb
            have HT5 := Lib.hid hT5
            have d0 := hT5.bk.cell 0 rfl
            have d1 := hT5.bk.cell 1 rfl
            have d2 := hT5.bk.cell 2 rfl
            have e0 := hT5.bm.cell 0 rfl
            have e1 := hT5.bm.cell 1 rfl
            have e2 := hT5.bm.cell 2 rfl
            have f0 := hT5.bk.froz 0 rfl
            have f1 := hT5.bk.froz 1 rfl
            have f2 := hT5.bk.froz 2 rfl
            have g0 := hT5.bm.froz 0 rfl
            have g1 := hT5.bm.froz 1 rfl
            have g2 := hT5.bm.froz 2 rfl
            clear hT5 hb
            go_wp2_with fail
            go_meet
            exact ⟨3, 0, 0, [], none, 0, 0, none, 0, 0, tak_new hkm hkw hmw HT5.out.bk HT5.out.bm rfl rfl (isI_zero _) (isI_zero _) (fun _ => rfl) ⟨Or.inr (Or.inr (Or.inr rfl)), fun h => by simp at h⟩ (Nat.zero_le _) (Or.inl rfl) (Or.inl rfl) (Or.inl rfl) (Or.inl rfl) HT5.out.q⟩
        · have hat' : (at' == (k : Int)) = false := by simpa using hat
          go_wp2_with fail
          go_meet
          exact HI.out
      case rest =>
        clear d0 d1 d2 e0 f0 f1 f2 y2 HI HT
        obtain ⟨W2, rfl⟩ : ∃ W : World, W = wc := ⟨_, rfl⟩
        obtain ⟨s, t1, t2, us, ka, kn, kc, ma, mn, mc, hT⟩ := hcut
        have HT := Lib.hid hT
        have k0 := stick (hT.bk.cell 0 rfl)
        have k1 := stick (hT.bk.cell 1 rfl)
        have k2 := stick (hT.bk.cell 2 rfl)
        have x0 := stick (cell_below hT.q (HLAY.out 0 _ rfl))
        have x1 := stick (cell_below hT.q (HLAY.out 1 _ rfl))
        have x2 := stick (cell_below hT.q (HLAY.out 2 _ rfl))
        have x3 := stick (cell_below hT.q (HLAY.out 3 _ rfl))
        dsimp only at x0 x1 x2 x3
        rw [Nat.add_zero] at x0
        rw [HDN.out] at x2
        have HPI : Hid (IsI w (.slice psa dn psc) ds) := Lib.hid (by have h := HOK.out.1; dsimp only at h; rw [HDN.out] at h; exact h)
        have HPO : Hid (psa = none → psc = 0) := Lib.hid HOK.out.2
        have hul : us.length ≤ 1000000 := by have := hT.len; omega
        have hmnl : mn ≤ 100000 := by have := hT.len; have := hT.emn; omega
        have zkb := hT.bk.lt
        have zmb := hT.bm.lt
        obtain ⟨Z, hZ⟩ : ∃ Z, kindZ pa pt' ds.length pl (numsB ds) = Z := ⟨_, rfl⟩
        have hZ3 : Z ≤ 3 := by
          by_cases hz : Z < 0
          · omega
          · have := (kind_ab (show 0 ≤ kindZ pa pt' ds.length pl (numsB ds) by omega)).2.2; omega
        have hside := side_by_side (us := us) (ds := ds) (t := pt') hZ3 hT.tot
        have hglen := gotF_len Z s t1 us pt' ds (200 * k) hT.len (by rw [HDN.out]; omega)
        obtain ⟨E1, S1, T1, U1, hF1⟩ : ∃ E1 S1 T1 U1, gotF Z s t1 us pt' ds = (E1, S1, T1, U1) := ⟨_, _, _, _, rfl⟩
        obtain ⟨E2, S2, T2, U2, hF2⟩ : ∃ E2 S2 T2 U2, refF Z s t2 us pt' ds = (E2, S2, T2, U2) := ⟨_, _, _, _, rfl⟩
        rw [hF1, hF2] at hside
        rw [hF1] at hglen
        dsimp only at hside hglen
        obtain ⟨rfl, rfl, rfl, htot⟩ := hside
        have HTOT := Lib.hid htot
        have HF1 : Hid (gotF (kindZ pa pt' ds.length pl (numsB ds)) s t1 us pt' ds = (E1, S1, T1, U1)) := Lib.hid (by rw [hZ]; exact hF1)
        have HF2 : Hid (refF (kindZ pa pt' ds.length pl (numsB ds)) s t2 us pt' ds = (E1, S1, T2, U1)) := Lib.hid (by rw [hZ]; exact hF2)
        clear hF1 hF2 htot hT hZ hZ3
        have J : Below W2.heap.size W2 W2 := Below.refl _ _
        have hk0 : 0 ≤ (k : Int) := by omega
        go_upto_region 14 with fail
        go_cut [8, 9] from 42 to 51 (fun p q wx => ∃ jb ya yn yc, p = .pointer (some ⟨jb, 0, none⟩) ∧ q = i6 E1 ∧ Blk wx jb [i6 S1, i6 T1, .slice ya yn yc] ∧ W2.heap.size ≤ jb ∧ yn = U1.length ∧ IsI wx (.slice ya yn yc) U1 ∧ Hid (∀ r, r < W2.heap.size → Apart r (.slice ka kn kc) us → Apart r (.slice ya yn yc) U1) ∧ Below W2.heap.size W2 wx)
        case first =>
          go_region_held3 (fun w' => Below W2.heap.size W2 w')
            (first | with_reducible exact J | with_reducible exact J.drew | with_reducible exact q_alloc J _ | with_reducible exact q_alloc J.drew _ | ((repeat' (first | with_reducible exact Below.refl _ _ | with_reducible assumption | with_reducible refine q_alloc ?_ _ | with_reducible refine q_drew ?_ | with_reducible refine q_drewN _ ?_ | with_reducible refine q_setCell ?_ ?_ _ | (left; simp; done) | (right; simp; done) | (right; dsimp only; omega) | (left; dsimp only; omega))); done))
            (first
              | (go_at_call 19; refine (got_any s t1 (.slice ka kn kc) us pa pt' (.slice psa dn psc) pl ds _ (HT.out.ki.below (by first | with_reducible exact J | with_reducible exact J.drew | with_reducible exact q_alloc J _ | with_reducible exact q_alloc J.drew _ | ((repeat' (first | with_reducible exact Below.refl _ _ | with_reducible assumption | with_reducible refine q_alloc ?_ _ | with_reducible refine q_drew ?_ | with_reducible refine q_drewN _ ?_ | with_reducible refine q_setCell ?_ ?_ _ | (left; simp; done) | (right; simp; done) | (right; dsimp only; omega) | (left; dsimp only; omega))); done))) (HPI.out.below (q_step HT.out.q (by first | with_reducible exact J | with_reducible exact J.drew | with_reducible exact q_alloc J _ | with_reducible exact q_alloc J.drew _ | ((repeat' (first | with_reducible exact Below.refl _ _ | with_reducible assumption | with_reducible refine q_alloc ?_ _ | with_reducible refine q_drew ?_ | with_reducible refine q_drewN _ ?_ | with_reducible refine q_setCell ?_ ?_ _ | (left; simp; done) | (right; simp; done) | (right; dsimp only; omega) | (left; dsimp only; omega))); done)))) hul (by rw [HDN.out]; omega)).mono ?_; rw [HF1.out]; rintro e w5 ⟨kv', rfl, hi5, hap, hb⟩; obtain ⟨ya, yc, rfl, _⟩ := isI_form hi5; have HI5 := Lib.hid hi5; have HAP : Hid (∀ r, r < W2.heap.size → Apart r (.slice ka kn kc) us → Apart r (.slice ya U1.length yc) U1) := Lib.hid (fun r hr h => hap r (Nat.lt_of_lt_of_le hr (Below.size (by first | with_reducible exact J | with_reducible exact J.drew | with_reducible exact q_alloc J _ | with_reducible exact q_alloc J.drew _ | ((repeat' (first | with_reducible exact Below.refl _ _ | with_reducible assumption | with_reducible refine q_alloc ?_ _ | with_reducible refine q_drew ?_ | with_reducible refine q_drewN _ ?_ | with_reducible refine q_setCell ?_ ?_ _ | (left; simp; done) | (right; simp; done) | (right; dsimp only; omega) | (left; dsimp only; omega))); done)))) h); (try (have hd5 : Blk w5 W2.heap.size [i6 0, i6 0, .slice none 0 0] := (by first | with_reducible exact Blk.below zt0 hb | with_reducible exact Blk.below zt0.drew hb); have HAF : Hid (Apart W2.heap.size (.slice ya U1.length yc) U1) := Lib.hid (hap _ (by simp) (apart_old HT.out.ki (Nat.le_refl _))); have dc0 := hd5.cell 0 rfl; have dc1 := hd5.cell 1 rfl; have dc2 := hd5.cell 2 rfl; have df0 := hd5.froz 0 rfl; have df1 := hd5.froz 1 rfl; have df2 := hd5.froz 2 rfl; have dz := hd5.lt; have HD5 := Lib.hid hd5; clear hd5)); have J5 : Below W2.heap.size W2 w5 := q_step (by first | with_reducible exact J | with_reducible exact J.drew | with_reducible exact q_alloc J _ | with_reducible exact q_alloc J.drew _ | ((repeat' (first | with_reducible exact Below.refl _ _ | with_reducible assumption | with_reducible refine q_alloc ?_ _ | with_reducible refine q_drew ?_ | with_reducible refine q_drewN _ ?_ | with_reducible refine q_setCell ?_ ?_ _ | (left; simp; done) | (right; simp; done) | (right; dsimp only; omega) | (left; dsimp only; omega))); done)) hb; have hzw5 := J5.size; replace J := J5; clear J5 hb hap hi5))
          all_goals (go_wp2_with fail; go_meet; first
            | exact ⟨_, ya, U1.length, yc, rfl, rfl, ((HD5.out.set 0 _ (by simp) rfl).set 1 _ (by simp) rfl).set 2 _ (by simp) rfl, Nat.le_refl _, rfl, ((HI5.out.setA HAF.out 0 _).setA HAF.out 1 _).setA HAF.out 2 _, HAP, by (repeat' (first | with_reducible exact Below.refl _ _ | with_reducible assumption | with_reducible refine q_alloc ?_ _ | with_reducible refine q_drew ?_ | with_reducible refine q_drewN _ ?_ | with_reducible refine q_setCell ?_ ?_ _ | (left; simp; done) | (right; simp; done) | (right; dsimp only; omega) | (left; dsimp only; omega)))⟩
            | exact ⟨_, ya, U1.length, yc, rfl, rfl, Blk.new rfl, hzw5, rfl, HI5.out.below (by (repeat' (first | with_reducible exact Below.refl _ _ | with_reducible assumption | with_reducible refine q_alloc ?_ _ | with_reducible refine q_drew ?_ | with_reducible refine q_drewN _ ?_ | with_reducible refine q_setCell ?_ ?_ _ | (left; simp; done) | (right; simp; done) | (right; dsimp only; omega) | (left; dsimp only; omega)))), HAP, by (repeat' (first | with_reducible exact Below.refl _ _ | with_reducible assumption | with_reducible refine q_alloc ?_ _ | with_reducible refine q_drew ?_ | with_reducible refine q_drewN _ ?_ | with_reducible refine q_setCell ?_ ?_ _ | (left; simp; done) | (right; simp; done) | (right; dsimp only; omega) | (left; dsimp only; omega)))⟩)
        case rest =>
          obtain ⟨jb, ya, yn, yc, rfl, rfl, bj, hjb, hyn, iy, HAP, J2⟩ := hcut
          obtain ⟨W3, rfl⟩ : ∃ W : World, W = wc := ⟨_, rfl⟩
          have HT3 := Lib.hid (HT.out.below J2)
          have m0 := stick (HT3.out.bm.cell 0 rfl)
          have m1 := stick (HT3.out.bm.cell 1 rfl)
          have m2 := stick (HT3.out.bm.cell 2 rfl)
          have xx0 := fun W h => x0 W (q_step J2 h)
          have xx1 := fun W h => x1 W (q_step J2 h)
          have xx2 := fun W h => x2 W (q_step J2 h)
          have xx3 := fun W h => x3 W (q_step J2 h)
          have HBJ := Lib.hid bj
          have HIY := Lib.hid iy
          have HYN := Lib.hid hyn
          have hzj := bj.lt
          have hz23 := J2.size
          clear J x0 x1 x2 x3 k0 k1 k2 bj iy hyn J2
          have J : Below W3.heap.size W3 W3 := Below.refl _ _
          go_upto_region 15 with fail
          go_cut [10, 11] from 51 to 61 (fun p q wx => ∃ nb za zn zc, p = .pointer (some ⟨nb, 0, none⟩) ∧ q = i6 E1 ∧ Blk wx nb [i6 S1, i6 T2, .slice za zn zc] ∧ W3.heap.size ≤ nb ∧ zn = U1.length ∧ IsI wx (.slice za zn zc) U1 ∧ (za = none → zc = 0) ∧ Hid (∀ r, r < W3.heap.size → Apart r (.slice ma mn mc) us → Apart r (.slice psa dn psc) ds → Apart r (.slice za zn zc) U1) ∧ Below W3.heap.size W3 wx)
          case first =>
            go_region_held3 (fun w' => Below W3.heap.size W3 w')
              (first | with_reducible exact J | with_reducible exact J.drew | with_reducible exact q_alloc J _ | with_reducible exact q_alloc J.drew _ | ((repeat' (first | with_reducible exact Below.refl _ _ | with_reducible assumption | with_reducible refine q_alloc ?_ _ | with_reducible refine q_drew ?_ | with_reducible refine q_drewN _ ?_ | with_reducible refine q_setCell ?_ ?_ _ | (left; simp; done) | (right; simp; done) | (right; dsimp only; omega) | (left; dsimp only; omega))); done))
              (first
                | (go_at_call 16; refine (of_any _ _ (.slice psa dn psc) _ _ ⟨_, _, _, rfl⟩).mono ?_; rintro e w5 ⟨rfl, hb⟩; have J5 : Below W3.heap.size W3 w5 := q_step (by first | with_reducible exact J | with_reducible exact J.drew | with_reducible exact q_alloc J _ | with_reducible exact q_alloc J.drew _ | ((repeat' (first | with_reducible exact Below.refl _ _ | with_reducible assumption | with_reducible refine q_alloc ?_ _ | with_reducible refine q_drew ?_ | with_reducible refine q_drewN _ ?_ | with_reducible refine q_setCell ?_ ?_ _ | (left; simp; done) | (right; simp; done) | (right; dsimp only; omega) | (left; dsimp only; omega))); done)) hb; have hz35 := J5.size; (try (have hd5 : Blk w5 W3.heap.size [i6 0, i6 0, .slice none 0 0] := (by first | with_reducible exact Blk.below zr0 hb | with_reducible exact Blk.below zr0.drew hb); have HD5 := Lib.hid hd5; have dz5 := hd5.lt; clear hd5)); replace J := J5; clear J5 hb)
                | (go_at_call 20; refine (rgot_any s t2 ma mn mc us pa pt' psa dn psc pl ds _ (HT3.out.mi.below (by first | with_reducible exact J | with_reducible exact J.drew | with_reducible exact q_alloc J _ | with_reducible exact q_alloc J.drew _ | ((repeat' (first | with_reducible exact Below.refl _ _ | with_reducible assumption | with_reducible refine q_alloc ?_ _ | with_reducible refine q_drew ?_ | with_reducible refine q_drewN _ ?_ | with_reducible refine q_setCell ?_ ?_ _ | (left; simp; done) | (right; simp; done) | (right; dsimp only; omega) | (left; dsimp only; omega))); done))) HT3.out.emn.symm HT3.out.mo (HPI.out.below (q_step HT3.out.q (by first | with_reducible exact J | with_reducible exact J.drew | with_reducible exact q_alloc J _ | with_reducible exact q_alloc J.drew _ | ((repeat' (first | with_reducible exact Below.refl _ _ | with_reducible assumption | with_reducible refine q_alloc ?_ _ | with_reducible refine q_drew ?_ | with_reducible refine q_drewN _ ?_ | with_reducible refine q_setCell ?_ ?_ _ | (left; simp; done) | (right; simp; done) | (right; dsimp only; omega) | (left; dsimp only; omega))); done)))) HDN.out HPO.out hmnl (by omega)).mono ?_; rw [HF2.out]; rintro e w6 ⟨za, zn, zc, rfl, hzn, hi6, hzo, hap, hb⟩; have HI6 := Lib.hid hi6; have HZO := Lib.hid hzo; have HZN := Lib.hid hzn; have HAPZ : Hid (∀ r, r < W3.heap.size → Apart r (.slice ma mn mc) us → Apart r (.slice psa dn psc) ds → Apart r (.slice za zn zc) U1) := Lib.hid (fun r hr h h' => hap r (Nat.lt_of_lt_of_le hr (Below.size (by first | with_reducible exact J | with_reducible exact J.drew | with_reducible exact q_alloc J _ | with_reducible exact q_alloc J.drew _ | ((repeat' (first | with_reducible exact Below.refl _ _ | with_reducible assumption | with_reducible refine q_alloc ?_ _ | with_reducible refine q_drew ?_ | with_reducible refine q_drewN _ ?_ | with_reducible refine q_setCell ?_ ?_ _ | (left; simp; done) | (right; simp; done) | (right; dsimp only; omega) | (left; dsimp only; omega))); done)))) h h'); (try (have hd5 : Blk w6 W3.heap.size [i6 0, i6 0, .slice none 0 0] := (by first | exact HD5.out.below hb | with_reducible exact Blk.below (Blk.below zr0 J) hb | with_reducible exact Blk.below zr0 hb | with_reducible exact Blk.below zr0.drew hb); have HAF : Hid (Apart W3.heap.size (.slice za zn zc) U1) := Lib.hid (hap _ (by first | exact dz5 | (simp; omega) | simp) (apart_old HT3.out.mi (Nat.le_refl _)) (apart_old (HPI.out.below HT3.out.q) (Nat.le_refl _))); have dc0 := hd5.cell 0 rfl; have dc1 := hd5.cell 1 rfl; have dc2 := hd5.cell 2 rfl; have df0 := hd5.froz 0 rfl; have df1 := hd5.froz 1 rfl; have df2 := hd5.froz 2 rfl; have dz := hd5.lt; have HD5 := Lib.hid hd5; clear hd5)); (try (have hd5 : Blk w6 w5.heap.size [i6 0, i6 0, .slice none 0 0] := (by first | with_reducible exact Blk.below zr0 hb | with_reducible exact Blk.below zr0.drew hb); have HAF : Hid (Apart w5.heap.size (.slice za zn zc) U1) := Lib.hid (hap _ (by simp) (apart_old HT3.out.mi hz35) (apart_old (HPI.out.below HT3.out.q) hz35)); have dc0 := hd5.cell 0 rfl; have dc1 := hd5.cell 1 rfl; have dc2 := hd5.cell 2 rfl; have df0 := hd5.froz 0 rfl; have df1 := hd5.froz 1 rfl; have df2 := hd5.froz 2 rfl; have dz := hd5.lt; have HD5 := Lib.hid hd5; clear hd5)); have J5 : Below W3.heap.size W3 w6 := q_step (by first | with_reducible exact J | with_reducible exact J.drew | with_reducible exact q_alloc J _ | with_reducible exact q_alloc J.drew _ | ((repeat' (first | with_reducible exact Below.refl _ _ | with_reducible assumption | with_reducible refine q_alloc ?_ _ | with_reducible refine q_drew ?_ | with_reducible refine q_drewN _ ?_ | with_reducible refine q_setCell ?_ ?_ _ | (left; simp; done) | (right; simp; done) | (right; dsimp only; omega) | (left; dsimp only; omega))); done)) hb; have hzw6 := J5.size; replace J := J5; clear J5 hb hap hi6 hzo hzn))
            all_goals (go_wp2_with fail; go_meet; trace_state; first
              | exact ⟨_, za, zn, zc, rfl, rfl, ((HD5.out.set 0 _ (by simp) rfl).set 1 _ (by simp) rfl).set 2 _ (by simp) rfl, (by first | exact Nat.le_refl _ | exact hz35), HZN.out, ((HI6.out.setA HAF.out 0 _).setA HAF.out 1 _).setA HAF.out 2 _, HZO.out, HAPZ, by (repeat' (first | with_reducible exact Below.refl _ _ | with_reducible assumption | with_reducible refine q_alloc ?_ _ | with_reducible refine q_drew ?_ | with_reducible refine q_drewN _ ?_ | with_reducible refine q_setCell ?_ ?_ _ | (left; simp; done) | (right; simp; done) | (right; dsimp only; omega) | (left; dsimp only; omega)))⟩
              | exact ⟨_, za, zn, zc, rfl, rfl, Blk.new rfl, hzw6, HZN.out, HI6.out.below (by (repeat' (first | with_reducible exact Below.refl _ _ | with_reducible assumption | with_reducible refine q_alloc ?_ _ | with_reducible refine q_drew ?_ | with_reducible refine q_drewN _ ?_ | with_reducible refine q_setCell ?_ ?_ _ | (left; simp; done) | (right; simp; done) | (right; dsimp only; omega) | (left; dsimp only; omega)))), HZO.out, HAPZ, by (repeat' (first | with_reducible exact Below.refl _ _ | with_reducible assumption | with_reducible refine q_alloc ?_ _ | with_reducible refine q_drew ?_ | with_reducible refine q_drewN _ ?_ | with_reducible refine q_setCell ?_ ?_ _ | (left; simp; done) | (right; simp; done) | (right; dsimp only; omega) | (left; dsimp only; omega)))⟩)
          case rest =>
            obtain ⟨nb, za, zn, zc, rfl, rfl, bn, hnb, hzn, iz, hzo, HAPZ, J3⟩ := hcut
            obtain ⟨W4, rfl⟩ : ∃ W : World, W = wc := ⟨_, rfl⟩
            have HT4 := Lib.hid (HT3.out.below J3)
            have bj4 := HBJ.out.below J3
            have HIY4 := Lib.hid (HIY.out.below J3)
            have HBJ4 := Lib.hid bj4
            have HBN4 := Lib.hid bn
            have HIZ4 := Lib.hid iz
            have HZN4 := Lib.hid hzn
            have HZO4 := Lib.hid hzo
            have hlenU : U1.length ≤ 1000000 := by omega
            have c0 := bj4.cell 0 rfl
            have c1 := bj4.cell 1 rfl
            have c2 := bj4.cell 2 rfl
            have hz34 := J3.size
            have pk1 := HAP.out kb zkb HT.out.a1
            have pk2 := HAP.out mb zmb HT.out.a2
            have pm1 := HAPZ.out kb (by omega) HT3.out.a3 (apart_old HPI.out hkw)
            have pm2 := HAPZ.out mb (by omega) HT3.out.a4 (apart_old HPI.out hmw)
            have HP1 := Lib.hid pk1
            have HP2 := Lib.hid pk2
            have HP3 := Lib.hid pm1
            have HP4 := Lib.hid pm2
            clear J J3 bj4 bn iz hzn hzo m0 m1 m2 xx0 xx1 xx2 xx3 pk1 pk2 pm1 pm2 HAP HAPZ
            go_wp2_with fail
            refine (data_k S1 T1 ya yn yc U1 _ HYN.out HIY4.out hlenU).mono ?_
            rintro e w8 ⟨xa8, xc8, rfl, hi8, hb⟩
            have HI8 := Lib.hid hi8
            have HJ8 := Lib.hid hb
            have bn8 := HBN4.out.below hb
            clear c0 c1 c2 hi8 hb
            have c0 := bn8.cell 0 rfl
            have c2 := bn8.cell 2 rfl
            clear bn8
            go_wp2_with fail
            refine (same_eq _ _ U1 _ (by have h := HI8.out; exact h) (HIZ4.out.below HJ8.out) hlenU).mono ?_
            rintro e w9 ⟨rfl, hb⟩
            have HJ9 := Lib.hid (q_step HJ8.out hb)
            have bj9 := HBJ4.out.below HJ9.out
            have bn9 := HBN4.out.below HJ9.out
            have bk9 := HT4.out.bk.below HJ9.out
            have bm9 := HT4.out.bm.below HJ9.out
            clear c0 c2 hb
            have c0 := bj9.cell 0 rfl
            have c1 := bj9.cell 1 rfl
            have c2 := bj9.cell 2 rfl
            have n0 := bn9.cell 0 rfl
            have n1 := bn9.cell 1 rfl
            have n2 := bn9.cell 2 rfl
            have d0 := bk9.cell 0 rfl
            have d1 := bk9.cell 1 rfl
            have d2 := bk9.cell 2 rfl
            have e0 := bm9.cell 0 rfl
            have e1 := bm9.cell 1 rfl
            have e2 := bm9.cell 2 rfl
            have f0 := bk9.froz 0 rfl
            have f1 := bk9.froz 1 rfl
            have f2 := bk9.froz 2 rfl
            have g0 := bm9.froz 0 rfl
            have g1 := bm9.froz 1 rfl
            have g2 := bm9.froz 2 rfl
            have q1 : ¬ kb = jb := by omega
            have q2 : ¬ kb = nb := by omega
            have q3 : ¬ mb = jb := by omega
            have q4 : ¬ mb = nb := by omega
            have q5 : ¬ jb = kb := by omega
            have q6 : ¬ nb = kb := by omega
            have q7 : ¬ jb = mb := by omega
            have q8 : ¬ nb = mb := by omega
            have htk : TakI w kb mb (200 * (k + 1)) ((((((w9.setCell ⟨kb, 0, none⟩ (i6 S1)).setCell ⟨kb, 1, none⟩ (i6 T1)).setCell ⟨kb, 2, none⟩ (.slice ya yn yc)).setCell ⟨mb, 0, none⟩ (i6 S1)).setCell ⟨mb, 1, none⟩ (i6 T2)).setCell ⟨mb, 2, none⟩ (.slice za zn zc)) :=
              ⟨S1, T1, T2, U1, ya, yn, yc, za, zn, zc, tak_new hkm hkw hmw bk9 bm9 HYN.out HZN4.out (HIY4.out.below HJ9.out) (HIZ4.out.below HJ9.out) HZO4.out HTOT.out (by omega) HP1.out HP2.out HP3.out HP4.out (q_step HT4.out.q HJ9.out)⟩
            have HTK := Lib.hid htk
            clear htk
            clear bj9 bn9 bk9 bm9
            go_wp2_with fail
            go_region
            all_goals
              clear c0 c1 c2 n0 n1 n2 d0 d1 d2 e0 e1 e2 f0 f1 f2 g0 g1 g2
              go_wp2_with fail
              go_roundw
              case rel => exact ⟨k + 1, by omega, by go_num, by first | with_reducible exact HTK.out | with_reducible exact takI_drew HTK.out⟩
              case measure => simp [intOf] <;> omega
    · obtain rfl : k = n := by omega
      obtain ⟨s, t1, t2, us, ka, kn, kc, ma, mn, mc, hT⟩ := hI
      have HT := Lib.hid hT
      clear hT
      go_wp2_with fail
      refine (awake42 _).mono ?_
      rintro e w5 ⟨rfl, hb⟩
      go_wp2_with fail
      go_returns
      exact ⟨by first | rfl | (simp; done), q_step HT.out.q hb⟩
end Go.Proofs.Ytlaejolgjchfcaa
