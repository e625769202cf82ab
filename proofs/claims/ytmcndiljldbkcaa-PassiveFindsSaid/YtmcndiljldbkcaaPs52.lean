/- Layer 38: the document's Find. -/
import Derived.Test.YtmcndiljldbkcaaPs50
import Derived.Test.YtmcndiljldbkcaaPs12d
namespace Go.Proofs.Ytmcndiljldbkcaa
open Go Go.RowKit
set_option linter.unusedSimpArgs false
set_option linter.unusedVariables false
set_option maxRecDepth 100000 in
set_option maxHeartbeats 16000000 in
theorem rfind_out (v P : Value) (gs : List G) (b : Bool) (c m : Int) (w : World) (hc : c < 1 ∨ mostC b < c) :
    Calls Try.prog 14 #[v, P, .bool b, i6 c, i6 m] w fun e w' => e = .returned (.tuple #[zeroG, .bool false]) ∧ Below w.heap.size w w' := by
  have hcM : c < 1 ∨ (if b = true then 5 else 255) < c := hc
  clear hc
  by_cases g1 : c < 1
  · clear hcM
    go_enter Try.func14, Try.ntmps14
    go_upto_region 1 with fail
    refine code_world (fun W => Below w.heap.size w W ∧ Blk W w.heap.size [i6 0, u3 0, .bool false, i6 0, i6 0, .bool false, i6 0, i6 0, i6 0]) ⟨by (repeat' (first | with_reducible exact Below.refl _ _ | with_reducible assumption | with_reducible refine q_alloc ?_ _ | with_reducible refine q_drew ?_ | with_reducible refine q_drewN _ ?_ | with_reducible refine q_setCell ?_ ?_ _ | (left; simp; done) | (right; simp; done) | (right; dsimp only; omega) | (left; dsimp only; omega))), Blk.new rfl⟩ ?_
    intro W0 ⟨hq0, c4⟩
    have e0 := c4.cell 0 rfl
    have f0 := c4.froz 0 rfl
    have e1 := c4.cell 1 rfl
    have f1 := c4.froz 1 rfl
    have e2 := c4.cell 2 rfl
    have f2 := c4.froz 2 rfl
    have e3 := c4.cell 3 rfl
    have f3 := c4.froz 3 rfl
    have e4 := c4.cell 4 rfl
    have f4 := c4.froz 4 rfl
    have e5 := c4.cell 5 rfl
    have f5 := c4.froz 5 rfl
    have e6 := c4.cell 6 rfl
    have f6 := c4.froz 6 rfl
    have e7 := c4.cell 7 rfl
    have f7 := c4.froz 7 rfl
    have e8 := c4.cell 8 rfl
    have f8 := c4.froz 8 rfl
    have hlt4 := c4.lt
    have HC4 := Lib.hid c4
    clear c4
    go_wp2_with fail
    refine body_world (fun W => Below w.heap.size w W ∧ Blk W w.heap.size [i6 0, u3 0, .bool false, i6 0, i6 0, .bool false, i6 0, i6 0, i6 0]) ⟨by (repeat' (first | with_reducible exact Below.refl _ _ | with_reducible assumption | with_reducible refine q_alloc ?_ _ | with_reducible refine q_drew ?_ | with_reducible refine q_drewN _ ?_ | with_reducible refine q_setCell ?_ ?_ _ | (left; simp; done) | (right; simp; done) | (right; dsimp only; omega) | (left; dsimp only; omega))), (((((((((HC4.out.set 0 _ (by simp) rfl).set 1 _ (by simp) rfl).set 2 _ (by simp) rfl).set 3 _ (by simp) rfl).set 4 _ (by simp) rfl).set 5 _ (by simp) rfl).set 6 _ (by simp) rfl).set 7 _ (by simp) rfl).set 8 _ (by simp) rfl)⟩ ?_
    intro W9 ⟨hq9, b9⟩
    clear e0 f0 e1 f1 e2 f2 e3 f3 e4 f4 e5 f5 e6 f6 e7 f7 e8 f8
    have e0 := b9.cell 0 rfl
    have e1 := b9.cell 1 rfl
    have e2 := b9.cell 2 rfl
    have e3 := b9.cell 3 rfl
    have e4 := b9.cell 4 rfl
    have e5 := b9.cell 5 rfl
    have e6 := b9.cell 6 rfl
    have e7 := b9.cell 7 rfl
    have e8 := b9.cell 8 rfl
    exact bodyPost_ret (v := .tuple #[zeroG, .bool false]) (by simp [results, Try.results14, go_sem, e0, e1, e2, e3, e4, e5, e6, e7, e8]) rfl ⟨rfl, hq9⟩
  · have g3 : (if b = true then 5 else 255) < c := hcM.resolve_left g1
    clear hcM
    by_cases g2 : 255 < c
    · clear g3
      go_enter Try.func14, Try.ntmps14
      go_upto_region 1 with fail
      refine code_world (fun W => Below w.heap.size w W ∧ Blk W w.heap.size [i6 0, u3 0, .bool false, i6 0, i6 0, .bool false, i6 0, i6 0, i6 0]) ⟨by (repeat' (first | with_reducible exact Below.refl _ _ | with_reducible assumption | with_reducible refine q_alloc ?_ _ | with_reducible refine q_drew ?_ | with_reducible refine q_drewN _ ?_ | with_reducible refine q_setCell ?_ ?_ _ | (left; simp; done) | (right; simp; done) | (right; dsimp only; omega) | (left; dsimp only; omega))), Blk.new rfl⟩ ?_
      intro W0 ⟨hq0, c4⟩
      have e0 := c4.cell 0 rfl
      have f0 := c4.froz 0 rfl
      have e1 := c4.cell 1 rfl
      have f1 := c4.froz 1 rfl
      have e2 := c4.cell 2 rfl
      have f2 := c4.froz 2 rfl
      have e3 := c4.cell 3 rfl
      have f3 := c4.froz 3 rfl
      have e4 := c4.cell 4 rfl
      have f4 := c4.froz 4 rfl
      have e5 := c4.cell 5 rfl
      have f5 := c4.froz 5 rfl
      have e6 := c4.cell 6 rfl
      have f6 := c4.froz 6 rfl
      have e7 := c4.cell 7 rfl
      have f7 := c4.froz 7 rfl
      have e8 := c4.cell 8 rfl
      have f8 := c4.froz 8 rfl
      have hlt4 := c4.lt
      have HC4 := Lib.hid c4
      clear c4
      go_wp2_with fail
      refine body_world (fun W => Below w.heap.size w W ∧ Blk W w.heap.size [i6 0, u3 0, .bool false, i6 0, i6 0, .bool false, i6 0, i6 0, i6 0]) ⟨by (repeat' (first | with_reducible exact Below.refl _ _ | with_reducible assumption | with_reducible refine q_alloc ?_ _ | with_reducible refine q_drew ?_ | with_reducible refine q_drewN _ ?_ | with_reducible refine q_setCell ?_ ?_ _ | (left; simp; done) | (right; simp; done) | (right; dsimp only; omega) | (left; dsimp only; omega))), (((((((((HC4.out.set 0 _ (by simp) rfl).set 1 _ (by simp) rfl).set 2 _ (by simp) rfl).set 3 _ (by simp) rfl).set 4 _ (by simp) rfl).set 5 _ (by simp) rfl).set 6 _ (by simp) rfl).set 7 _ (by simp) rfl).set 8 _ (by simp) rfl)⟩ ?_
      intro W9 ⟨hq9, b9⟩
      clear e0 f0 e1 f1 e2 f2 e3 f3 e4 f4 e5 f5 e6 f6 e7 f7 e8 f8
      have e0 := b9.cell 0 rfl
      have e1 := b9.cell 1 rfl
      have e2 := b9.cell 2 rfl
      have e3 := b9.cell 3 rfl
      have e4 := b9.cell 4 rfl
      have e5 := b9.cell 5 rfl
      have e6 := b9.cell 6 rfl
      have e7 := b9.cell 7 rfl
      have e8 := b9.cell 8 rfl
      exact bodyPost_ret (v := .tuple #[zeroG, .bool false]) (by simp [results, Try.results14, go_sem, e0, e1, e2, e3, e4, e5, e6, e7, e8]) rfl ⟨rfl, hq9⟩
    · cases b
      · simp only [Bool.false_eq_true, if_false, if_true] at g3
        exact absurd g3 g2
      · simp only [Bool.false_eq_true, if_false, if_true] at g3
        go_enter Try.func14, Try.ntmps14
        go_upto_region 1 with fail
        refine code_world (fun W => Below w.heap.size w W ∧ Blk W w.heap.size [i6 0, u3 0, .bool false, i6 0, i6 0, .bool false, i6 0, i6 0, i6 0]) ⟨by (repeat' (first | with_reducible exact Below.refl _ _ | with_reducible assumption | with_reducible refine q_alloc ?_ _ | with_reducible refine q_drew ?_ | with_reducible refine q_drewN _ ?_ | with_reducible refine q_setCell ?_ ?_ _ | (left; simp; done) | (right; simp; done) | (right; dsimp only; omega) | (left; dsimp only; omega))), Blk.new rfl⟩ ?_
        intro W0 ⟨hq0, c4⟩
        have e0 := c4.cell 0 rfl
        have f0 := c4.froz 0 rfl
        have e1 := c4.cell 1 rfl
        have f1 := c4.froz 1 rfl
        have e2 := c4.cell 2 rfl
        have f2 := c4.froz 2 rfl
        have e3 := c4.cell 3 rfl
        have f3 := c4.froz 3 rfl
        have e4 := c4.cell 4 rfl
        have f4 := c4.froz 4 rfl
        have e5 := c4.cell 5 rfl
        have f5 := c4.froz 5 rfl
        have e6 := c4.cell 6 rfl
        have f6 := c4.froz 6 rfl
        have e7 := c4.cell 7 rfl
        have f7 := c4.froz 7 rfl
        have e8 := c4.cell 8 rfl
        have f8 := c4.froz 8 rfl
        have hlt4 := c4.lt
        have HC4 := Lib.hid c4
        clear c4
        go_wp2_with fail
        refine body_world (fun W => Below w.heap.size w W ∧ Blk W w.heap.size [i6 0, u3 0, .bool false, i6 0, i6 0, .bool false, i6 0, i6 0, i6 0]) ⟨by (repeat' (first | with_reducible exact Below.refl _ _ | with_reducible assumption | with_reducible refine q_alloc ?_ _ | with_reducible refine q_drew ?_ | with_reducible refine q_drewN _ ?_ | with_reducible refine q_setCell ?_ ?_ _ | (left; simp; done) | (right; simp; done) | (right; dsimp only; omega) | (left; dsimp only; omega))), (((((((((HC4.out.set 0 _ (by simp) rfl).set 1 _ (by simp) rfl).set 2 _ (by simp) rfl).set 3 _ (by simp) rfl).set 4 _ (by simp) rfl).set 5 _ (by simp) rfl).set 6 _ (by simp) rfl).set 7 _ (by simp) rfl).set 8 _ (by simp) rfl)⟩ ?_
        intro W9 ⟨hq9, b9⟩
        clear e0 f0 e1 f1 e2 f2 e3 f3 e4 f4 e5 f5 e6 f6 e7 f7 e8 f8
        have e0 := b9.cell 0 rfl
        have e1 := b9.cell 1 rfl
        have e2 := b9.cell 2 rfl
        have e3 := b9.cell 3 rfl
        have e4 := b9.cell 4 rfl
        have e5 := b9.cell 5 rfl
        have e6 := b9.cell 6 rfl
        have e7 := b9.cell 7 rfl
        have e8 := b9.cell 8 rfl
        exact bodyPost_ret (v := .tuple #[zeroG, .bool false]) (by simp [results, Try.results14, go_sem, e0, e1, e2, e3, e4, e5, e6, e7, e8]) rfl ⟨rfl, hq9⟩
set_option maxRecDepth 100000 in
set_option maxHeartbeats 16000000 in
theorem rfind_in (v : Value) (gs : List G) (ia : Option Addr) (inn ic : Nat) (is : List Int) (b : Bool) (c m : Int) (w : World) (hv : IsG w v gs) (hl : gs.length ≤ 1000) (hs : IsInts w .u32 (.slice ia inn ic) is) (hin : is.length = inn) (hil : inn ≤ 1000) (hc1 : 1 ≤ c) (hc2 : c ≤ mostC b) :
    Calls Try.prog 14 #[v, .slice ia inn ic, .bool b, i6 c, i6 m] w fun e w' => ∃ (x : G) (o : Bool), e = .returned (.tuple #[gV x, .bool o]) ∧ FoundIs b c m is gs x o ∧ Below w.heap.size w w' := by
  obtain ⟨A, cap, rfl, hAf⟩ := hv
  have HAF := Lib.hid hAf
  have HS := Lib.hid hs
  have HIN := Lib.hid hin
  have HR : ∀ o : Option G, foundL b c m gs is = o → findR b c m is gs = o := fun o h => (findR_in hc1 hc2).trans h
  have HRR := Lib.hid HR
  clear hAf hs hin HR
  obtain ⟨n, hn⟩ : ∃ n, gs.length = n := ⟨_, rfl⟩
  rw [hn] at HAF hl ⊢
  have HN := Lib.hid hn
  clear hn
  have g1 : ¬ c < 1 := by omega
  have hcM : c ≤ (if b = true then 5 else 255) := hc2
  clear hc2
  cases b
  · simp only [Bool.false_eq_true, if_false, if_true] at hcM
    have g2 : ¬ (255 : Int) < c := by omega
    have g3 : ¬ (255 : Int) < c := by omega
    clear hcM
    go_enter Try.func14, Try.ntmps14
    go_upto_region 1 with fail
    refine code_world (fun W => Below w.heap.size w W ∧ Blk W w.heap.size [i6 0, u3 0, .bool false, i6 0, i6 0, .bool false, i6 0, i6 0, i6 0]) ⟨by (repeat' (first | with_reducible exact Below.refl _ _ | with_reducible assumption | with_reducible refine q_alloc ?_ _ | with_reducible refine q_drew ?_ | with_reducible refine q_drewN _ ?_ | with_reducible refine q_setCell ?_ ?_ _ | (left; simp; done) | (right; simp; done) | (right; dsimp only; omega) | (left; dsimp only; omega))), Blk.new rfl⟩ ?_
    intro W0 ⟨hq0, c4⟩
    have HQ0 := Lib.hid hq0
    have B0 := Lib.hid c4
    have hlt1 := c4.lt
    clear hq0 c4
    go_wp2_with fail
    go_loopw [12] (fun i wr => ∃ k : Nat, k ≤ inn ∧ i = .int .i64 k ∧ Hid (NoneUp false c m gs is k) ∧ Below W0.heap.size W0 wr)
      (fun i _ => inn - (intOf i).toNat)
    case atStart => exact ⟨0, Nat.zero_le _, rfl, Lib.hid (noneUp_zero _ _ _ _ _), Below.refl _ _⟩
    case round =>
      obtain ⟨k, hk, rfl, hno, J⟩ := hrel
      obtain ⟨wo, rfl⟩ : ∃ wo : World, wo = wr := ⟨_, rfl⟩
      by_cases hlt : k < inn
      · have hki : (k : Int) < inn := by omega
        obtain ⟨ib, ioff, rfl, hcs⟩ := cell_u3 HS.out HIN.out (by omega)
        obtain ⟨id, hx⟩ : ∃ id, is[k]? = some id := ⟨_, List.getElem?_eq_getElem (by rw [HIN.out]; exact hlt)⟩
        have z0 := stick (cell_below HQ0.out (hcs k id hx))
        have HX := Lib.hid hx
        have HNO := hno
        clear hcs hx hno
        go_wp2_with fail
        go_loopw [13] (fun i wr => ∃ q : Nat, q ≤ n ∧ i = .int .i64 q ∧ Hid (∀ (j : Nat) (y : G), j < q → gs[j]? = some y → actB id false c m y = false) ∧ Below W0.heap.size W0 wr)
          (fun i _ => n - (intOf i).toNat)
        case atStart => exact ⟨0, Nat.zero_le _, rfl, Lib.hid (fun j y hj => by omega), J⟩
        case round =>
          clear J
          obtain ⟨q, hq', rfl, hnq, J⟩ := hrel
          by_cases hqlt : q < n
          · obtain ⟨gb, off, rfl, hgb, hlay⟩ := HAF.out (by omega)
            obtain ⟨x, hgx⟩ : ∃ x, gs[q]? = some x := ⟨_, List.getElem?_eq_getElem (by rw [HN.out]; exact hqlt)⟩
            have hqi : (q : Int) < (n : Int) := by omega
            have hlx := fun j u hj => cell_below HQ0.out (hlay q x hgx j u hj)
            have hgw : gb ≠ w.heap.size := by omega
            have hnm := fun h => no_more hnq.out hgx h
            have HGX := Lib.hid hgx
            clear hgx hlay
            obtain ⟨a0, a1, a2, a3, a4, a5, a6, a7, a8⟩ := x
            have y0 := stick (hlx 0 _ rfl)
            rw [Nat.add_zero] at y0
            have y1 := stick (hlx 1 _ rfl)
            have y2 := stick (hlx 2 _ rfl)
            have y3 := stick (hlx 3 _ rfl)
            have y4 := stick (hlx 4 _ rfl)
            have y5 := stick (hlx 5 _ rfl)
            have y6 := stick (hlx 6 _ rfl)
            have y7 := stick (hlx 7 _ rfl)
            have y8 := stick (hlx 8 _ rfl)
            dsimp only at y0 y1 y2 y3 y4 y5 y6 y7 y8
            clear hlx
            have HSP := Lib.hid (act_split id false c m ⟨a0, a1, a2, a3, a4, a5, a6, a7, a8⟩)
            have HNM := Lib.hid hnm
            clear hnm
            by_cases hid : a1 = id
            · subst hid
              obtain ⟨R, hR⟩ : ∃ R, ractB false c m ⟨a0, a1, a2, a3, a4, a5, a6, a7, a8⟩ = R := ⟨_, rfl⟩
              have HR := Lib.hid hR
              have HA : Hid (actB a1 false c m ⟨a0, a1, a2, a3, a4, a5, a6, a7, a8⟩ = R) := Lib.hid (by rw [HSP.out, hR]; simp)
              clear hR
              go_upto_region 9 with fail
              go_region_held3 (fun w' => Below W0.heap.size W0 w')
                (first | with_reducible exact J | with_reducible exact J.drew | (exact by (repeat' (first | with_reducible exact Below.refl _ _ | with_reducible assumption | with_reducible refine q_alloc ?_ _ | with_reducible refine q_drew ?_ | with_reducible refine q_drewN _ ?_ | with_reducible refine q_setCell ?_ ?_ _ | (left; simp; done) | (right; simp; done) | (right; dsimp only; omega) | (left; dsimp only; omega)))))
                (first
                  | (go_at_call 20; refine (ract_any ⟨a0, a1, a2, a3, a4, a5, a6, a7, a8⟩ false c m _).mono ?_; rintro e w6 ⟨rfl, hb⟩; rw [HR.out]; have J5 : Below W0.heap.size W0 w6 := q_step (by first | with_reducible exact J | with_reducible exact J.drew | (exact by (repeat' (first | with_reducible exact Below.refl _ _ | with_reducible assumption | with_reducible refine q_alloc ?_ _ | with_reducible refine q_drew ?_ | with_reducible refine q_drewN _ ?_ | with_reducible refine q_setCell ?_ ?_ _ | (left; simp; done) | (right; simp; done) | (right; dsimp only; omega) | (left; dsimp only; omega))))) hb; replace J := J5; clear J5 hb))
              all_goals
                cases R with
                | false =>
                  have HNM2 := Lib.hid (HNM.out HA.out)
                  go_wp2_with fail
                  go_roundw
                  case rel => exact ⟨q + 1, by omega, by go_num, HNM2, J⟩
                  case measure => simp [intOf] <;> omega
                | true =>
                  have HFD := Lib.hid (noneUp_hit HNO.out HX.out HGX.out HA.out hnq.out)
                  have c4 := B0.out.below J
                  have e0 := c4.cell 0 rfl
                  have f0 := c4.froz 0 rfl
                  have e1 := c4.cell 1 rfl
                  have f1 := c4.froz 1 rfl
                  have e2 := c4.cell 2 rfl
                  have f2 := c4.froz 2 rfl
                  have e3 := c4.cell 3 rfl
                  have f3 := c4.froz 3 rfl
                  have e4 := c4.cell 4 rfl
                  have f4 := c4.froz 4 rfl
                  have e5 := c4.cell 5 rfl
                  have f5 := c4.froz 5 rfl
                  have e6 := c4.cell 6 rfl
                  have f6 := c4.froz 6 rfl
                  have e7 := c4.cell 7 rfl
                  have f7 := c4.froz 7 rfl
                  have e8 := c4.cell 8 rfl
                  have f8 := c4.froz 8 rfl
                  have hlt4 := c4.lt
                  have HC4 := Lib.hid c4
                  clear c4
                  have hq5 := q_step HQ0.out J
                  clear hnq z0
                  go_wp2_with fail
                  refine body_world (fun W => Below w.heap.size w W ∧ Blk W w.heap.size (gL ⟨a0, a1, a2, a3, a4, a5, a6, a7, a8⟩)) ⟨by (repeat' (first | with_reducible exact Below.refl _ _ | with_reducible assumption | with_reducible refine q_alloc ?_ _ | with_reducible refine q_drew ?_ | with_reducible refine q_drewN _ ?_ | with_reducible refine q_setCell ?_ ?_ _ | (left; simp; done) | (right; simp; done) | (right; dsimp only; omega) | (left; dsimp only; omega))), (((((((((HC4.out.set 0 _ (by simp) rfl).set 1 _ (by simp) rfl).set 2 _ (by simp) rfl).set 3 _ (by simp) rfl).set 4 _ (by simp) rfl).set 5 _ (by simp) rfl).set 6 _ (by simp) rfl).set 7 _ (by simp) rfl).set 8 _ (by simp) rfl)⟩ ?_
                  intro W9 ⟨hq9, b9⟩
                  clear e0 f0 e1 f1 e2 f2 e3 f3 e4 f4 e5 f5 e6 f6 e7 f7 e8 f8
                  have e0 := b9.cell 0 rfl
                  have e1 := b9.cell 1 rfl
                  have e2 := b9.cell 2 rfl
                  have e3 := b9.cell 3 rfl
                  have e4 := b9.cell 4 rfl
                  have e5 := b9.cell 5 rfl
                  have e6 := b9.cell 6 rfl
                  have e7 := b9.cell 7 rfl
                  have e8 := b9.cell 8 rfl
                  exact bodyPost_ret (v := .tuple #[gV ⟨a0, a1, a2, a3, a4, a5, a6, a7, a8⟩, .bool true]) (by simp [results, Try.results14, go_sem, e0, e1, e2, e3, e4, e5, e6, e7, e8]) rfl ⟨⟨a0, a1, a2, a3, a4, a5, a6, a7, a8⟩, true, rfl, ⟨HRR.out _ HFD.out, by simp⟩, hq9⟩
            · have hub : (a1 == id) = false := by simpa using hid
              have HNM2 := Lib.hid (HNM.out (by rw [HSP.out]; simp [hid]))
              clear hid
              go_wp2_with fail
              go_quiet (fail)
              all_goals
                go_wp2_with fail
                go_roundw
                case rel => exact ⟨q + 1, by omega, by go_num, HNM2, by (repeat' (first | with_reducible exact Below.refl _ _ | with_reducible assumption | with_reducible refine q_alloc ?_ _ | with_reducible refine q_drew ?_ | with_reducible refine q_drewN _ ?_ | with_reducible refine q_setCell ?_ ?_ _ | (left; simp; done) | (right; simp; done) | (right; dsimp only; omega) | (left; dsimp only; omega)))⟩
                case measure => simp [intOf] <;> omega
          · obtain rfl : q = n := by omega
            have HNO2 := Lib.hid (noneUp_step HNO.out HX.out (fun x hx => by
              obtain ⟨j, hj, e⟩ := List.getElem_of_mem hx
              exact hnq.out j x (by rw [← HN.out]; exact hj) (by rw [List.getElem?_eq_getElem hj, e])))
            clear hnq z0
            go_wp2_with fail
            go_roundw
            case rel => exact ⟨k + 1, by omega, by go_num, HNO2, J⟩
            case measure => simp [intOf] <;> omega
      · obtain rfl : k = inn := by omega
        have HFD := Lib.hid (noneUp_end hno.out (by rw [HIN.out]; exact Nat.le_refl _))
        clear hno
        have c4 := B0.out.below J
        have e0 := c4.cell 0 rfl
        have f0 := c4.froz 0 rfl
        have e1 := c4.cell 1 rfl
        have f1 := c4.froz 1 rfl
        have e2 := c4.cell 2 rfl
        have f2 := c4.froz 2 rfl
        have e3 := c4.cell 3 rfl
        have f3 := c4.froz 3 rfl
        have e4 := c4.cell 4 rfl
        have f4 := c4.froz 4 rfl
        have e5 := c4.cell 5 rfl
        have f5 := c4.froz 5 rfl
        have e6 := c4.cell 6 rfl
        have f6 := c4.froz 6 rfl
        have e7 := c4.cell 7 rfl
        have f7 := c4.froz 7 rfl
        have e8 := c4.cell 8 rfl
        have f8 := c4.froz 8 rfl
        have hlt4 := c4.lt
        have HC4 := Lib.hid c4
        clear c4
        have hq5 := q_step HQ0.out J
        go_wp2_with fail
        refine body_world (fun W => Below w.heap.size w W ∧ Blk W w.heap.size [i6 0, u3 0, .bool false, i6 0, i6 0, .bool false, i6 0, i6 0, i6 0]) ⟨by (repeat' (first | with_reducible exact Below.refl _ _ | with_reducible assumption | with_reducible refine q_alloc ?_ _ | with_reducible refine q_drew ?_ | with_reducible refine q_drewN _ ?_ | with_reducible refine q_setCell ?_ ?_ _ | (left; simp; done) | (right; simp; done) | (right; dsimp only; omega) | (left; dsimp only; omega))), (((((((((HC4.out.set 0 _ (by simp) rfl).set 1 _ (by simp) rfl).set 2 _ (by simp) rfl).set 3 _ (by simp) rfl).set 4 _ (by simp) rfl).set 5 _ (by simp) rfl).set 6 _ (by simp) rfl).set 7 _ (by simp) rfl).set 8 _ (by simp) rfl)⟩ ?_
        intro W9 ⟨hq9, b9⟩
        clear e0 f0 e1 f1 e2 f2 e3 f3 e4 f4 e5 f5 e6 f6 e7 f7 e8 f8
        have e0 := b9.cell 0 rfl
        have e1 := b9.cell 1 rfl
        have e2 := b9.cell 2 rfl
        have e3 := b9.cell 3 rfl
        have e4 := b9.cell 4 rfl
        have e5 := b9.cell 5 rfl
        have e6 := b9.cell 6 rfl
        have e7 := b9.cell 7 rfl
        have e8 := b9.cell 8 rfl
        exact bodyPost_ret (v := .tuple #[zeroG, .bool false]) (by simp [results, Try.results14, go_sem, e0, e1, e2, e3, e4, e5, e6, e7, e8]) rfl ⟨zeroGr, false, rfl, ⟨HRR.out _ HFD.out, fun _ => rfl⟩, hq9⟩
  · simp only [Bool.false_eq_true, if_false, if_true] at hcM
    have g2 : ¬ (255 : Int) < c := by omega
    have g3 : ¬ (5 : Int) < c := by omega
    clear hcM
    go_enter Try.func14, Try.ntmps14
    go_upto_region 1 with fail
    refine code_world (fun W => Below w.heap.size w W ∧ Blk W w.heap.size [i6 0, u3 0, .bool false, i6 0, i6 0, .bool false, i6 0, i6 0, i6 0]) ⟨by (repeat' (first | with_reducible exact Below.refl _ _ | with_reducible assumption | with_reducible refine q_alloc ?_ _ | with_reducible refine q_drew ?_ | with_reducible refine q_drewN _ ?_ | with_reducible refine q_setCell ?_ ?_ _ | (left; simp; done) | (right; simp; done) | (right; dsimp only; omega) | (left; dsimp only; omega))), Blk.new rfl⟩ ?_
    intro W0 ⟨hq0, c4⟩
    have HQ0 := Lib.hid hq0
    have B0 := Lib.hid c4
    have hlt1 := c4.lt
    clear hq0 c4
    go_wp2_with fail
    go_loopw [12] (fun i wr => ∃ k : Nat, k ≤ inn ∧ i = .int .i64 k ∧ Hid (NoneUp true c m gs is k) ∧ Below W0.heap.size W0 wr)
      (fun i _ => inn - (intOf i).toNat)
    case atStart => exact ⟨0, Nat.zero_le _, rfl, Lib.hid (noneUp_zero _ _ _ _ _), Below.refl _ _⟩
    case round =>
      obtain ⟨k, hk, rfl, hno, J⟩ := hrel
      obtain ⟨wo, rfl⟩ : ∃ wo : World, wo = wr := ⟨_, rfl⟩
      by_cases hlt : k < inn
      · have hki : (k : Int) < inn := by omega
        obtain ⟨ib, ioff, rfl, hcs⟩ := cell_u3 HS.out HIN.out (by omega)
        obtain ⟨id, hx⟩ : ∃ id, is[k]? = some id := ⟨_, List.getElem?_eq_getElem (by rw [HIN.out]; exact hlt)⟩
        have z0 := stick (cell_below HQ0.out (hcs k id hx))
        have HX := Lib.hid hx
        have HNO := hno
        clear hcs hx hno
        go_wp2_with fail
        go_loopw [13] (fun i wr => ∃ q : Nat, q ≤ n ∧ i = .int .i64 q ∧ Hid (∀ (j : Nat) (y : G), j < q → gs[j]? = some y → actB id true c m y = false) ∧ Below W0.heap.size W0 wr)
          (fun i _ => n - (intOf i).toNat)
        case atStart => exact ⟨0, Nat.zero_le _, rfl, Lib.hid (fun j y hj => by omega), J⟩
        case round =>
          clear J
          obtain ⟨q, hq', rfl, hnq, J⟩ := hrel
          by_cases hqlt : q < n
          · obtain ⟨gb, off, rfl, hgb, hlay⟩ := HAF.out (by omega)
            obtain ⟨x, hgx⟩ : ∃ x, gs[q]? = some x := ⟨_, List.getElem?_eq_getElem (by rw [HN.out]; exact hqlt)⟩
            have hqi : (q : Int) < (n : Int) := by omega
            have hlx := fun j u hj => cell_below HQ0.out (hlay q x hgx j u hj)
            have hgw : gb ≠ w.heap.size := by omega
            have hnm := fun h => no_more hnq.out hgx h
            have HGX := Lib.hid hgx
            clear hgx hlay
            obtain ⟨a0, a1, a2, a3, a4, a5, a6, a7, a8⟩ := x
            have y0 := stick (hlx 0 _ rfl)
            rw [Nat.add_zero] at y0
            have y1 := stick (hlx 1 _ rfl)
            have y2 := stick (hlx 2 _ rfl)
            have y3 := stick (hlx 3 _ rfl)
            have y4 := stick (hlx 4 _ rfl)
            have y5 := stick (hlx 5 _ rfl)
            have y6 := stick (hlx 6 _ rfl)
            have y7 := stick (hlx 7 _ rfl)
            have y8 := stick (hlx 8 _ rfl)
            dsimp only at y0 y1 y2 y3 y4 y5 y6 y7 y8
            clear hlx
            have HSP := Lib.hid (act_split id true c m ⟨a0, a1, a2, a3, a4, a5, a6, a7, a8⟩)
            have HNM := Lib.hid hnm
            clear hnm
            by_cases hid : a1 = id
            · subst hid
              obtain ⟨R, hR⟩ : ∃ R, ractB true c m ⟨a0, a1, a2, a3, a4, a5, a6, a7, a8⟩ = R := ⟨_, rfl⟩
              have HR := Lib.hid hR
              have HA : Hid (actB a1 true c m ⟨a0, a1, a2, a3, a4, a5, a6, a7, a8⟩ = R) := Lib.hid (by rw [HSP.out, hR]; simp)
              clear hR
              go_upto_region 9 with fail
              go_region_held3 (fun w' => Below W0.heap.size W0 w')
                (first | with_reducible exact J | with_reducible exact J.drew | (exact by (repeat' (first | with_reducible exact Below.refl _ _ | with_reducible assumption | with_reducible refine q_alloc ?_ _ | with_reducible refine q_drew ?_ | with_reducible refine q_drewN _ ?_ | with_reducible refine q_setCell ?_ ?_ _ | (left; simp; done) | (right; simp; done) | (right; dsimp only; omega) | (left; dsimp only; omega)))))
                (first
                  | (go_at_call 20; refine (ract_any ⟨a0, a1, a2, a3, a4, a5, a6, a7, a8⟩ true c m _).mono ?_; rintro e w6 ⟨rfl, hb⟩; rw [HR.out]; have J5 : Below W0.heap.size W0 w6 := q_step (by first | with_reducible exact J | with_reducible exact J.drew | (exact by (repeat' (first | with_reducible exact Below.refl _ _ | with_reducible assumption | with_reducible refine q_alloc ?_ _ | with_reducible refine q_drew ?_ | with_reducible refine q_drewN _ ?_ | with_reducible refine q_setCell ?_ ?_ _ | (left; simp; done) | (right; simp; done) | (right; dsimp only; omega) | (left; dsimp only; omega))))) hb; replace J := J5; clear J5 hb))
              all_goals
                cases R with
                | false =>
                  have HNM2 := Lib.hid (HNM.out HA.out)
                  go_wp2_with fail
                  go_roundw
                  case rel => exact ⟨q + 1, by omega, by go_num, HNM2, J⟩
                  case measure => simp [intOf] <;> omega
                | true =>
                  have HFD := Lib.hid (noneUp_hit HNO.out HX.out HGX.out HA.out hnq.out)
                  have c4 := B0.out.below J
                  have e0 := c4.cell 0 rfl
                  have f0 := c4.froz 0 rfl
                  have e1 := c4.cell 1 rfl
                  have f1 := c4.froz 1 rfl
                  have e2 := c4.cell 2 rfl
                  have f2 := c4.froz 2 rfl
                  have e3 := c4.cell 3 rfl
                  have f3 := c4.froz 3 rfl
                  have e4 := c4.cell 4 rfl
                  have f4 := c4.froz 4 rfl
                  have e5 := c4.cell 5 rfl
                  have f5 := c4.froz 5 rfl
                  have e6 := c4.cell 6 rfl
                  have f6 := c4.froz 6 rfl
                  have e7 := c4.cell 7 rfl
                  have f7 := c4.froz 7 rfl
                  have e8 := c4.cell 8 rfl
                  have f8 := c4.froz 8 rfl
                  have hlt4 := c4.lt
                  have HC4 := Lib.hid c4
                  clear c4
                  have hq5 := q_step HQ0.out J
                  clear hnq z0
                  go_wp2_with fail
                  refine body_world (fun W => Below w.heap.size w W ∧ Blk W w.heap.size (gL ⟨a0, a1, a2, a3, a4, a5, a6, a7, a8⟩)) ⟨by (repeat' (first | with_reducible exact Below.refl _ _ | with_reducible assumption | with_reducible refine q_alloc ?_ _ | with_reducible refine q_drew ?_ | with_reducible refine q_drewN _ ?_ | with_reducible refine q_setCell ?_ ?_ _ | (left; simp; done) | (right; simp; done) | (right; dsimp only; omega) | (left; dsimp only; omega))), (((((((((HC4.out.set 0 _ (by simp) rfl).set 1 _ (by simp) rfl).set 2 _ (by simp) rfl).set 3 _ (by simp) rfl).set 4 _ (by simp) rfl).set 5 _ (by simp) rfl).set 6 _ (by simp) rfl).set 7 _ (by simp) rfl).set 8 _ (by simp) rfl)⟩ ?_
                  intro W9 ⟨hq9, b9⟩
                  clear e0 f0 e1 f1 e2 f2 e3 f3 e4 f4 e5 f5 e6 f6 e7 f7 e8 f8
                  have e0 := b9.cell 0 rfl
                  have e1 := b9.cell 1 rfl
                  have e2 := b9.cell 2 rfl
                  have e3 := b9.cell 3 rfl
                  have e4 := b9.cell 4 rfl
                  have e5 := b9.cell 5 rfl
                  have e6 := b9.cell 6 rfl
                  have e7 := b9.cell 7 rfl
                  have e8 := b9.cell 8 rfl
                  exact bodyPost_ret (v := .tuple #[gV ⟨a0, a1, a2, a3, a4, a5, a6, a7, a8⟩, .bool true]) (by simp [results, Try.results14, go_sem, e0, e1, e2, e3, e4, e5, e6, e7, e8]) rfl ⟨⟨a0, a1, a2, a3, a4, a5, a6, a7, a8⟩, true, rfl, ⟨HRR.out _ HFD.out, by simp⟩, hq9⟩
            · have hub : (a1 == id) = false := by simpa using hid
              have HNM2 := Lib.hid (HNM.out (by rw [HSP.out]; simp [hid]))
              clear hid
              go_wp2_with fail
              go_quiet (fail)
              all_goals
                go_wp2_with fail
                go_roundw
                case rel => exact ⟨q + 1, by omega, by go_num, HNM2, by (repeat' (first | with_reducible exact Below.refl _ _ | with_reducible assumption | with_reducible refine q_alloc ?_ _ | with_reducible refine q_drew ?_ | with_reducible refine q_drewN _ ?_ | with_reducible refine q_setCell ?_ ?_ _ | (left; simp; done) | (right; simp; done) | (right; dsimp only; omega) | (left; dsimp only; omega)))⟩
                case measure => simp [intOf] <;> omega
          · obtain rfl : q = n := by omega
            have HNO2 := Lib.hid (noneUp_step HNO.out HX.out (fun x hx => by
              obtain ⟨j, hj, e⟩ := List.getElem_of_mem hx
              exact hnq.out j x (by rw [← HN.out]; exact hj) (by rw [List.getElem?_eq_getElem hj, e])))
            clear hnq z0
            go_wp2_with fail
            go_roundw
            case rel => exact ⟨k + 1, by omega, by go_num, HNO2, J⟩
            case measure => simp [intOf] <;> omega
      · obtain rfl : k = inn := by omega
        have HFD := Lib.hid (noneUp_end hno.out (by rw [HIN.out]; exact Nat.le_refl _))
        clear hno
        have c4 := B0.out.below J
        have e0 := c4.cell 0 rfl
        have f0 := c4.froz 0 rfl
        have e1 := c4.cell 1 rfl
        have f1 := c4.froz 1 rfl
        have e2 := c4.cell 2 rfl
        have f2 := c4.froz 2 rfl
        have e3 := c4.cell 3 rfl
        have f3 := c4.froz 3 rfl
        have e4 := c4.cell 4 rfl
        have f4 := c4.froz 4 rfl
        have e5 := c4.cell 5 rfl
        have f5 := c4.froz 5 rfl
        have e6 := c4.cell 6 rfl
        have f6 := c4.froz 6 rfl
        have e7 := c4.cell 7 rfl
        have f7 := c4.froz 7 rfl
        have e8 := c4.cell 8 rfl
        have f8 := c4.froz 8 rfl
        have hlt4 := c4.lt
        have HC4 := Lib.hid c4
        clear c4
        have hq5 := q_step HQ0.out J
        go_wp2_with fail
        refine body_world (fun W => Below w.heap.size w W ∧ Blk W w.heap.size [i6 0, u3 0, .bool false, i6 0, i6 0, .bool false, i6 0, i6 0, i6 0]) ⟨by (repeat' (first | with_reducible exact Below.refl _ _ | with_reducible assumption | with_reducible refine q_alloc ?_ _ | with_reducible refine q_drew ?_ | with_reducible refine q_drewN _ ?_ | with_reducible refine q_setCell ?_ ?_ _ | (left; simp; done) | (right; simp; done) | (right; dsimp only; omega) | (left; dsimp only; omega))), (((((((((HC4.out.set 0 _ (by simp) rfl).set 1 _ (by simp) rfl).set 2 _ (by simp) rfl).set 3 _ (by simp) rfl).set 4 _ (by simp) rfl).set 5 _ (by simp) rfl).set 6 _ (by simp) rfl).set 7 _ (by simp) rfl).set 8 _ (by simp) rfl)⟩ ?_
        intro W9 ⟨hq9, b9⟩
        clear e0 f0 e1 f1 e2 f2 e3 f3 e4 f4 e5 f5 e6 f6 e7 f7 e8 f8
        have e0 := b9.cell 0 rfl
        have e1 := b9.cell 1 rfl
        have e2 := b9.cell 2 rfl
        have e3 := b9.cell 3 rfl
        have e4 := b9.cell 4 rfl
        have e5 := b9.cell 5 rfl
        have e6 := b9.cell 6 rfl
        have e7 := b9.cell 7 rfl
        have e8 := b9.cell 8 rfl
        exact bodyPost_ret (v := .tuple #[zeroG, .bool false]) (by simp [results, Try.results14, go_sem, e0, e1, e2, e3, e4, e5, e6, e7, e8]) rfl ⟨zeroGr, false, rfl, ⟨HRR.out _ HFD.out, fun _ => rfl⟩, hq9⟩
theorem rfind_any (v : Value) (gs : List G) (ia : Option Addr) (inn ic : Nat) (is : List Int) (b : Bool) (c m : Int) (w : World) (hv : IsG w v gs) (hl : gs.length ≤ 1000) (hs : IsInts w .u32 (.slice ia inn ic) is) (hin : is.length = inn) (hil : inn ≤ 1000) :
    Calls Try.prog 14 #[v, .slice ia inn ic, .bool b, i6 c, i6 m] w fun e w' => ∃ (x : G) (o : Bool), e = .returned (.tuple #[gV x, .bool o]) ∧ FoundIs b c m is gs x o ∧ Below w.heap.size w w' := by
  by_cases h : c < 1 ∨ mostC b < c
  · refine (rfind_out v _ gs b c m w h).mono ?_
    rintro e w' ⟨rfl, hb⟩
    exact ⟨zeroGr, false, rfl, ⟨findR_out h, fun _ => rfl⟩, hb⟩
  · exact rfind_in v gs ia inn ic is b c m w hv hl hs hin hil (by omega) (by omega)
end Go.Proofs.Ytmcndiljldbkcaa
