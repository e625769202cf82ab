import Derived.Test.YtlofhbeifgaoeaaDoorRect15
import Derived.Test.YtlofhbeifgaoeaaDoorRect17
import Derived.StillTailTactics
import Derived.Deep.Cut
import Derived.Deep.CutRange
import Derived.Deep.DeepCutAuto
namespace Go.Proofs.YtlofhbeifgaoeaaDoor
open Go Go.RowKit
set_option linter.unusedSimpArgs false
set_option linter.unusedVariables false

theorem t_step {w w1 w2 : World} {NB : Nat} {a b c d p q s t : Int} (h : Below w.heap.size w w1 ∧ w1.cell? ⟨w.heap.size + 1, 0, none⟩ = some (i6 a) ∧ w1.cell? ⟨w.heap.size + 1, 1, none⟩ = some (i6 b) ∧ w1.cell? ⟨w.heap.size + 1, 2, none⟩ = some (i6 c) ∧ w1.cell? ⟨w.heap.size + 1, 3, none⟩ = some (i6 d) ∧ w1.cell? ⟨NB, 0, none⟩ = some (i6 p) ∧ w1.cell? ⟨NB, 1, none⟩ = some (i6 q) ∧ w1.cell? ⟨NB, 2, none⟩ = some (i6 s) ∧ w1.cell? ⟨NB, 3, none⟩ = some (i6 t)) (hb : Below w1.heap.size w1 w2) : Below w.heap.size w w2 ∧ w2.cell? ⟨w.heap.size + 1, 0, none⟩ = some (i6 a) ∧ w2.cell? ⟨w.heap.size + 1, 1, none⟩ = some (i6 b) ∧ w2.cell? ⟨w.heap.size + 1, 2, none⟩ = some (i6 c) ∧ w2.cell? ⟨w.heap.size + 1, 3, none⟩ = some (i6 d) ∧ w2.cell? ⟨NB, 0, none⟩ = some (i6 p) ∧ w2.cell? ⟨NB, 1, none⟩ = some (i6 q) ∧ w2.cell? ⟨NB, 2, none⟩ = some (i6 s) ∧ w2.cell? ⟨NB, 3, none⟩ = some (i6 t) := by
  obtain ⟨h0, h1, h2, h3, h4, h5, h6, h7, h8⟩ := h
  exact ⟨q_step h0 hb, cell_below hb h1, cell_below hb h2, cell_below hb h3, cell_below hb h4, cell_below hb h5, cell_below hb h6, cell_below hb h7, cell_below hb h8⟩
set_option maxRecDepth 100000 in
set_option maxHeartbeats 12000000 in
theorem rbox_some (bb off cap : Nat) (rs : List R4) (w : World) (hbb : bb < w.heap.size) (hlen : rs.length ≤ 100000) (hl : LayR w bb off rs) :
    Calls Tryd.prog 26 #[.slice (some ⟨bb, off, none⟩) rs.length cap] w fun e w' => e = .returned (.agg #[i6 (boxR rs).1, i6 (boxR rs).2.1, i6 (boxR rs).2.2.1, i6 (boxR rs).2.2.2]) ∧ Below w.heap.size w w' := by
  have HL := Lib.hid hl
  clear hl
  go_enter Tryd.func26, Tryd.ntmps26
  go_wp2_with fail
  go_loopw [4] (fun i wr => ∃ k : Nat, k ≤ rs.length ∧ i = .int .i64 k ∧ boxInv w rs k wr)
    (fun i _ => rs.length - (intOf i).toNat)
  case atStart =>
    refine ⟨0, by omega, rfl, by (repeat' (first | with_reducible exact Below.refl _ _ | with_reducible assumption | with_reducible refine q_alloc ?_ _ | with_reducible refine q_drew ?_ | with_reducible refine q_drewN _ ?_ | with_reducible refine q_setCell ?_ ?_ _ | (left; simp; done) | (right; simp; done) | (right; dsimp only; omega) | (left; dsimp only; omega))), ?_, ?_⟩
    · exact (Blk.new rfl).alloc _
    · exact blk_new1 rfl
  case round =>
    obtain ⟨k, hk, rfl, hnx, hb0, hb1⟩ := hrel
    by_cases hlt : k < rs.length
    · have hlk : rs[k]? = some rs[k] := List.getElem?_eq_getElem hlt
      obtain ⟨d0, d1, d2, d3⟩ := HL.out.below hnx k _ hlk
      have hstep := boxR_step hlk
      clear hlk
      generalize rs[k] = re at hstep d0 d1 d2 d3
      have hn := normR_norm re
      have hok := okR_norm re
      have hbo := okR_box (rs.take k)
      generalize boxR (rs.take k) = bx at hb1 hstep hbo
      generalize normR re = rn at hn hok hstep
      obtain ⟨x, y, r, h⟩ := re
      obtain ⟨p, q, s, t⟩ := rn
      obtain ⟨a, b, c, d⟩ := bx
      dsimp only at d0 d1 d2 d3 hn
      have HN := Lib.hid hn
      have HST := Lib.hid hstep
      have HOK := Lib.hid hok
      have HBO := Lib.hid hbo
      clear hn hstep hok hbo
      go_wp2_with fail
      refine (as_norm HN.out _).mono ?_
      rintro e w2 ⟨rfl, hb⟩
      have hq2 := q_step hnx hb
      have k0 := hb0.below hb
      have k1 := hb1.below hb
      clear hb d0 d1 d2 d3
      have hwl := hnx.size
      have hw2 := hq2.size
      go_upto_region 6 with fail
      refine code_world (fun W => Below w.heap.size w W ∧ Blk W w.heap.size [i6 0, i6 0, i6 0, i6 0] ∧ Blk W (w.heap.size + 1) [i6 a, i6 b, i6 c, i6 d] ∧ Blk W w2.heap.size [i6 p, i6 q, i6 s, i6 t]) ⟨by (repeat' (first | with_reducible exact Below.refl _ _ | with_reducible assumption | with_reducible refine q_alloc ?_ _ | with_reducible refine q_drew ?_ | with_reducible refine q_drewN _ ?_ | with_reducible refine q_setCell ?_ ?_ _ | (left; simp; done) | (right; simp; done) | (right; dsimp only; omega) | (left; dsimp only; omega))), k0.alloc _, k1.alloc _, Blk.new rfl⟩ ?_
      have hne1 : w.heap.size + 1 < w2.heap.size := k1.lt
      intro W3 ⟨hq3, g0, g1, g2⟩
      clear k0 k1 hq2
      have g2c0 := g2.cell 0 rfl
      have g2f0 := g2.froz 0 rfl
      have g2c1 := g2.cell 1 rfl
      have g2f1 := g2.froz 1 rfl
      have g2c2 := g2.cell 2 rfl
      have g2f2 := g2.froz 2 rfl
      have g2c3 := g2.cell 3 rfl
      have g2f3 := g2.froz 3 rfl
      have g1c0 := g1.cell 0 rfl
      have g1f0 := g1.froz 0 rfl
      have g1c1 := g1.cell 1 rfl
      have g1f1 := g1.froz 1 rfl
      have g1c2 := g1.cell 2 rfl
      have g1f2 := g1.froz 2 rfl
      have g1c3 := g1.cell 3 rfl
      have g1f3 := g1.froz 3 rfl
      have g2z := g2.lt
      have bs := HOK.out.bounds
      have bc := HBO.out.bounds
      dsimp only at bs bc
      by_cases hs0 : s = 0
      · have hfin : boxR (rs.take (k + 1)) = (a, b, c, d) := by rw [HST.out]; unfold joinR; rw [if_pos hs0]
        obtain ⟨rfl, rfl, rfl, rfl⟩ : p = 0 ∧ q = 0 ∧ s = 0 ∧ t = 0 := by omega
        have HF := Lib.hid hfin
        clear bs bc hs0 hfin
        go_wp2_with fail
        go_roundw
        case rel => exact ⟨k + 1, by omega, by go_num, hq3, g0, by rw [HF.out]; exact g1⟩
        case measure => simp [intOf]; omega
      · by_cases hc0 : c = 0
        · have hfin : boxR (rs.take (k + 1)) = (p, q, s, t) := by rw [HST.out]; unfold joinR; rw [if_neg hs0, if_pos hc0]
          obtain ⟨rfl, rfl, rfl, rfl⟩ : a = 0 ∧ b = 0 ∧ c = 0 ∧ d = 0 := by omega
          have HF := Lib.hid hfin
          clear bs bc hfin
          go_wp2_with fail
          go_roundw
          case rel => exact ⟨k + 1, by omega, by go_num, set4_q hq3 (by omega), g0.far4 (by omega), by rw [HF.out]; exact g1.set4⟩
          case measure => simp [intOf]; omega
        · have hfin : boxR (rs.take (k + 1)) = (min a p, min b q, max (a + c) (p + s) - min a p, max (b + d) (q + t) - min b q) := by rw [HST.out]; unfold joinR; rw [if_neg hs0, if_neg hc0]
          have W1' : IntKind.i64.wrap (a + c) = a + c := IntWalk.i64_in _ (by omega)
          have W2' : IntKind.i64.wrap (p + s) = p + s := IntWalk.i64_in _ (by omega)
          have W3' : IntKind.i64.wrap (b + d) = b + d := IntWalk.i64_in _ (by omega)
          have W4' : IntKind.i64.wrap (q + t) = q + t := IntWalk.i64_in _ (by omega)
          have hnb : Betw (min a p) (min b q) (max (a + c) (p + s)) (max (b + d) (q + t)) (min a p) (min b q) (max (a + c) (p + s) - min a p) (max (b + d) (q + t) - min b q) := Or.inl ⟨by omega, by omega, rfl, rfl, rfl, rfl⟩
          have hbd : -4194304 ≤ min a p ∧ max (a + c) (p + s) ≤ 4194304 ∧ -4194304 ≤ min b q ∧ max (b + d) (q + t) ≤ 4194304 := by omega
          have HBD := Lib.hid hbd
          have HNB := Lib.hid hnb
          have HF := Lib.hid hfin
          clear bs hbd hnb hfin bc
          go_upto_region 9 with fail
          clear hs0 hc0 HN HST HOK HBO
          go_still_tail 32, (by kernel_rfl)
          repeat still_step
          still_call ((less_any a p _).mono fun _ _ h => ⟨h.1, h.2.symm⟩)
          repeat still_step
          still_call ((less_any b q _).mono fun _ _ h => ⟨h.1, h.2.symm⟩)
          repeat still_step
          still_call ((more_any (a + c) (p + s) _).mono fun _ _ h => ⟨h.1, h.2.symm⟩)
          repeat still_step
          still_call ((more_any (b + d) (q + t) _).mono fun _ _ h => ⟨h.1, h.2.symm⟩)
          repeat still_step
          refine wpStill_nil ?_
          change wpList _ _ _ _ _ W3.drew
          refine wpList_world (fun W => Below w.heap.size w W ∧ Blk W w.heap.size [i6 0, i6 0, i6 0, i6 0] ∧ Blk W (w.heap.size + 1) [i6 a, i6 b, i6 c, i6 d]) ⟨hq3.drew, g0.drew, g1.drew⟩ ?_
          intro W5 ⟨hq5, k0, k1⟩
          clear g0 g1 g2 hq3 g1c0 g1c1 g1c2 g1c3 g1f0 g1f1 g1f2 g1f3 g2c0 g2c1 g2c2 g2c3 g2f0 g2f1 g2f2 g2f3 g2z W1' W2' W3' W4'
          generalize min a p = X0 at HNB HBD HF ⊢
          generalize min b q = Y0 at HNB HBD HF ⊢
          generalize max (a + c) (p + s) = X1 at HNB HBD HF ⊢
          generalize max (b + d) (q + t) = Y1 at HNB HBD HF ⊢
          generalize X1 - X0 = X2 at HNB HF
          generalize Y1 - Y0 = Y2 at HNB HF
          go_wp2_with fail
          refine (rof_any X0 Y0 X1 Y1 X0 Y0 X2 Y2 _ HNB.out HBD.out.1 HBD.out.2.1 HBD.out.2.2.1 HBD.out.2.2.2).mono ?_
          rintro e w4 ⟨rfl, hb⟩
          have hq4 := q_step hq5 hb
          replace k0 := k0.below hb
          replace k1 := k1.below hb
          clear hb HNB HBD hq5
          have k1c0 := k1.cell 0 rfl
          have k1c1 := k1.cell 1 rfl
          have k1c2 := k1.cell 2 rfl
          have k1c3 := k1.cell 3 rfl
          have k1f0 := k1.froz 0 rfl
          have k1f1 := k1.froz 1 rfl
          have k1f2 := k1.froz 2 rfl
          have k1f3 := k1.froz 3 rfl
          go_wp2_with fail
          go_roundw
          case rel => exact ⟨k + 1, by omega, by go_num, set4_q hq4 (by omega), k0.far4 (by omega), by rw [HF.out]; exact k1.set4⟩
          case measure => simp [intOf]; omega
    · have hkl : k = rs.length := by omega
      subst hkl
      rw [List.take_length] at hb1
      obtain ⟨a, b, c, d, hbx⟩ : ∃ a b c d, boxR rs = (a, b, c, d) := ⟨_, _, _, _, rfl⟩
      rw [hbx] at hb1
      have HBX := Lib.hid hbx
      clear hbx
      have c0 := hb1.cell 0 rfl
      have c1 := hb1.cell 1 rfl
      have c2 := hb1.cell 2 rfl
      have c3 := hb1.cell 3 rfl
      have e0 := hb0.cell 0 rfl
      have e1 := hb0.cell 1 rfl
      have e2 := hb0.cell 2 rfl
      have e3 := hb0.cell 3 rfl
      have f0 := hb0.froz 0 rfl
      have f1 := hb0.froz 1 rfl
      have f2 := hb0.froz 2 rfl
      have f3 := hb0.froz 3 rfl
      have z0 := hb0.lt
      have z1 := hb1.lt
      go_wp2_with fail
      refine body_world (fun W => Below w.heap.size w W ∧ Blk W w.heap.size [i6 a, i6 b, i6 c, i6 d]) ⟨set4_q hnx (Nat.le_refl _), hb0.set4⟩ ?_
      intro W9 ⟨hq9, k9⟩
      have c90 := k9.cell 0 rfl
      have c91 := k9.cell 1 rfl
      have c92 := k9.cell 2 rfl
      have c93 := k9.cell 3 rfl
      exact bodyPost_ret (v := rectV a b c d) (by simp [results, Tryd.results26, go_sem, c90, c91, c92, c93]) rfl ⟨by rw [HBX.out], hq9⟩

theorem rbox_none (a : Option Addr) (cap : Nat) (w : World) :
    Calls Tryd.prog 26 #[.slice a 0 cap] w fun e w' => e = .returned (rectV 0 0 0 0) ∧ Below w.heap.size w w' := by
  go_enter Tryd.func26, Tryd.ntmps26
  go_wp2_with fail
  refine wp_loop_rounds 1 ?_
  rw [rounds_succ]
  go_wp2_with fail
  refine body_world (fun W => Below w.heap.size w W ∧ Blk W w.heap.size [i6 0, i6 0, i6 0, i6 0]) ⟨by (repeat' (first | with_reducible exact Below.refl _ _ | with_reducible assumption | with_reducible refine q_alloc ?_ _ | with_reducible refine q_drew ?_ | with_reducible refine q_drewN _ ?_ | with_reducible refine q_setCell ?_ ?_ _ | (left; simp; done) | (right; simp; done) | (right; dsimp only; omega) | (left; dsimp only; omega))), (Blk.new rfl).alloc _⟩ ?_
  intro W9 ⟨hq9, k9⟩
  have c90 := k9.cell 0 rfl
  have c91 := k9.cell 1 rfl
  have c92 := k9.cell 2 rfl
  have c93 := k9.cell 3 rfl
  exact bodyPost_ret (v := rectV 0 0 0 0) (by simp [results, Tryd.results26, go_sem, c90, c91, c92, c93]) rfl ⟨rfl, hq9⟩
theorem rbox_any (v : Value) (rs : List R4) (w : World) (h : IsRects w v rs) (hlen : rs.length ≤ 100000) :
    Calls Tryd.prog 26 #[v] w fun e w' => e = .returned (rectV (boxR rs).1 (boxR rs).2.1 (boxR rs).2.2.1 (boxR rs).2.2.2) ∧ Below w.heap.size w w' := by
  rcases h with ⟨a, cap, rfl, rfl⟩ | ⟨b, off, cap, rfl, _, _, _, hb, hl⟩
  · exact rbox_none a cap w
  · exact rbox_some b off cap rs w hb hlen hl
end Go.Proofs.YtlofhbeifgaoeaaDoor
