/- The least rectangle about some: theory, and the program's Box. -/
import Derived.Test.YtlofhbeifgaoeaaDoorRect14
namespace Go.Proofs.YtlofhbeifgaoeaaDoor
open Go Go.RowKit
set_option linter.unusedSimpArgs false
set_option linter.unusedVariables false

/-- Box by box: r's box, with one more rectangle that counts. -/
def JoinIs (a b c d p q s t a' b' c' d' : Int) : Prop :=
  (s = 0 ∧ a' = a ∧ b' = b ∧ c' = c ∧ d' = d) ∨ (1 ≤ s ∧ c = 0 ∧ a' = p ∧ b' = q ∧ c' = s ∧ d' = t) ∨
  (1 ≤ s ∧ 1 ≤ c ∧ a' = min a p ∧ b' = min b q ∧ c' = max (a + c) (p + s) - min a p ∧ d' = max (b + d) (q + t) - min b q)
def goodR (r : R4) : Bool := wideB r.1 r.2.2.1 && wideB r.2.1 r.2.2.2
def normR (r : R4) : R4 := if goodR r then r else (0, 0, 0, 0)
theorem normR_norm (r : R4) : Norm r.1 r.2.1 r.2.2.1 r.2.2.2 (normR r).1 (normR r).2.1 (normR r).2.2.1 (normR r).2.2.2 := by
  unfold normR
  by_cases g : goodR r = true
  · rw [if_pos g]
    unfold goodR at g
    rw [Bool.and_eq_true] at g
    exact Or.inl ⟨g, rfl, rfl, rfl, rfl⟩
  · rw [if_neg g]
    refine Or.inr ⟨fun h => g ?_, rfl, rfl, rfl, rfl⟩
    unfold goodR
    rw [Bool.and_eq_true]
    exact h
def joinR (b r : R4) : R4 :=
  if r.2.2.1 = 0 then b else if b.2.2.1 = 0 then r else
    (min b.1 r.1, min b.2.1 r.2.1, max (b.1 + b.2.2.1) (r.1 + r.2.2.1) - min b.1 r.1, max (b.2.1 + b.2.2.2) (r.2.1 + r.2.2.2) - min b.2.1 r.2.1)
def boxR (rs : List R4) : R4 := rs.foldl (fun b r => joinR b (normR r)) (0, 0, 0, 0)
/-- A rectangle that counts, or none. -/
def OkR (r : R4) : Prop := Norm r.1 r.2.1 r.2.2.1 r.2.2.2 r.1 r.2.1 r.2.2.1 r.2.2.2
theorem okR_zero : OkR (0, 0, 0, 0) := Or.inr ⟨fun g => by have := g.bounds; dsimp only at this; omega, rfl, rfl, rfl, rfl⟩
theorem okR_norm (r : R4) : OkR (normR r) := norm_idem (normR_norm r)
theorem okR_of {a b c d : Int} (g : 1 ≤ c ∧ -1048576 ≤ a ∧ a + c ≤ 1048576 ∧ 1 ≤ d ∧ -1048576 ≤ b ∧ b + d ≤ 1048576) : OkR (a, b, c, d) := Or.inl ⟨good_mk g, rfl, rfl, rfl, rfl⟩
theorem OkR.bounds {r : R4} (h : OkR r) : 0 ≤ r.2.2.1 ∧ r.2.2.1 ≤ 2097152 ∧ -1048576 ≤ r.1 ∧ r.1 ≤ 1048576 ∧ r.1 + r.2.2.1 ≤ 1048576 ∧ 0 ≤ r.2.2.2 ∧ r.2.2.2 ≤ 2097152 ∧ -1048576 ≤ r.2.1 ∧ r.2.1 ≤ 1048576 ∧ r.2.1 + r.2.2.2 ≤ 1048576 ∧ ((r.2.2.1 = 0 ∧ r.2.2.2 = 0 ∧ r.1 = 0 ∧ r.2.1 = 0) ∨ (1 ≤ r.2.2.1 ∧ 1 ≤ r.2.2.2)) := by
  have := Norm.bounds h
  omega
theorem okR_join {b r : R4} (hb : OkR b) (hr : OkR r) : OkR (joinR b r) := by
  obtain ⟨a, b, c, d⟩ := b
  obtain ⟨p, q, s, t⟩ := r
  have b1 := hb.bounds
  have b2 := hr.bounds
  dsimp only at b1 b2
  unfold joinR
  dsimp only
  split
  · exact hb
  · split
    · exact hr
    · exact okR_of (by omega)
theorem okR_foldl : ∀ (rs : List R4) (b : R4), OkR b → OkR (rs.foldl (fun b r => joinR b (normR r)) b)
  | [], b, h => h
  | r :: rs, b, h => okR_foldl rs _ (okR_join h (okR_norm r))
theorem okR_box (rs : List R4) : OkR (boxR rs) := okR_foldl rs _ okR_zero
theorem boxR_step {rs : List R4} {k : Nat} {r : R4} (h : rs[k]? = some r) : boxR (rs.take (k + 1)) = joinR (boxR (rs.take k)) (normR r) := by
  rw [List.take_add_one, h]
  simp [boxR]
theorem zeroB_c {a b c d : Int} (h : OkR (a, b, c, d)) : zeroB a b c d = decide (c = 0) := by
  have := h.bounds
  dsimp only at this
  unfold zeroB
  rw [decide_eq_decide]
  omega

def boxInv (w : World) (rs : List R4) (k : Nat) (wr : World) : Prop :=
  Below w.heap.size w wr ∧ Blk wr w.heap.size [i6 0, i6 0, i6 0, i6 0] ∧ Blk wr (w.heap.size + 1) (cellR (boxR (rs.take k)))

set_option maxRecDepth 100000 in
set_option maxHeartbeats 8000000 in
theorem box_some (bb off cap : Nat) (rs : List R4) (w : World) (hs : RowAt 0 noneCells w) (hbb : bb < w.heap.size) (hlen : rs.length ≤ 100000) (hl : LayR w bb off rs) :
    Calls Tryd.prog 25 #[.slice (some ⟨bb, off, none⟩) rs.length cap] w fun e w' => e = .returned (.agg #[i6 (boxR rs).1, i6 (boxR rs).2.1, i6 (boxR rs).2.2.1, i6 (boxR rs).2.2.2]) ∧ Below w.heap.size w w' := by
  have HS := Lib.hid hs
  have HL := Lib.hid hl
  have hbox := okR_box rs
  clear hs hl
  go_enter Tryd.func25, Tryd.ntmps25
  go_wp2_with (with_reducible refine at_load 23 (.global 0) ?_; refine wpList_load_cells rfl 23 _ rfl 0 rfl noneCells _ (HS.out.alloc _) Tryd.underlying23 rfl sizeRect ?_)
  go_loopw [9] (fun i wr => ∃ k : Nat, k ≤ rs.length ∧ i = .int .i64 k ∧ boxInv w rs k wr)
    (fun i _ => rs.length - (intOf i).toNat)
  case atStart =>
    refine ⟨0, by omega, rfl, by (repeat' (first | with_reducible exact Below.refl _ _ | with_reducible assumption | with_reducible refine q_alloc ?_ _ | with_reducible refine q_drew ?_ | with_reducible refine q_drewN _ ?_ | with_reducible refine q_setCell ?_ ?_ _ | (left; simp; done) | (right; simp; done) | (right; dsimp only; omega) | (left; dsimp only; omega))), ?_, ?_⟩
    · exact (Blk.new rfl).alloc _
    · exact blk_new1 rfl
  case round =>
    obtain ⟨k, hk, rfl, hnx, hb0, hb1⟩ := hrel
    by_cases hlt : k < rs.length
    · have hlk : rs[k]? = some rs[k] := List.getElem?_eq_getElem hlt
      obtain ⟨d0, d1, d2, d3⟩ := HL.out.below hnx k _ hlk
      have hstep := boxR_step hlk
      clear hlk
      generalize rs[k] = re at hstep d0 d1 d2 d3
      have hn := normR_norm re
      have hok := okR_norm re
      have hbo := okR_box (rs.take k)
      generalize boxR (rs.take k) = bx at hb1 hstep hbo
      generalize normR re = rn at hn hok hstep
      obtain ⟨x, y, r, h⟩ := re
      obtain ⟨p, q, s, t⟩ := rn
      obtain ⟨a, b, c, d⟩ := bx
      dsimp only at d0 d1 d2 d3 hn
      have HN := Lib.hid hn
      have HST := Lib.hid hstep
      have HOK := Lib.hid hok
      have HBO := Lib.hid hbo
      clear hn hstep hok hbo
      go_wp2_with fail
      refine calls_world (fun W => Below w.heap.size w W ∧ Blk W w.heap.size [i6 0, i6 0, i6 0, i6 0] ∧ Blk W (w.heap.size + 1) [i6 a, i6 b, i6 c, i6 d] ∧ Blk W wr.heap.size [i6 x, i6 y, i6 r, i6 h]) ⟨by (repeat' (first | with_reducible exact Below.refl _ _ | with_reducible assumption | with_reducible refine q_alloc ?_ _ | with_reducible refine q_drew ?_ | with_reducible refine q_drewN _ ?_ | with_reducible refine q_setCell ?_ ?_ _ | (left; simp; done) | (right; simp; done) | (right; dsimp only; omega) | (left; dsimp only; omega))), hb0.alloc _, hb1.alloc _, Blk.new rfl⟩ ?_
      intro W1 ⟨hq1, g0, g1, g2⟩
      refine (right_norm x y r h p q s t _ (HS.out.below hq1) HN.out).mono ?_
      rintro e w2 ⟨rfl, hb⟩
      have hq2 := q_step hq1 hb
      have k0 := g0.below hb
      have k1 := g1.below hb
      have k2 := g2.below hb
      clear hb g0 g1 g2 hq1
      have hwl := hnx.size
      have hne0 : wr.heap.size ≠ w.heap.size := by have := hb0.lt; omega
      have hne1 : wr.heap.size ≠ w.heap.size + 1 := by have := hb1.lt; omega
      have k2c0 := k2.cell 0 rfl
      have k2f0 := k2.froz 0 rfl
      have k2c1 := k2.cell 1 rfl
      have k2f1 := k2.froz 1 rfl
      have k2c2 := k2.cell 2 rfl
      have k2f2 := k2.froz 2 rfl
      have k2c3 := k2.cell 3 rfl
      have k2f3 := k2.froz 3 rfl
      clear d0 d1 d2 d3
      go_upto_region 7 with fail
      refine code_world (fun W => Below w.heap.size w W ∧ Blk W w.heap.size [i6 0, i6 0, i6 0, i6 0] ∧ Blk W (w.heap.size + 1) [i6 a, i6 b, i6 c, i6 d] ∧ Blk W wr.heap.size [i6 p, i6 q, i6 s, i6 t]) ⟨set4_q hq2 hwl, k0.far4 hne0, k1.far4 hne1, k2.set4⟩ ?_
      intro W3 ⟨hq3, g0, g1, g2⟩
      clear k0 k1 k2 hq2 k2c0 k2f0 k2c1 k2f1 k2c2 k2f2 k2c3 k2f3
      have g2c0 := g2.cell 0 rfl
      have g2f0 := g2.froz 0 rfl
      have g2c1 := g2.cell 1 rfl
      have g2f1 := g2.froz 1 rfl
      have g2c2 := g2.cell 2 rfl
      have g2f2 := g2.froz 2 rfl
      have g2c3 := g2.cell 3 rfl
      have g2f3 := g2.froz 3 rfl
      have g1c0 := g1.cell 0 rfl
      have g1f0 := g1.froz 0 rfl
      have g1c1 := g1.cell 1 rfl
      have g1f1 := g1.froz 1 rfl
      have g1c2 := g1.cell 2 rfl
      have g1f2 := g1.froz 2 rfl
      have g1c3 := g1.cell 3 rfl
      have g1f3 := g1.froz 3 rfl
      have bs := HOK.out.bounds
      have bc := HBO.out.bounds
      dsimp only at bs bc
      have hzs := zeroB_c HOK.out
      have hzc := zeroB_c HBO.out
      by_cases hs0 : s = 0
      · have hfin : boxR (rs.take (k + 1)) = (a, b, c, d) := by rw [HST.out]; unfold joinR; rw [if_pos hs0]
        obtain ⟨rfl, rfl, rfl, rfl⟩ : p = 0 ∧ q = 0 ∧ s = 0 ∧ t = 0 := by omega
        have HZ := Lib.hid (show zeroB 0 0 0 0 = true from rfl)
        have HF := Lib.hid hfin
        clear hzs hzc bs bc hs0 hfin
        go_wp2_with (first | (with_reducible refine at_load 23 (.global 0) ?_; refine wpList_load_cells rfl 23 _ rfl 0 rfl noneCells _ (HS.out.below hq3) Tryd.underlying23 rfl sizeRect ?_) | (with_reducible refine at_bin .eql 23 ?_; first | refine wpList_eqAgg rfl .eql 23 _ _ _ rfl _ _ rfl rfl eqgRect (rect_eqlz HZ.out _) ?_ | refine wpList_eqAgg rfl .eql 23 _ _ _ rfl _ _ rfl rfl eqgRect (rect_eqlz HZ2.out _) ?_))
        go_roundw
        case rel => exact ⟨k + 1, by omega, by go_num, hq3, g0, by rw [HF.out]; exact g1⟩
        case measure => simp [intOf]; omega
      · rw [decide_eq_false hs0] at hzs
        have HZ := Lib.hid hzs
        by_cases hc0 : c = 0
        · have hfin : boxR (rs.take (k + 1)) = (p, q, s, t) := by rw [HST.out]; unfold joinR; rw [if_neg hs0, if_pos hc0]
          obtain ⟨rfl, rfl, rfl, rfl⟩ : a = 0 ∧ b = 0 ∧ c = 0 ∧ d = 0 := by omega
          have HZ2 := Lib.hid (show zeroB 0 0 0 0 = true from rfl)
          have HF := Lib.hid hfin
          clear hzs hzc bs bc hs0 hfin
          go_wp2_with (first | (with_reducible refine at_load 23 (.global 0) ?_; refine wpList_load_cells rfl 23 _ rfl 0 rfl noneCells _ (HS.out.below hq3) Tryd.underlying23 rfl sizeRect ?_) | (with_reducible refine at_bin .eql 23 ?_; first | refine wpList_eqAgg rfl .eql 23 _ _ _ rfl _ _ rfl rfl eqgRect (rect_eqlz HZ.out _) ?_ | refine wpList_eqAgg rfl .eql 23 _ _ _ rfl _ _ rfl rfl eqgRect (rect_eqlz HZ2.out _) ?_))
          go_roundw
          case rel => exact ⟨k + 1, by omega, by go_num, set4_q hq3 (by omega), g0.far4 (by omega), by rw [HF.out]; exact g1.set4⟩
          case measure => simp [intOf]; omega
        · rw [decide_eq_false hc0] at hzc
          have HZ2 := Lib.hid hzc
          have hfin : boxR (rs.take (k + 1)) = (min a p, min b q, max (a + c) (p + s) - min a p, max (b + d) (q + t) - min b q) := by rw [HST.out]; unfold joinR; rw [if_neg hs0, if_neg hc0]
          have HF := Lib.hid hfin
          clear hzs hzc hfin
          have W1' : IntKind.i64.wrap (a + c) = a + c := IntWalk.i64_in _ (by omega)
          have W2' : IntKind.i64.wrap (p + s) = p + s := IntWalk.i64_in _ (by omega)
          have W3' : IntKind.i64.wrap (b + d) = b + d := IntWalk.i64_in _ (by omega)
          have W4' : IntKind.i64.wrap (q + t) = q + t := IntWalk.i64_in _ (by omega)
          obtain ⟨X0, hX0⟩ : ∃ X0, (if p < a then p else a) = X0 := ⟨_, rfl⟩
          obtain ⟨Y0, hY0⟩ : ∃ Y0, (if q < b then q else b) = Y0 := ⟨_, rfl⟩
          obtain ⟨X1, hX1⟩ : ∃ X1, (if a + c < p + s then p + s else a + c) = X1 := ⟨_, rfl⟩
          obtain ⟨Y1, hY1⟩ : ∃ Y1, (if b + d < q + t then q + t else b + d) = Y1 := ⟨_, rfl⟩
          have hb4 : X0 = min a p ∧ Y0 = min b q ∧ X1 = max (a + c) (p + s) ∧ Y1 = max (b + d) (q + t) := by omega
          have hnb : Betw X0 Y0 X1 Y1 X0 Y0 (X1 - X0) (Y1 - Y0) := Or.inl ⟨by omega, by omega, rfl, rfl, rfl, rfl⟩
          have hbd : -4194304 ≤ X0 ∧ X1 ≤ 4194304 ∧ -4194304 ≤ Y0 ∧ Y1 ≤ 4194304 := by omega
          have HB4 := Lib.hid hb4
          have HNB := Lib.hid hnb
          have HBD := Lib.hid hbd
          clear bs bc hb4 hnb hbd hs0 hc0
          go_upto_region 6 with (first | (with_reducible refine at_load 23 (.global 0) ?_; refine wpList_load_cells rfl 23 _ rfl 0 rfl noneCells _ (HS.out.below hq3) Tryd.underlying23 rfl sizeRect ?_) | (with_reducible refine at_bin .eql 23 ?_; first | refine wpList_eqAgg rfl .eql 23 _ _ _ rfl _ _ rfl rfl eqgRect (rect_eqlz HZ.out _) ?_ | refine wpList_eqAgg rfl .eql 23 _ _ _ rfl _ _ rfl rfl eqgRect (rect_eqlz HZ2.out _) ?_))
          clear HZ HZ2 HST HOK HBO HN
          go_wp2_with fail
          refine (betw_any X0 Y0 X1 Y1 _ _ _ _ _ (HS.out.below hq3) HNB.out HBD.out.1 HBD.out.2.1 HBD.out.2.2.1 HBD.out.2.2.2).mono ?_
          rintro e w4 ⟨rfl, hb⟩
          have hq4 := q_step hq3 hb
          have k0 := g0.below hb
          have k1 := g1.below hb
          have hfin : boxR (rs.take (k + 1)) = (X0, Y0, X1 - X0, Y1 - Y0) := by rw [HF.out]; obtain ⟨e1, e2, e3, e4⟩ := HB4.out; rw [e1, e2, e3, e4]
          clear hb HB4 HNB HBD HF hX0 hY0 hX1 hY1 W1' W2' W3' W4' hq3 g0 g1 g2 g2c0 g2c1 g2c2 g2c3 g2f0 g2f1 g2f2 g2f3 g1c0 g1c1 g1c2 g1c3 g1f0 g1f1 g1f2 g1f3
          have k1c0 := k1.cell 0 rfl
          have k1c1 := k1.cell 1 rfl
          have k1c2 := k1.cell 2 rfl
          have k1c3 := k1.cell 3 rfl
          have k1f0 := k1.froz 0 rfl
          have k1f1 := k1.froz 1 rfl
          have k1f2 := k1.froz 2 rfl
          have k1f3 := k1.froz 3 rfl
          have HF := Lib.hid hfin
          clear hfin
          generalize X1 - X0 = X2 at HF ⊢
          generalize Y1 - Y0 = Y2 at HF ⊢
          go_wp2_with fail
          go_roundw
          case rel => exact ⟨k + 1, by omega, by go_num, set4_q hq4 (by omega), k0.far4 (by omega), by rw [HF.out]; exact k1.set4⟩
          case measure => simp [intOf]; omega
    · have hkl : k = rs.length := by omega
      subst hkl
      rw [List.take_length] at hb1
      obtain ⟨a, b, c, d, hbx⟩ : ∃ a b c d, boxR rs = (a, b, c, d) := ⟨_, _, _, _, rfl⟩
      rw [hbx] at hb1
      have HBX := Lib.hid hbx
      clear hbx hbox
      have c0 := hb1.cell 0 rfl
      have c1 := hb1.cell 1 rfl
      have c2 := hb1.cell 2 rfl
      have c3 := hb1.cell 3 rfl
      have e0 := hb0.cell 0 rfl
      have e1 := hb0.cell 1 rfl
      have e2 := hb0.cell 2 rfl
      have e3 := hb0.cell 3 rfl
      have f0 := hb0.froz 0 rfl
      have f1 := hb0.froz 1 rfl
      have f2 := hb0.froz 2 rfl
      have f3 := hb0.froz 3 rfl
      have z0 := hb0.lt
      have z1 := hb1.lt
      go_wp2_with fail
      refine body_world (fun W => Below w.heap.size w W ∧ Blk W w.heap.size [i6 a, i6 b, i6 c, i6 d]) ⟨set4_q hnx (Nat.le_refl _), hb0.set4⟩ ?_
      intro W9 ⟨hq9, k9⟩
      have c90 := k9.cell 0 rfl
      have c91 := k9.cell 1 rfl
      have c92 := k9.cell 2 rfl
      have c93 := k9.cell 3 rfl
      exact bodyPost_ret (v := rectV a b c d) (by simp [results, Tryd.results25, go_sem, c90, c91, c92, c93]) rfl ⟨by rw [HBX.out], hq9⟩

theorem box_none (a : Option Addr) (cap : Nat) (w : World) (hs : RowAt 0 noneCells w) :
    Calls Tryd.prog 25 #[.slice a 0 cap] w fun e w' => e = .returned (rectV 0 0 0 0) ∧ Below w.heap.size w w' := by
  have HS := Lib.hid hs
  clear hs
  go_enter Tryd.func25, Tryd.ntmps25
  go_wp2_with (with_reducible refine at_load 23 (.global 0) ?_; refine wpList_load_cells rfl 23 _ rfl 0 rfl noneCells _ (HS.out.alloc _) Tryd.underlying23 rfl sizeRect ?_)
  refine wp_loop_rounds 1 ?_
  rw [rounds_succ]
  go_wp2_with fail
  refine body_world (fun W => Below w.heap.size w W ∧ Blk W w.heap.size [i6 0, i6 0, i6 0, i6 0]) ⟨by (repeat' (first | with_reducible exact Below.refl _ _ | with_reducible assumption | with_reducible refine q_alloc ?_ _ | with_reducible refine q_drew ?_ | with_reducible refine q_drewN _ ?_ | with_reducible refine q_setCell ?_ ?_ _ | (left; simp; done) | (right; simp; done) | (right; dsimp only; omega) | (left; dsimp only; omega))), (Blk.new rfl).alloc _⟩ ?_
  intro W9 ⟨hq9, k9⟩
  have c90 := k9.cell 0 rfl
  have c91 := k9.cell 1 rfl
  have c92 := k9.cell 2 rfl
  have c93 := k9.cell 3 rfl
  exact bodyPost_ret (v := rectV 0 0 0 0) (by simp [results, Tryd.results25, go_sem, c90, c91, c92, c93]) rfl ⟨rfl, hq9⟩
/-- The least rectangle about all of a slice's. -/
theorem box_any (v : Value) (rs : List R4) (w : World) (hs : RowAt 0 noneCells w) (h : IsRects w v rs) (hlen : rs.length ≤ 100000) :
    Calls Tryd.prog 25 #[v] w fun e w' => e = .returned (rectV (boxR rs).1 (boxR rs).2.1 (boxR rs).2.2.1 (boxR rs).2.2.2) ∧ Below w.heap.size w w' := by
  rcases h with ⟨a, cap, rfl, rfl⟩ | ⟨b, off, cap, rfl, _, _, _, hb, hl⟩
  · exact box_none a cap w hs
  · exact box_some b off cap rs w hs hb hlen hl
end Go.Proofs.YtlofhbeifgaoeaaDoor
