/- Layer 38: the function values. -/
import Derived.Test.YtmcndiljldbkcaaPs3
namespace Go.Proofs.Ytmcndiljldbkcaa
open Go Go.RowKit
set_option linter.unusedSimpArgs false
set_option linter.unusedVariables false
def conflB (g x : G) : Bool := !decide (x.cl = g.cl) && meetG g x
def likeB (g x : G) : Bool := decide (x.cl = g.cl) && decide (x.wi = g.wi) && (x.bu == g.bu) && decide (x.co = g.co) && decide (x.mo = g.mo)
set_option maxRecDepth 100000 in
set_option maxHeartbeats 4000000 in
theorem confl_any (b : Nat) (g x : G) (w : World) (hb : Blk w b (gL g)) : Calls Try.prog 32 #[gV x, .pointer (some ⟨b, 0, none⟩)] w fun e w' => e = .returned (.bool (conflB g x)) ∧ Below w.heap.size w w' := by
  have d0 := hb.cell 0 rfl
  have d1 := hb.cell 1 rfl
  have d2 := hb.cell 2 rfl
  have d3 := hb.cell 3 rfl
  have d4 := hb.cell 4 rfl
  have d5 := hb.cell 5 rfl
  have d6 := hb.cell 6 rfl
  have d7 := hb.cell 7 rfl
  have d8 := hb.cell 8 rfl
  have hlt := hb.lt
  have hmt := fun W => meet_any g x W
  have HM := Lib.hid hmt
  unfold conflB
  generalize hm : meetG g x = M at HM
  clear hm hb hmt
  obtain ⟨a0, a1, a2, a3, a4, a5, a6, a7, a8⟩ := g
  obtain ⟨b0, b1, b2, b3, b4, b5, b6, b7, b8⟩ := x
  dsimp only at HM d0 d1 d2 d3 d4 d5 d6 d7 d8 ⊢
  have hne : b ≠ w.heap.size := by omega
  by_cases hc : b0 = a0
  · subst hc
    go_enter Try.func32, Try.ntmps32
    go_wp2_with fail
    go_returns
    exact ⟨by first | rfl | (simp; done), by (repeat' (first | with_reducible exact Below.refl _ _ | with_reducible assumption | with_reducible refine q_alloc ?_ _ | with_reducible refine q_drew ?_ | with_reducible refine q_drewN _ ?_ | with_reducible refine q_setCell ?_ ?_ _ | (left; simp; done) | (right; simp; done) | (right; dsimp only; omega) | (left; dsimp only; omega)))⟩
  · have ec : (b0 != a0) = true := by simpa using hc
    have ed : decide (b0 = a0) = false := decide_eq_false hc
    rw [ed]
    go_enter Try.func32, Try.ntmps32
    go_wp2_with fail
    refine (HM.out _).mono ?_
    rintro e w1 ⟨rfl, hb1⟩
    go_wp2_with fail
    go_returns
    exact ⟨by first | rfl | (simp; done), q_step (by (repeat' (first | with_reducible exact Below.refl _ _ | with_reducible assumption | with_reducible refine q_alloc ?_ _ | with_reducible refine q_drew ?_ | with_reducible refine q_drewN _ ?_ | with_reducible refine q_setCell ?_ ?_ _ | (left; simp; done) | (right; simp; done) | (right; dsimp only; omega) | (left; dsimp only; omega)))) hb1⟩
theorem press5 (a0 a1 : Int) (a2 : Bool) (a3 a4 : Int) (a5 : Bool) (a6 a7 a8 : Int) (w : World) : Calls Try.prog 34 #[.agg #[i6 a0, u3 a1, .bool a2, i6 a3, i6 a4, .bool a5, i6 a6, i6 a7, i6 a8]] w fun e w' => e = .returned (.agg #[i6 a0, u3 a1, .bool a2, i6 a3, i6 a4]) ∧ Below w.heap.size w w' := press_any ⟨a0, a1, a2, a3, a4, a5, a6, a7, a8⟩ w
set_option maxRecDepth 100000 in
set_option maxHeartbeats 8000000 in
theorem like_any (b : Nat) (g x : G) (w : World) (hb : Blk w b (gL g)) : Calls Try.prog 33 #[gV x, .pointer (some ⟨b, 0, none⟩)] w fun e w' => e = .returned (.bool (likeB g x)) ∧ Below w.heap.size w w' := by
  have hlt := hb.lt
  unfold likeB
  obtain ⟨a0, a1, a2, a3, a4, a5, a6, a7, a8⟩ := g
  obtain ⟨b0, b1, b2, b3, b4, b5, b6, b7, b8⟩ := x
  dsimp only
  have HB : Hid (Blk w b [i6 a0, u3 a1, .bool a2, i6 a3, i6 a4, .bool a5, i6 a6, i6 a7, i6 a8]) := Lib.hid hb
  clear hb
  have hne : b ≠ w.heap.size := by omega
  by_cases h0 : b0 = a0
  · subst h0
    by_cases h1 : b1 = a1
    · subst h1
      by_cases h2 : b2 = a2
      · subst h2
        by_cases h3 : b3 = a3
        · subst h3
          by_cases h4 : b4 = a4
          · subst h4
            simp only [decide_true, Bool.true_and, beq_self_eq_true]
            go_enter Try.func33, Try.ntmps33
            go_upto_region 1 with fail
            refine code_world (fun W => Below w.heap.size w W ∧ Blk W b [i6 b0, u3 b1, .bool b2, i6 b3, i6 b4, .bool a5, i6 a6, i6 a7, i6 a8] ∧ Blk W w.heap.size [i6 b0, u3 b1, .bool b2, i6 b3, i6 b4, .bool b5, i6 b6, i6 b7, i6 b8]) ⟨by (repeat' (first | with_reducible exact Below.refl _ _ | with_reducible assumption | with_reducible refine q_alloc ?_ _ | with_reducible refine q_drew ?_ | with_reducible refine q_drewN _ ?_ | with_reducible refine q_setCell ?_ ?_ _ | (left; simp; done) | (right; simp; done) | (right; dsimp only; omega) | (left; dsimp only; omega))), HB.out.alloc _, Blk.new rfl⟩ ?_
            intro W1 ⟨J1, c1, c2⟩
            generalize w.heap.size = g2 at c2 ⊢
            have x0 := stick (c1.cell 0 rfl)
            have y0 := stick (c2.cell 0 rfl)
            have x1 := stick (c1.cell 1 rfl)
            have y1 := stick (c2.cell 1 rfl)
            have x2 := stick (c1.cell 2 rfl)
            have y2 := stick (c2.cell 2 rfl)
            have x3 := stick (c1.cell 3 rfl)
            have y3 := stick (c2.cell 3 rfl)
            have x4 := stick (c1.cell 4 rfl)
            have y4 := stick (c2.cell 4 rfl)
            have x5 := stick (c1.cell 5 rfl)
            have y5 := stick (c2.cell 5 rfl)
            have x6 := stick (c1.cell 6 rfl)
            have y6 := stick (c2.cell 6 rfl)
            have x7 := stick (c1.cell 7 rfl)
            have y7 := stick (c2.cell 7 rfl)
            have x8 := stick (c1.cell 8 rfl)
            have y8 := stick (c2.cell 8 rfl)
            have HJ := Lib.hid J1
            have J : Below W1.heap.size W1 W1 := Below.refl _ _
            clear c1 c2 J1
            go_region_held3 (fun w' => Below W1.heap.size W1 w')
              (first | exact J | exact J.drew | exact q_alloc J _ | exact q_alloc J.drew _ | (exact by (repeat' (first | with_reducible exact Below.refl _ _ | with_reducible assumption | with_reducible refine q_alloc ?_ _ | with_reducible refine q_drew ?_ | with_reducible refine q_drewN _ ?_ | with_reducible refine q_setCell ?_ ?_ _ | (left; simp; done) | (right; simp; done) | (right; dsimp only; omega) | (left; dsimp only; omega)))))
              (first | (go_at_call 34; refine (press5 _ _ _ _ _ _ _ _ _ _).mono ?_; rintro e w5 ⟨rfl, hb⟩; have J5 : Below W1.heap.size W1 w5 := q_step (by first | exact J | exact J.drew | exact q_alloc J _ | exact q_alloc J.drew _ | (exact by (repeat' (first | with_reducible exact Below.refl _ _ | with_reducible assumption | with_reducible refine q_alloc ?_ _ | with_reducible refine q_drew ?_ | with_reducible refine q_drewN _ ?_ | with_reducible refine q_setCell ?_ ?_ _ | (left; simp; done) | (right; simp; done) | (right; dsimp only; omega) | (left; dsimp only; omega))))) hb; replace J := J5; clear J5 hb))
            all_goals (go_wp2_with fail; go_returns; exact ⟨by first | rfl | (simp; done), q_step HJ.out (by (repeat' (first | with_reducible exact Below.refl _ _ | with_reducible assumption | with_reducible refine q_alloc ?_ _ | with_reducible refine q_drew ?_ | with_reducible refine q_drewN _ ?_ | with_reducible refine q_setCell ?_ ?_ _ | (left; simp; done) | (right; simp; done) | (right; dsimp only; omega) | (left; dsimp only; omega))))⟩)
          · have ed : decide (b4 = a4) = false := decide_eq_false h4
            have ee : (b4 == a4) = false := by simpa using h4
            rw [ed, Bool.and_false]
            go_enter Try.func33, Try.ntmps33
            go_upto_region 1 with fail
            refine code_world (fun W => Below w.heap.size w W ∧ Blk W b [i6 b0, u3 b1, .bool b2, i6 b3, i6 a4, .bool a5, i6 a6, i6 a7, i6 a8] ∧ Blk W w.heap.size [i6 b0, u3 b1, .bool b2, i6 b3, i6 b4, .bool b5, i6 b6, i6 b7, i6 b8]) ⟨by (repeat' (first | with_reducible exact Below.refl _ _ | with_reducible assumption | with_reducible refine q_alloc ?_ _ | with_reducible refine q_drew ?_ | with_reducible refine q_drewN _ ?_ | with_reducible refine q_setCell ?_ ?_ _ | (left; simp; done) | (right; simp; done) | (right; dsimp only; omega) | (left; dsimp only; omega))), HB.out.alloc _, Blk.new rfl⟩ ?_
            intro W1 ⟨J1, c1, c2⟩
            generalize w.heap.size = g2 at c2 ⊢
            have x0 := stick (c1.cell 0 rfl)
            have y0 := stick (c2.cell 0 rfl)
            have x1 := stick (c1.cell 1 rfl)
            have y1 := stick (c2.cell 1 rfl)
            have x2 := stick (c1.cell 2 rfl)
            have y2 := stick (c2.cell 2 rfl)
            have x3 := stick (c1.cell 3 rfl)
            have y3 := stick (c2.cell 3 rfl)
            have x4 := stick (c1.cell 4 rfl)
            have y4 := stick (c2.cell 4 rfl)
            have x5 := stick (c1.cell 5 rfl)
            have y5 := stick (c2.cell 5 rfl)
            have x6 := stick (c1.cell 6 rfl)
            have y6 := stick (c2.cell 6 rfl)
            have x7 := stick (c1.cell 7 rfl)
            have y7 := stick (c2.cell 7 rfl)
            have x8 := stick (c1.cell 8 rfl)
            have y8 := stick (c2.cell 8 rfl)
            have HJ := Lib.hid J1
            have J : Below W1.heap.size W1 W1 := Below.refl _ _
            clear c1 c2 J1
            go_region_held3 (fun w' => Below W1.heap.size W1 w')
              (first | exact J | exact J.drew | exact q_alloc J _ | exact q_alloc J.drew _ | (exact by (repeat' (first | with_reducible exact Below.refl _ _ | with_reducible assumption | with_reducible refine q_alloc ?_ _ | with_reducible refine q_drew ?_ | with_reducible refine q_drewN _ ?_ | with_reducible refine q_setCell ?_ ?_ _ | (left; simp; done) | (right; simp; done) | (right; dsimp only; omega) | (left; dsimp only; omega)))))
              (first | (go_at_call 34; refine (press5 _ _ _ _ _ _ _ _ _ _).mono ?_; rintro e w5 ⟨rfl, hb⟩; have J5 : Below W1.heap.size W1 w5 := q_step (by first | exact J | exact J.drew | exact q_alloc J _ | exact q_alloc J.drew _ | (exact by (repeat' (first | with_reducible exact Below.refl _ _ | with_reducible assumption | with_reducible refine q_alloc ?_ _ | with_reducible refine q_drew ?_ | with_reducible refine q_drewN _ ?_ | with_reducible refine q_setCell ?_ ?_ _ | (left; simp; done) | (right; simp; done) | (right; dsimp only; omega) | (left; dsimp only; omega))))) hb; replace J := J5; clear J5 hb))
            all_goals (go_wp2_with fail; go_returns; exact ⟨by first | rfl | (simp; done), q_step HJ.out (by (repeat' (first | with_reducible exact Below.refl _ _ | with_reducible assumption | with_reducible refine q_alloc ?_ _ | with_reducible refine q_drew ?_ | with_reducible refine q_drewN _ ?_ | with_reducible refine q_setCell ?_ ?_ _ | (left; simp; done) | (right; simp; done) | (right; dsimp only; omega) | (left; dsimp only; omega))))⟩)
        · have ed : decide (b3 = a3) = false := decide_eq_false h3
          have ee : (b3 == a3) = false := by simpa using h3
          rw [ed, Bool.and_false, Bool.false_and]
          go_enter Try.func33, Try.ntmps33
          go_upto_region 1 with fail
          refine code_world (fun W => Below w.heap.size w W ∧ Blk W b [i6 b0, u3 b1, .bool b2, i6 a3, i6 a4, .bool a5, i6 a6, i6 a7, i6 a8] ∧ Blk W w.heap.size [i6 b0, u3 b1, .bool b2, i6 b3, i6 b4, .bool b5, i6 b6, i6 b7, i6 b8]) ⟨by (repeat' (first | with_reducible exact Below.refl _ _ | with_reducible assumption | with_reducible refine q_alloc ?_ _ | with_reducible refine q_drew ?_ | with_reducible refine q_drewN _ ?_ | with_reducible refine q_setCell ?_ ?_ _ | (left; simp; done) | (right; simp; done) | (right; dsimp only; omega) | (left; dsimp only; omega))), HB.out.alloc _, Blk.new rfl⟩ ?_
          intro W1 ⟨J1, c1, c2⟩
          generalize w.heap.size = g2 at c2 ⊢
          have x0 := stick (c1.cell 0 rfl)
          have y0 := stick (c2.cell 0 rfl)
          have x1 := stick (c1.cell 1 rfl)
          have y1 := stick (c2.cell 1 rfl)
          have x2 := stick (c1.cell 2 rfl)
          have y2 := stick (c2.cell 2 rfl)
          have x3 := stick (c1.cell 3 rfl)
          have y3 := stick (c2.cell 3 rfl)
          have x4 := stick (c1.cell 4 rfl)
          have y4 := stick (c2.cell 4 rfl)
          have x5 := stick (c1.cell 5 rfl)
          have y5 := stick (c2.cell 5 rfl)
          have x6 := stick (c1.cell 6 rfl)
          have y6 := stick (c2.cell 6 rfl)
          have x7 := stick (c1.cell 7 rfl)
          have y7 := stick (c2.cell 7 rfl)
          have x8 := stick (c1.cell 8 rfl)
          have y8 := stick (c2.cell 8 rfl)
          have HJ := Lib.hid J1
          have J : Below W1.heap.size W1 W1 := Below.refl _ _
          clear c1 c2 J1
          go_region_held3 (fun w' => Below W1.heap.size W1 w')
            (first | exact J | exact J.drew | exact q_alloc J _ | exact q_alloc J.drew _ | (exact by (repeat' (first | with_reducible exact Below.refl _ _ | with_reducible assumption | with_reducible refine q_alloc ?_ _ | with_reducible refine q_drew ?_ | with_reducible refine q_drewN _ ?_ | with_reducible refine q_setCell ?_ ?_ _ | (left; simp; done) | (right; simp; done) | (right; dsimp only; omega) | (left; dsimp only; omega)))))
            (first | (go_at_call 34; refine (press5 _ _ _ _ _ _ _ _ _ _).mono ?_; rintro e w5 ⟨rfl, hb⟩; have J5 : Below W1.heap.size W1 w5 := q_step (by first | exact J | exact J.drew | exact q_alloc J _ | exact q_alloc J.drew _ | (exact by (repeat' (first | with_reducible exact Below.refl _ _ | with_reducible assumption | with_reducible refine q_alloc ?_ _ | with_reducible refine q_drew ?_ | with_reducible refine q_drewN _ ?_ | with_reducible refine q_setCell ?_ ?_ _ | (left; simp; done) | (right; simp; done) | (right; dsimp only; omega) | (left; dsimp only; omega))))) hb; replace J := J5; clear J5 hb))
          all_goals (go_wp2_with fail; go_returns; exact ⟨by first | rfl | (simp; done), q_step HJ.out (by (repeat' (first | with_reducible exact Below.refl _ _ | with_reducible assumption | with_reducible refine q_alloc ?_ _ | with_reducible refine q_drew ?_ | with_reducible refine q_drewN _ ?_ | with_reducible refine q_setCell ?_ ?_ _ | (left; simp; done) | (right; simp; done) | (right; dsimp only; omega) | (left; dsimp only; omega))))⟩)
      · have ee : (b2 == a2) = false := by simpa using h2
        rw [ee, Bool.and_false, Bool.false_and, Bool.false_and]
        cases b2 <;> cases a2
        · exact absurd rfl h2
        · clear ee
          go_enter Try.func33, Try.ntmps33
          go_upto_region 1 with fail
          refine code_world (fun W => Below w.heap.size w W ∧ Blk W b [i6 b0, u3 b1, .bool true, i6 a3, i6 a4, .bool a5, i6 a6, i6 a7, i6 a8] ∧ Blk W w.heap.size [i6 b0, u3 b1, .bool false, i6 b3, i6 b4, .bool b5, i6 b6, i6 b7, i6 b8]) ⟨by (repeat' (first | with_reducible exact Below.refl _ _ | with_reducible assumption | with_reducible refine q_alloc ?_ _ | with_reducible refine q_drew ?_ | with_reducible refine q_drewN _ ?_ | with_reducible refine q_setCell ?_ ?_ _ | (left; simp; done) | (right; simp; done) | (right; dsimp only; omega) | (left; dsimp only; omega))), HB.out.alloc _, Blk.new rfl⟩ ?_
          intro W1 ⟨J1, c1, c2⟩
          generalize w.heap.size = g2 at c2 ⊢
          have x0 := stick (c1.cell 0 rfl)
          have y0 := stick (c2.cell 0 rfl)
          have x1 := stick (c1.cell 1 rfl)
          have y1 := stick (c2.cell 1 rfl)
          have x2 := stick (c1.cell 2 rfl)
          have y2 := stick (c2.cell 2 rfl)
          have x3 := stick (c1.cell 3 rfl)
          have y3 := stick (c2.cell 3 rfl)
          have x4 := stick (c1.cell 4 rfl)
          have y4 := stick (c2.cell 4 rfl)
          have x5 := stick (c1.cell 5 rfl)
          have y5 := stick (c2.cell 5 rfl)
          have x6 := stick (c1.cell 6 rfl)
          have y6 := stick (c2.cell 6 rfl)
          have x7 := stick (c1.cell 7 rfl)
          have y7 := stick (c2.cell 7 rfl)
          have x8 := stick (c1.cell 8 rfl)
          have y8 := stick (c2.cell 8 rfl)
          have HJ := Lib.hid J1
          have J : Below W1.heap.size W1 W1 := Below.refl _ _
          clear c1 c2 J1
          go_region_held3 (fun w' => Below W1.heap.size W1 w')
            (first | exact J | exact J.drew | exact q_alloc J _ | exact q_alloc J.drew _ | (exact by (repeat' (first | with_reducible exact Below.refl _ _ | with_reducible assumption | with_reducible refine q_alloc ?_ _ | with_reducible refine q_drew ?_ | with_reducible refine q_drewN _ ?_ | with_reducible refine q_setCell ?_ ?_ _ | (left; simp; done) | (right; simp; done) | (right; dsimp only; omega) | (left; dsimp only; omega)))))
            (first | (go_at_call 34; refine (press5 _ _ _ _ _ _ _ _ _ _).mono ?_; rintro e w5 ⟨rfl, hb⟩; have J5 : Below W1.heap.size W1 w5 := q_step (by first | exact J | exact J.drew | exact q_alloc J _ | exact q_alloc J.drew _ | (exact by (repeat' (first | with_reducible exact Below.refl _ _ | with_reducible assumption | with_reducible refine q_alloc ?_ _ | with_reducible refine q_drew ?_ | with_reducible refine q_drewN _ ?_ | with_reducible refine q_setCell ?_ ?_ _ | (left; simp; done) | (right; simp; done) | (right; dsimp only; omega) | (left; dsimp only; omega))))) hb; replace J := J5; clear J5 hb))
          all_goals (go_wp2_with fail; go_returns; exact ⟨by first | rfl | (simp; done), q_step HJ.out (by (repeat' (first | with_reducible exact Below.refl _ _ | with_reducible assumption | with_reducible refine q_alloc ?_ _ | with_reducible refine q_drew ?_ | with_reducible refine q_drewN _ ?_ | with_reducible refine q_setCell ?_ ?_ _ | (left; simp; done) | (right; simp; done) | (right; dsimp only; omega) | (left; dsimp only; omega))))⟩)
        · clear ee
          go_enter Try.func33, Try.ntmps33
          go_upto_region 1 with fail
          refine code_world (fun W => Below w.heap.size w W ∧ Blk W b [i6 b0, u3 b1, .bool false, i6 a3, i6 a4, .bool a5, i6 a6, i6 a7, i6 a8] ∧ Blk W w.heap.size [i6 b0, u3 b1, .bool true, i6 b3, i6 b4, .bool b5, i6 b6, i6 b7, i6 b8]) ⟨by (repeat' (first | with_reducible exact Below.refl _ _ | with_reducible assumption | with_reducible refine q_alloc ?_ _ | with_reducible refine q_drew ?_ | with_reducible refine q_drewN _ ?_ | with_reducible refine q_setCell ?_ ?_ _ | (left; simp; done) | (right; simp; done) | (right; dsimp only; omega) | (left; dsimp only; omega))), HB.out.alloc _, Blk.new rfl⟩ ?_
          intro W1 ⟨J1, c1, c2⟩
          generalize w.heap.size = g2 at c2 ⊢
          have x0 := stick (c1.cell 0 rfl)
          have y0 := stick (c2.cell 0 rfl)
          have x1 := stick (c1.cell 1 rfl)
          have y1 := stick (c2.cell 1 rfl)
          have x2 := stick (c1.cell 2 rfl)
          have y2 := stick (c2.cell 2 rfl)
          have x3 := stick (c1.cell 3 rfl)
          have y3 := stick (c2.cell 3 rfl)
          have x4 := stick (c1.cell 4 rfl)
          have y4 := stick (c2.cell 4 rfl)
          have x5 := stick (c1.cell 5 rfl)
          have y5 := stick (c2.cell 5 rfl)
          have x6 := stick (c1.cell 6 rfl)
          have y6 := stick (c2.cell 6 rfl)
          have x7 := stick (c1.cell 7 rfl)
          have y7 := stick (c2.cell 7 rfl)
          have x8 := stick (c1.cell 8 rfl)
          have y8 := stick (c2.cell 8 rfl)
          have HJ := Lib.hid J1
          have J : Below W1.heap.size W1 W1 := Below.refl _ _
          clear c1 c2 J1
          go_region_held3 (fun w' => Below W1.heap.size W1 w')
            (first | exact J | exact J.drew | exact q_alloc J _ | exact q_alloc J.drew _ | (exact by (repeat' (first | with_reducible exact Below.refl _ _ | with_reducible assumption | with_reducible refine q_alloc ?_ _ | with_reducible refine q_drew ?_ | with_reducible refine q_drewN _ ?_ | with_reducible refine q_setCell ?_ ?_ _ | (left; simp; done) | (right; simp; done) | (right; dsimp only; omega) | (left; dsimp only; omega)))))
            (first | (go_at_call 34; refine (press5 _ _ _ _ _ _ _ _ _ _).mono ?_; rintro e w5 ⟨rfl, hb⟩; have J5 : Below W1.heap.size W1 w5 := q_step (by first | exact J | exact J.drew | exact q_alloc J _ | exact q_alloc J.drew _ | (exact by (repeat' (first | with_reducible exact Below.refl _ _ | with_reducible assumption | with_reducible refine q_alloc ?_ _ | with_reducible refine q_drew ?_ | with_reducible refine q_drewN _ ?_ | with_reducible refine q_setCell ?_ ?_ _ | (left; simp; done) | (right; simp; done) | (right; dsimp only; omega) | (left; dsimp only; omega))))) hb; replace J := J5; clear J5 hb))
          all_goals (go_wp2_with fail; go_returns; exact ⟨by first | rfl | (simp; done), q_step HJ.out (by (repeat' (first | with_reducible exact Below.refl _ _ | with_reducible assumption | with_reducible refine q_alloc ?_ _ | with_reducible refine q_drew ?_ | with_reducible refine q_drewN _ ?_ | with_reducible refine q_setCell ?_ ?_ _ | (left; simp; done) | (right; simp; done) | (right; dsimp only; omega) | (left; dsimp only; omega))))⟩)
        · exact absurd rfl h2
    · have ed : decide (b1 = a1) = false := decide_eq_false h1
      have ee : (b1 == a1) = false := by simpa using h1
      rw [ed, Bool.and_false, Bool.false_and, Bool.false_and, Bool.false_and]
      go_enter Try.func33, Try.ntmps33
      go_upto_region 1 with fail
      refine code_world (fun W => Below w.heap.size w W ∧ Blk W b [i6 b0, u3 a1, .bool a2, i6 a3, i6 a4, .bool a5, i6 a6, i6 a7, i6 a8] ∧ Blk W w.heap.size [i6 b0, u3 b1, .bool b2, i6 b3, i6 b4, .bool b5, i6 b6, i6 b7, i6 b8]) ⟨by (repeat' (first | with_reducible exact Below.refl _ _ | with_reducible assumption | with_reducible refine q_alloc ?_ _ | with_reducible refine q_drew ?_ | with_reducible refine q_drewN _ ?_ | with_reducible refine q_setCell ?_ ?_ _ | (left; simp; done) | (right; simp; done) | (right; dsimp only; omega) | (left; dsimp only; omega))), HB.out.alloc _, Blk.new rfl⟩ ?_
      intro W1 ⟨J1, c1, c2⟩
      generalize w.heap.size = g2 at c2 ⊢
      have x0 := stick (c1.cell 0 rfl)
      have y0 := stick (c2.cell 0 rfl)
      have x1 := stick (c1.cell 1 rfl)
      have y1 := stick (c2.cell 1 rfl)
      have x2 := stick (c1.cell 2 rfl)
      have y2 := stick (c2.cell 2 rfl)
      have x3 := stick (c1.cell 3 rfl)
      have y3 := stick (c2.cell 3 rfl)
      have x4 := stick (c1.cell 4 rfl)
      have y4 := stick (c2.cell 4 rfl)
      have x5 := stick (c1.cell 5 rfl)
      have y5 := stick (c2.cell 5 rfl)
      have x6 := stick (c1.cell 6 rfl)
      have y6 := stick (c2.cell 6 rfl)
      have x7 := stick (c1.cell 7 rfl)
      have y7 := stick (c2.cell 7 rfl)
      have x8 := stick (c1.cell 8 rfl)
      have y8 := stick (c2.cell 8 rfl)
      have HJ := Lib.hid J1
      have J : Below W1.heap.size W1 W1 := Below.refl _ _
      clear c1 c2 J1
      go_region_held3 (fun w' => Below W1.heap.size W1 w')
        (first | exact J | exact J.drew | exact q_alloc J _ | exact q_alloc J.drew _ | (exact by (repeat' (first | with_reducible exact Below.refl _ _ | with_reducible assumption | with_reducible refine q_alloc ?_ _ | with_reducible refine q_drew ?_ | with_reducible refine q_drewN _ ?_ | with_reducible refine q_setCell ?_ ?_ _ | (left; simp; done) | (right; simp; done) | (right; dsimp only; omega) | (left; dsimp only; omega)))))
        (first | (go_at_call 34; refine (press5 _ _ _ _ _ _ _ _ _ _).mono ?_; rintro e w5 ⟨rfl, hb⟩; have J5 : Below W1.heap.size W1 w5 := q_step (by first | exact J | exact J.drew | exact q_alloc J _ | exact q_alloc J.drew _ | (exact by (repeat' (first | with_reducible exact Below.refl _ _ | with_reducible assumption | with_reducible refine q_alloc ?_ _ | with_reducible refine q_drew ?_ | with_reducible refine q_drewN _ ?_ | with_reducible refine q_setCell ?_ ?_ _ | (left; simp; done) | (right; simp; done) | (right; dsimp only; omega) | (left; dsimp only; omega))))) hb; replace J := J5; clear J5 hb))
      all_goals (go_wp2_with fail; go_returns; exact ⟨by first | rfl | (simp; done), q_step HJ.out (by (repeat' (first | with_reducible exact Below.refl _ _ | with_reducible assumption | with_reducible refine q_alloc ?_ _ | with_reducible refine q_drew ?_ | with_reducible refine q_drewN _ ?_ | with_reducible refine q_setCell ?_ ?_ _ | (left; simp; done) | (right; simp; done) | (right; dsimp only; omega) | (left; dsimp only; omega))))⟩)
  · have ed : decide (b0 = a0) = false := decide_eq_false h0
    have ee : (b0 == a0) = false := by simpa using h0
    rw [ed, Bool.false_and, Bool.false_and, Bool.false_and, Bool.false_and]
    go_enter Try.func33, Try.ntmps33
    go_upto_region 1 with fail
    refine code_world (fun W => Below w.heap.size w W ∧ Blk W b [i6 a0, u3 a1, .bool a2, i6 a3, i6 a4, .bool a5, i6 a6, i6 a7, i6 a8] ∧ Blk W w.heap.size [i6 b0, u3 b1, .bool b2, i6 b3, i6 b4, .bool b5, i6 b6, i6 b7, i6 b8]) ⟨by (repeat' (first | with_reducible exact Below.refl _ _ | with_reducible assumption | with_reducible refine q_alloc ?_ _ | with_reducible refine q_drew ?_ | with_reducible refine q_drewN _ ?_ | with_reducible refine q_setCell ?_ ?_ _ | (left; simp; done) | (right; simp; done) | (right; dsimp only; omega) | (left; dsimp only; omega))), HB.out.alloc _, Blk.new rfl⟩ ?_
    intro W1 ⟨J1, c1, c2⟩
    generalize w.heap.size = g2 at c2 ⊢
    have x0 := stick (c1.cell 0 rfl)
    have y0 := stick (c2.cell 0 rfl)
    have x1 := stick (c1.cell 1 rfl)
    have y1 := stick (c2.cell 1 rfl)
    have x2 := stick (c1.cell 2 rfl)
    have y2 := stick (c2.cell 2 rfl)
    have x3 := stick (c1.cell 3 rfl)
    have y3 := stick (c2.cell 3 rfl)
    have x4 := stick (c1.cell 4 rfl)
    have y4 := stick (c2.cell 4 rfl)
    have x5 := stick (c1.cell 5 rfl)
    have y5 := stick (c2.cell 5 rfl)
    have x6 := stick (c1.cell 6 rfl)
    have y6 := stick (c2.cell 6 rfl)
    have x7 := stick (c1.cell 7 rfl)
    have y7 := stick (c2.cell 7 rfl)
    have x8 := stick (c1.cell 8 rfl)
    have y8 := stick (c2.cell 8 rfl)
    have HJ := Lib.hid J1
    have J : Below W1.heap.size W1 W1 := Below.refl _ _
    clear c1 c2 J1
    go_region_held3 (fun w' => Below W1.heap.size W1 w')
      (first | exact J | exact J.drew | exact q_alloc J _ | exact q_alloc J.drew _ | (exact by (repeat' (first | with_reducible exact Below.refl _ _ | with_reducible assumption | with_reducible refine q_alloc ?_ _ | with_reducible refine q_drew ?_ | with_reducible refine q_drewN _ ?_ | with_reducible refine q_setCell ?_ ?_ _ | (left; simp; done) | (right; simp; done) | (right; dsimp only; omega) | (left; dsimp only; omega)))))
      (first | (go_at_call 34; refine (press5 _ _ _ _ _ _ _ _ _ _).mono ?_; rintro e w5 ⟨rfl, hb⟩; have J5 : Below W1.heap.size W1 w5 := q_step (by first | exact J | exact J.drew | exact q_alloc J _ | exact q_alloc J.drew _ | (exact by (repeat' (first | with_reducible exact Below.refl _ _ | with_reducible assumption | with_reducible refine q_alloc ?_ _ | with_reducible refine q_drew ?_ | with_reducible refine q_drewN _ ?_ | with_reducible refine q_setCell ?_ ?_ _ | (left; simp; done) | (right; simp; done) | (right; dsimp only; omega) | (left; dsimp only; omega))))) hb; replace J := J5; clear J5 hb))
    all_goals (go_wp2_with fail; go_returns; exact ⟨by first | rfl | (simp; done), q_step HJ.out (by (repeat' (first | with_reducible exact Below.refl _ _ | with_reducible assumption | with_reducible refine q_alloc ?_ _ | with_reducible refine q_drew ?_ | with_reducible refine q_drewN _ ?_ | with_reducible refine q_setCell ?_ ?_ _ | (left; simp; done) | (right; simp; done) | (right; dsimp only; omega) | (left; dsimp only; omega))))⟩)
end Go.Proofs.Ytmcndiljldbkcaa
