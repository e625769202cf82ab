/- Layer 38: PassiveMeets' walk. -/
import Derived.Test.YtmcndiljldbkcaaPs10
namespace Go.Proofs.Ytmcndiljldbkcaa
open Go Go.RowKit
set_option linter.unusedSimpArgs false
set_option linter.unusedVariables false
theorem of9 (a0 a1 : Int) (a2 : Bool) (a3 a4 : Int) (a5 : Bool) (a6 a7 a8 : Int) (w : World) : Calls Try.prog 16 #[.agg #[i6 a0, u3 a1, .bool a2, i6 a3, i6 a4, .bool a5, i6 a6, i6 a7, i6 a8]] w fun e w' => e = .returned (.agg #[i6 a0, u3 a1, .bool a2, i6 a3, i6 a4, .bool a5, i6 a6, i6 a7, i6 a8]) ∧ Below w.heap.size w w' := of_any ⟨a0, a1, a2, a3, a4, a5, a6, a7, a8⟩ w
set_option maxRecDepth 100000 in
set_option maxHeartbeats 8000000 in
theorem lmeets_any (g h : G) (w : World) : Calls Try.prog 5 #[gV g, gV h] w fun e w' => e = .returned (.bool true) ∧ Below w.heap.size w w' := by
  have HM1 := fun W => Lib.hid (meet_any g h W)
  have HM2 := fun W => Lib.hid (meet_any h g W)
  have HM3 := fun W => Lib.hid (meet_any g g W)
  have HM4 := fun W => Lib.hid (rmeet_any g h W)
  rw [meetG_symm g h] at HM2
  rw [meetG_self g] at HM3
  obtain ⟨M, hM⟩ : ∃ M, meetG g h = M := ⟨_, rfl⟩
  rw [hM] at HM1 HM2 HM4
  have O1 := fun W => Lib.hid (of_any g W)
  have O2 := fun W => Lib.hid (of_any h W)
  clear hM
  have HA := Lib.hid HM1
  have HB := Lib.hid HM2
  have HC := Lib.hid HM3
  have HD := Lib.hid HM4
  have HO1 := Lib.hid O1
  have HO2 := Lib.hid O2
  clear HM1 HM2 HM3 HM4 O1 O2
  obtain ⟨a0, a1, a2, a3, a4, a5, a6, a7, a8⟩ := g
  obtain ⟨b0, b1, b2, b3, b4, b5, b6, b7, b8⟩ := h
  go_enter Try.func5, Try.ntmps5
  go_upto_region 1 with fail
  refine code_world (fun W => Below w.heap.size w W ∧ Blk W w.heap.size [i6 a0, u3 a1, .bool a2, i6 a3, i6 a4, .bool a5, i6 a6, i6 a7, i6 a8] ∧ Blk W (w.heap.size + 1) [i6 b0, u3 b1, .bool b2, i6 b3, i6 b4, .bool b5, i6 b6, i6 b7, i6 b8]) ⟨by (repeat' (first | with_reducible exact Below.refl _ _ | with_reducible assumption | with_reducible refine q_alloc ?_ _ | with_reducible refine q_drew ?_ | with_reducible refine q_drewN _ ?_ | with_reducible refine q_setCell ?_ ?_ _ | (left; simp; done) | (right; simp; done) | (right; dsimp only; omega) | (left; dsimp only; omega))), (Blk.new rfl).alloc _, blk_new1 rfl⟩ ?_
  intro W1 ⟨J1, c1, c2⟩
  generalize w.heap.size + 1 = g2 at c2 ⊢
  generalize w.heap.size = g1 at c1 ⊢
  have x0 := stick (c1.cell 0 rfl)
  have y0 := stick (c2.cell 0 rfl)
  have x1 := stick (c1.cell 1 rfl)
  have y1 := stick (c2.cell 1 rfl)
  have x2 := stick (c1.cell 2 rfl)
  have y2 := stick (c2.cell 2 rfl)
  have x3 := stick (c1.cell 3 rfl)
  have y3 := stick (c2.cell 3 rfl)
  have x4 := stick (c1.cell 4 rfl)
  have y4 := stick (c2.cell 4 rfl)
  have x5 := stick (c1.cell 5 rfl)
  have y5 := stick (c2.cell 5 rfl)
  have x6 := stick (c1.cell 6 rfl)
  have y6 := stick (c2.cell 6 rfl)
  have x7 := stick (c1.cell 7 rfl)
  have y7 := stick (c2.cell 7 rfl)
  have x8 := stick (c1.cell 8 rfl)
  have y8 := stick (c2.cell 8 rfl)
  have HJ := Lib.hid J1
  have J : Below W1.heap.size W1 W1 := Below.refl _ _
  clear c1 c2 J1
  go_cut [5] from 6 (fun s wx => s = .bool M ∧ Below W1.heap.size W1 wx)
  case first =>
    go_region_held3 (fun w' => Below W1.heap.size W1 w')
      (first | exact J | exact J.drew | exact q_alloc J _ | exact q_alloc J.drew _ | (exact by (repeat' (first | with_reducible exact Below.refl _ _ | with_reducible assumption | with_reducible refine q_alloc ?_ _ | with_reducible refine q_drew ?_ | with_reducible refine q_drewN _ ?_ | with_reducible refine q_setCell ?_ ?_ _ | (left; simp; done) | (right; simp; done) | (right; dsimp only; omega) | (left; dsimp only; omega)))))
      (first
        | (go_at_call 16; refine (of9 _ _ _ _ _ _ _ _ _ _).mono ?_; rintro e w5 ⟨rfl, hb⟩; have J5 : Below W1.heap.size W1 w5 := q_step (by first | exact J | exact J.drew | exact q_alloc J _ | exact q_alloc J.drew _ | (exact by (repeat' (first | with_reducible exact Below.refl _ _ | with_reducible assumption | with_reducible refine q_alloc ?_ _ | with_reducible refine q_drew ?_ | with_reducible refine q_drewN _ ?_ | with_reducible refine q_setCell ?_ ?_ _ | (left; simp; done) | (right; simp; done) | (right; dsimp only; omega) | (left; dsimp only; omega))))) hb; replace J := J5; clear J5 hb)
        | (go_at_call 17; refine (Hid.out (HD.out _)).mono ?_; rintro e w5 ⟨rfl, hb⟩; have J5 : Below W1.heap.size W1 w5 := q_step (by first | exact J | exact J.drew | exact q_alloc J _ | exact q_alloc J.drew _ | (exact by (repeat' (first | with_reducible exact Below.refl _ _ | with_reducible assumption | with_reducible refine q_alloc ?_ _ | with_reducible refine q_drew ?_ | with_reducible refine q_drewN _ ?_ | with_reducible refine q_setCell ?_ ?_ _ | (left; simp; done) | (right; simp; done) | (right; dsimp only; omega) | (left; dsimp only; omega))))) hb; replace J := J5; clear J5 hb))
    all_goals (go_wp2_with fail; go_meet; exact ⟨by first | rfl | (simp; done), by (repeat' (first | with_reducible exact Below.refl _ _ | with_reducible assumption | with_reducible refine q_alloc ?_ _ | with_reducible refine q_drew ?_ | with_reducible refine q_drewN _ ?_ | with_reducible refine q_setCell ?_ ?_ _ | (left; simp; done) | (right; simp; done) | (right; dsimp only; omega) | (left; dsimp only; omega)))⟩)
  case rest =>
    obtain ⟨rfl, J4⟩ := hcut
    obtain ⟨W4, rfl⟩ : ∃ W : World, W = wc := ⟨_, rfl⟩
    replace J := J4
    clear J4
    go_wp2_with fail
    refine (Hid.out (HA.out _)).mono ?_
    rintro e w5 ⟨rfl, hb⟩
    have J5 : Below W1.heap.size W1 w5 := q_step J hb
    replace J := J5
    clear J5 hb
    go_wp2_with fail
    refine (Hid.out (HB.out _)).mono ?_
    rintro e w6 ⟨rfl, hb⟩
    have J5 : Below W1.heap.size W1 w6 := q_step J hb
    replace J := J5
    clear J5 hb
    go_wp2_with fail
    refine (Hid.out (HC.out _)).mono ?_
    rintro e w7 ⟨rfl, hb⟩
    have J5 : Below W1.heap.size W1 w7 := q_step J hb
    replace J := J5
    clear J5 hb
    go_wp2_with fail
    refine (awake38 _).mono ?_
    rintro e w8 ⟨rfl, hb⟩
    go_wp2_with fail
    go_returns
    exact ⟨by first | rfl | (simp; done), q_step HJ.out (q_step J hb)⟩
end Go.Proofs.Ytmcndiljldbkcaa
