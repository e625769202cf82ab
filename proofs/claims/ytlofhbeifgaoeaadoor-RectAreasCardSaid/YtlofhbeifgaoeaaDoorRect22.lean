import Derived.Test.YtlofhbeifgaoeaaDoorRect21
import Derived.Test.YtlofhbeifgaoeaaDoorRect16
import Derived.Test.YtlofhbeifgaoeaaDoorRect20
namespace Go.Proofs.YtlofhbeifgaoeaaDoor
open Go Go.RowKit
set_option linter.unusedSimpArgs false
set_option linter.unusedVariables false
theorem own_at {w : World} {B : Nat} {v : Value} {rs : List R4} (h : OwnR w B v rs) (hp : 0 < rs.length) : ∃ g cap, v = .slice (some ⟨g, 0, none⟩) rs.length cap ∧ LayR w g 0 rs ∧ g < w.heap.size := by
  obtain ⟨g, cap, rfl⟩ := Joins.ownsRow_form h hp
  rcases ownR_is h with ⟨a, cap', he, h0⟩ | ⟨b, off, cap', he, _, _, _, hb, hl⟩
  · rw [h0] at hp; simp at hp
  · simp only [Value.slice.injEq, Option.some.injEq, Addr.mk.injEq] at he
    obtain ⟨⟨rfl, rfl, _⟩, _, rfl⟩ := he
    exact ⟨g, cap, rfl, hl, hb⟩

set_option maxRecDepth 100000 in
set_option maxHeartbeats 4000000 in
theorem awake12 (w : World) (hs : RowAt 0 noneCells w) :
    Calls Tryd.prog 9 #[] w fun e w' => e = .returned (.bool true) ∧ Below w.heap.size w w' := by
  have HS := Lib.hid hs
  have NA := Lib.hid (show Norm 0 0 4 3 0 0 4 3 from Or.inl ⟨good_mk (by omega), rfl, rfl, rfl, rfl⟩)
  have NB := Lib.hid (show Norm 2 1 9 9 2 1 9 9 from Or.inl ⟨good_mk (by omega), rfl, rfl, rfl, rfl⟩)
  have N0 := Lib.hid (show Betw (max 0 2) (max 0 1) (min (0 + 4) (2 + 9)) (min (0 + 3) (1 + 9)) 2 1 2 2 from Or.inl (by decide))
  have N1 := Lib.hid (show Betw 0 0 (0 + 4) 1 0 0 4 1 from Or.inl (by decide))
  have N2 := Lib.hid (show Betw 0 1 2 (1 + 2) 0 1 2 2 from Or.inl (by decide))
  have N3 := Lib.hid (show Betw (2 + 2) 1 (0 + 4) (1 + 2) 0 0 0 0 from Or.inr (by decide))
  have N4 := Lib.hid (show Betw 0 (1 + 2) (0 + 4) (0 + 3) 0 0 0 0 from Or.inr (by decide))
  clear hs
  go_enter Tryd.func9, Tryd.ntmps9
  go_wp2_with fail
  refine calls_world (fun W => Below w.heap.size w W ∧ Blk W (w.heap.size) [i6 0, i6 0, i6 4, i6 3] ∧ Blk W (w.heap.size + 1) [i6 2, i6 1, i6 9, i6 9]) ⟨by (repeat' (first | with_reducible exact Below.refl _ _ | with_reducible assumption | with_reducible refine q_alloc ?_ _ | with_reducible refine q_drew ?_ | with_reducible refine q_drewN _ ?_ | with_reducible refine q_setCell ?_ ?_ _ | (left; simp; done) | (right; simp; done) | (right; dsimp only; omega) | (left; dsimp only; omega))), (Blk.new rfl).alloc _, blk_new1 rfl⟩ ?_
  intro W1 ⟨hq1, b1_0, b1_1⟩
  refine (minus_any 0 0 4 3 0 0 4 3 2 1 9 9 2 1 9 9 2 1 2 2 0 0 4 1 0 1 2 2 0 0 0 0 0 0 0 0 _ (HS.out.below hq1) NA.out NB.out N0.out N1.out N2.out N3.out N4.out).mono ?_
  rintro e w2 ⟨v, rfl, hown, hb⟩
  have hq2 : Below w.heap.size w w2 := q_step hq1 hb
  have b2_0 := b1_0.below hb
  have b2_1 := b1_1.below hb
  clear hb b1_0 b1_1 hq1
  have b2_0c0 := b2_0.cell 0 rfl
  have b2_0f0 := b2_0.froz 0 rfl
  have b2_0c1 := b2_0.cell 1 rfl
  have b2_0f1 := b2_0.froz 1 rfl
  have b2_0c2 := b2_0.cell 2 rfl
  have b2_0f2 := b2_0.froz 2 rfl
  have b2_0c3 := b2_0.cell 3 rfl
  have b2_0f3 := b2_0.froz 3 rfl
  have b2_0z := b2_0.lt
  have b2_1c0 := b2_1.cell 0 rfl
  have b2_1f0 := b2_1.froz 0 rfl
  have b2_1c1 := b2_1.cell 1 rfl
  have b2_1f1 := b2_1.froz 1 rfl
  have b2_1c2 := b2_1.cell 2 rfl
  have b2_1f2 := b2_1.froz 2 rfl
  have b2_1c3 := b2_1.cell 3 rfl
  have b2_1f3 := b2_1.froz 3 rfl
  have b2_1z := b2_1.lt
  have hml : minusR 4 2 (0, 0, 4, 3) [(0, 0, 4, 1), (0, 1, 2, 2), (0, 0, 0, 0), (0, 0, 0, 0)] = [(0, 0, 4, 1), (0, 1, 2, 2)] := by decide
  rw [hml] at hown
  obtain ⟨g, cap, rfl, hlay, hg⟩ := own_at hown (by decide)
  have HLY := Lib.hid hlay
  clear hlay hown hml
  have hx2_w2m : Below w2.heap.size w2 w2 := Below.refl _ _
  go_wp2_with fail
  clear b2_0c0 b2_0f0 b2_0c1 b2_0f1 b2_0c2 b2_0f2 b2_0c3 b2_0f3 b2_0z b2_1c0 b2_1f0 b2_1c1 b2_1f1 b2_1c2 b2_1f2 b2_1c3 b2_1f3 b2_1z
  refine (cross_any 0 0 4 3 0 0 4 3 2 1 9 9 2 1 9 9 2 1 2 2 _ (HS.out.below hq2) NA.out NB.out N0.out).mono ?_
  rintro e w3 ⟨rfl, hb⟩
  have hq3 : Below w.heap.size w w3 := q_step hq2 hb
  have hx3_w2 := q_step hx2_w2m hb
  have b3_0 := b2_0.below hb
  have b3_1 := b2_1.below hb
  clear hb b2_0 b2_1 hq2 hx2_w2m
  have b3_0c0 := b3_0.cell 0 rfl
  have b3_0f0 := b3_0.froz 0 rfl
  have b3_0c1 := b3_0.cell 1 rfl
  have b3_0f1 := b3_0.froz 1 rfl
  have b3_0c2 := b3_0.cell 2 rfl
  have b3_0f2 := b3_0.froz 2 rfl
  have b3_0c3 := b3_0.cell 3 rfl
  have b3_0f3 := b3_0.froz 3 rfl
  have b3_0z := b3_0.lt
  have b3_1c0 := b3_1.cell 0 rfl
  have b3_1f0 := b3_1.froz 0 rfl
  have b3_1c1 := b3_1.cell 1 rfl
  have b3_1f1 := b3_1.froz 1 rfl
  have b3_1c2 := b3_1.cell 2 rfl
  have b3_1f2 := b3_1.froz 2 rfl
  have b3_1c3 := b3_1.cell 3 rfl
  have b3_1f3 := b3_1.froz 3 rfl
  have b3_1z := b3_1.lt
  go_wp2_with fail
  clear b3_0c0 b3_0f0 b3_0c1 b3_0f1 b3_0c2 b3_0f2 b3_0c3 b3_0f3 b3_0z b3_1c0 b3_1f0 b3_1c1 b3_1f1 b3_1c2 b3_1f2 b3_1c3 b3_1f3 b3_1z
  refine calls_world (fun W => Below w.heap.size w W ∧ Below w2.heap.size w2 W ∧ Blk W (w.heap.size) [i6 0, i6 0, i6 4, i6 3] ∧ Blk W (w.heap.size + 1) [i6 2, i6 1, i6 9, i6 9] ∧ Blk W (w3.heap.size) [i6 0, i6 0, i6 4, i6 3, i6 2, i6 1, i6 9, i6 9]) ⟨by (repeat' (first | with_reducible exact Below.refl _ _ | with_reducible assumption | with_reducible refine q_alloc ?_ _ | with_reducible refine q_drew ?_ | with_reducible refine q_drewN _ ?_ | with_reducible refine q_setCell ?_ ?_ _ | (left; simp; done) | (right; simp; done) | (right; dsimp only; omega) | (left; dsimp only; omega))), by (repeat' (first | with_reducible exact Below.refl _ _ | with_reducible assumption | with_reducible refine q_alloc ?_ _ | with_reducible refine q_drew ?_ | with_reducible refine q_drewN _ ?_ | with_reducible refine q_setCell ?_ ?_ _ | (left; simp; done) | (right; simp; done) | (right; dsimp only; omega) | (left; dsimp only; omega))), (b3_0).alloc _, (b3_1).alloc _, Blk.new rfl⟩ ?_
  intro W4 ⟨hq4, hx4_w2, b4_0, b4_1, b4_2⟩
  clear b3_0 b3_1 hq3 hx3_w2
  refine (box_any _ [(0, 0, 4, 3), (2, 1, 9, 9)] _ (HS.out.below hq4) (Or.inr ⟨_, 0, 2, rfl, by decide, by decide, by decide, b4_2.lt, layR_of fun j v hj => b4_2.cell j hj⟩) (by decide)).mono ?_
  rintro e w5 ⟨rfl, hb⟩
  have hq5 : Below w.heap.size w w5 := q_step hq4 hb
  have hx5_w2 := q_step hx4_w2 hb
  have b5_0 := b4_0.below hb
  have b5_1 := b4_1.below hb
  have b5_2 := b4_2.below hb
  clear hb b4_0 b4_1 b4_2 hq4 hx4_w2
  have b5_0c0 := b5_0.cell 0 rfl
  have b5_0f0 := b5_0.froz 0 rfl
  have b5_0c1 := b5_0.cell 1 rfl
  have b5_0f1 := b5_0.froz 1 rfl
  have b5_0c2 := b5_0.cell 2 rfl
  have b5_0f2 := b5_0.froz 2 rfl
  have b5_0c3 := b5_0.cell 3 rfl
  have b5_0f3 := b5_0.froz 3 rfl
  have b5_0z := b5_0.lt
  have b5_1c0 := b5_1.cell 0 rfl
  have b5_1f0 := b5_1.froz 0 rfl
  have b5_1c1 := b5_1.cell 1 rfl
  have b5_1f1 := b5_1.froz 1 rfl
  have b5_1c2 := b5_1.cell 2 rfl
  have b5_1f2 := b5_1.froz 2 rfl
  have b5_1c3 := b5_1.cell 3 rfl
  have b5_1f3 := b5_1.froz 3 rfl
  have b5_1z := b5_1.lt
  have b5_2c0 := b5_2.cell 0 rfl
  have b5_2f0 := b5_2.froz 0 rfl
  have b5_2c1 := b5_2.cell 1 rfl
  have b5_2f1 := b5_2.froz 1 rfl
  have b5_2c2 := b5_2.cell 2 rfl
  have b5_2f2 := b5_2.froz 2 rfl
  have b5_2c3 := b5_2.cell 3 rfl
  have b5_2f3 := b5_2.froz 3 rfl
  have b5_2c4 := b5_2.cell 4 rfl
  have b5_2f4 := b5_2.froz 4 rfl
  have b5_2c5 := b5_2.cell 5 rfl
  have b5_2f5 := b5_2.froz 5 rfl
  have b5_2c6 := b5_2.cell 6 rfl
  have b5_2f6 := b5_2.froz 6 rfl
  have b5_2c7 := b5_2.cell 7 rfl
  have b5_2f7 := b5_2.froz 7 rfl
  have b5_2z := b5_2.lt
  rw [show boxR [(0, 0, 4, 3), (2, 1, 9, 9)] = (0, 0, 11, 10) by decide]
  obtain ⟨d0, d1, d2, d3⟩ := HLY.out.below hx5_w2 0 _ rfl
  obtain ⟨e0, e1, e2, e3⟩ := HLY.out.below hx5_w2 1 _ rfl
  dsimp only at d0 d1 d2 d3 e0 e1 e2 e3
  go_wp2_with fail
  clear d0 d1 d2 d3 e0 e1 e2 e3
  clear b5_0c0 b5_0f0 b5_0c1 b5_0f1 b5_0c2 b5_0f2 b5_0c3 b5_0f3 b5_0z b5_1c0 b5_1f0 b5_1c1 b5_1f1 b5_1c2 b5_1f2 b5_1c3 b5_1f3 b5_1z b5_2c0 b5_2f0 b5_2c1 b5_2f1 b5_2c2 b5_2f2 b5_2c3 b5_2f3 b5_2c4 b5_2f4 b5_2c5 b5_2f5 b5_2c6 b5_2f6 b5_2c7 b5_2f7 b5_2z
  refine (area_any 0 0 4 3 0 0 4 3 _ (HS.out.below hq5) NA.out).mono ?_
  rintro e w6 ⟨rfl, hb⟩
  have hq6 : Below w.heap.size w w6 := q_step hq5 hb
  have hx6_w2 := q_step hx5_w2 hb
  have b6_0 := b5_0.below hb
  have b6_1 := b5_1.below hb
  have b6_2 := b5_2.below hb
  clear hb b5_0 b5_1 b5_2 hq5 hx5_w2
  have b6_0c0 := b6_0.cell 0 rfl
  have b6_0f0 := b6_0.froz 0 rfl
  have b6_0c1 := b6_0.cell 1 rfl
  have b6_0f1 := b6_0.froz 1 rfl
  have b6_0c2 := b6_0.cell 2 rfl
  have b6_0f2 := b6_0.froz 2 rfl
  have b6_0c3 := b6_0.cell 3 rfl
  have b6_0f3 := b6_0.froz 3 rfl
  have b6_0z := b6_0.lt
  have b6_1c0 := b6_1.cell 0 rfl
  have b6_1f0 := b6_1.froz 0 rfl
  have b6_1c1 := b6_1.cell 1 rfl
  have b6_1f1 := b6_1.froz 1 rfl
  have b6_1c2 := b6_1.cell 2 rfl
  have b6_1f2 := b6_1.froz 2 rfl
  have b6_1c3 := b6_1.cell 3 rfl
  have b6_1f3 := b6_1.froz 3 rfl
  have b6_1z := b6_1.lt
  have b6_2c0 := b6_2.cell 0 rfl
  have b6_2f0 := b6_2.froz 0 rfl
  have b6_2c1 := b6_2.cell 1 rfl
  have b6_2f1 := b6_2.froz 1 rfl
  have b6_2c2 := b6_2.cell 2 rfl
  have b6_2f2 := b6_2.froz 2 rfl
  have b6_2c3 := b6_2.cell 3 rfl
  have b6_2f3 := b6_2.froz 3 rfl
  have b6_2c4 := b6_2.cell 4 rfl
  have b6_2f4 := b6_2.froz 4 rfl
  have b6_2c5 := b6_2.cell 5 rfl
  have b6_2f5 := b6_2.froz 5 rfl
  have b6_2c6 := b6_2.cell 6 rfl
  have b6_2f6 := b6_2.froz 6 rfl
  have b6_2c7 := b6_2.cell 7 rfl
  have b6_2f7 := b6_2.froz 7 rfl
  have b6_2z := b6_2.lt
  go_wp2_with fail
  clear b6_0c0 b6_0f0 b6_0c1 b6_0f1 b6_0c2 b6_0f2 b6_0c3 b6_0f3 b6_0z b6_1c0 b6_1f0 b6_1c1 b6_1f1 b6_1c2 b6_1f2 b6_1c3 b6_1f3 b6_1z b6_2c0 b6_2f0 b6_2c1 b6_2f1 b6_2c2 b6_2f2 b6_2c3 b6_2f3 b6_2c4 b6_2f4 b6_2c5 b6_2f5 b6_2c6 b6_2f6 b6_2c7 b6_2f7 b6_2z
  refine (check_any 0 0 (-1) 1 _ (HS.out.below hq6)).mono ?_
  rintro e w7 ⟨rfl, hb⟩
  have hq7 : Below w.heap.size w w7 := q_step hq6 hb
  have hx7_w2 := q_step hx6_w2 hb
  have b7_0 := b6_0.below hb
  have b7_1 := b6_1.below hb
  have b7_2 := b6_2.below hb
  clear hb b6_0 b6_1 b6_2 hq6 hx6_w2
  have b7_0c0 := b7_0.cell 0 rfl
  have b7_0f0 := b7_0.froz 0 rfl
  have b7_0c1 := b7_0.cell 1 rfl
  have b7_0f1 := b7_0.froz 1 rfl
  have b7_0c2 := b7_0.cell 2 rfl
  have b7_0f2 := b7_0.froz 2 rfl
  have b7_0c3 := b7_0.cell 3 rfl
  have b7_0f3 := b7_0.froz 3 rfl
  have b7_0z := b7_0.lt
  have b7_1c0 := b7_1.cell 0 rfl
  have b7_1f0 := b7_1.froz 0 rfl
  have b7_1c1 := b7_1.cell 1 rfl
  have b7_1f1 := b7_1.froz 1 rfl
  have b7_1c2 := b7_1.cell 2 rfl
  have b7_1f2 := b7_1.froz 2 rfl
  have b7_1c3 := b7_1.cell 3 rfl
  have b7_1f3 := b7_1.froz 3 rfl
  have b7_1z := b7_1.lt
  have b7_2c0 := b7_2.cell 0 rfl
  have b7_2f0 := b7_2.froz 0 rfl
  have b7_2c1 := b7_2.cell 1 rfl
  have b7_2f1 := b7_2.froz 1 rfl
  have b7_2c2 := b7_2.cell 2 rfl
  have b7_2f2 := b7_2.froz 2 rfl
  have b7_2c3 := b7_2.cell 3 rfl
  have b7_2f3 := b7_2.froz 3 rfl
  have b7_2c4 := b7_2.cell 4 rfl
  have b7_2f4 := b7_2.froz 4 rfl
  have b7_2c5 := b7_2.cell 5 rfl
  have b7_2f5 := b7_2.froz 5 rfl
  have b7_2c6 := b7_2.cell 6 rfl
  have b7_2f6 := b7_2.froz 6 rfl
  have b7_2c7 := b7_2.cell 7 rfl
  have b7_2f7 := b7_2.froz 7 rfl
  have b7_2z := b7_2.lt
  rw [show rightB 0 0 (-1) 1 = false by decide]
  go_wp2_with fail
  go_returns
  exact ⟨rfl, hq7⟩
end Go.Proofs.YtlofhbeifgaoeaaDoor
