import Derived.Test.YtamcgdepipebeaaDoorGrav1400
import Derived.Test.YtamcgdepipebeaaDoorGrav1401
import Derived.Test.YtamcgdepipebeaaDoorGrav1410
import Derived.Test.YtamcgdepipebeaaDoorGrav1411
import Derived.Test.YtamcgdepipebeaaDoorGrav6
import Derived.Test.YtamcgdepipebeaaDoorGrav9
import Derived.Test.YtamcgdepipebeaaDoorLib3
namespace Go.Proofs.YtamcgdepipebeaaDoor
open Go Go.RowKit
set_option linter.unusedSimpArgs false

/-- What Kept tells of these: the program's, the document's, whatever the world. -/
def KeptIs (g x y r h x' y' r' h' px py a b c d : Int) (ok : Bool) : Prop :=
  ∀ W : World, RowAt 1 noneCells W → Calls Tryd.prog 12 #[i6 g, rectV x y r h, rectV x' y' r' h'] W fun e w' => e = .returned (.tuple #[.agg #[i6 px, i6 py], rectV a b c d, .bool ok]) ∧ Below W.heap.size W w'
def RKeptIs (g x y r h x' y' r' h' px py a b c d : Int) (ok : Bool) : Prop :=
  ∀ W : World, Calls Tryd.prog 13 #[i6 g, rectV x y r h, rectV x' y' r' h'] W fun e w' => e = .returned (.tuple #[.agg #[i6 px, i6 py], rectV a b c d, .bool ok]) ∧ Below W.heap.size W w'

set_option maxHeartbeats 4000000 in
theorem moves_ok (g x y r h x' y' r' h' px py a b c d : Int) (ok : Bool) (w : World) (hs : RowAt 1 noneCells w) (hn : RowAt 0 gnames w)
    (h1 : ShiftIs g x y r h x' y' r' h' px py ok) (h2 : RShiftIs g x y r h x' y' r' h' px py ok) (h3 : KeptIs g x y r h x' y' r' h' px py a b c d ok) (h4 : RKeptIs g x y r h x' y' r' h' px py a b c d ok) :
    Calls Tryd.prog 3 #[i6 g, rectV x y r h, rectV x' y' r' h'] w fun e w' => e = .returned (.bool true) ∧ Below w.heap.size w w' := by
  have HS := Lib.hid hs
  have HN := Lib.hid hn
  have H1 := Lib.hid h1
  have H2 := Lib.hid h2
  have H3 := Lib.hid h3
  have H4 := Lib.hid h4
  clear hs hn h1 h2 h3 h4
  go_enter Tryd.func3, Tryd.ntmps3
  go_wp2_with fail
  refine calls_world (fun W => Below w.heap.size w W ∧ Blk W (w.heap.size) [i6 x, i6 y, i6 r, i6 h] ∧ Blk W (w.heap.size + 1) [i6 x', i6 y', i6 r', i6 h']) ⟨by (repeat' (first | with_reducible exact Below.refl _ _ | with_reducible assumption | with_reducible refine q_alloc ?_ _ | with_reducible refine q_drew ?_ | with_reducible refine q_drewN _ ?_ | with_reducible refine q_setCell ?_ ?_ _ | (left; simp; done) | (right; simp; done) | (right; dsimp only; omega) | (left; dsimp only; omega))), (Blk.new rfl).alloc _, blk_new1 rfl⟩ ?_
  intro W1 ⟨hq1, b1_0, b1_1⟩
  refine (gawake_any _ (HS.out.below hq1) (HN.out.below hq1)).mono ?_
  rintro e w2 ⟨rfl, hb⟩
  have hq2 : Below w.heap.size w w2 := q_step hq1 hb
  have b2_0 := b1_0.below hb
  have b2_1 := b1_1.below hb
  clear hb b1_0 b1_1 hq1
  have b2_0c0 := b2_0.cell 0 rfl
  have b2_0f0 := b2_0.froz 0 rfl
  have b2_0c1 := b2_0.cell 1 rfl
  have b2_0f1 := b2_0.froz 1 rfl
  have b2_0c2 := b2_0.cell 2 rfl
  have b2_0f2 := b2_0.froz 2 rfl
  have b2_0c3 := b2_0.cell 3 rfl
  have b2_0f3 := b2_0.froz 3 rfl
  have b2_0z := b2_0.lt
  have b2_1c0 := b2_1.cell 0 rfl
  have b2_1f0 := b2_1.froz 0 rfl
  have b2_1c1 := b2_1.cell 1 rfl
  have b2_1f1 := b2_1.froz 1 rfl
  have b2_1c2 := b2_1.cell 2 rfl
  have b2_1f2 := b2_1.froz 2 rfl
  have b2_1c3 := b2_1.cell 3 rfl
  have b2_1f3 := b2_1.froz 3 rfl
  have b2_1z := b2_1.lt
  go_wp2_with fail
  clear b2_0c0 b2_0f0 b2_0c1 b2_0f1 b2_0c2 b2_0f2 b2_0c3 b2_0f3 b2_0z b2_1c0 b2_1f0 b2_1c1 b2_1f1 b2_1c2 b2_1f2 b2_1c3 b2_1f3 b2_1z
  refine (H1.out _ (HS.out.below hq2)).mono ?_
  rintro e w3 ⟨rfl, hb⟩
  have hq3 : Below w.heap.size w w3 := q_step hq2 hb
  have b3_0 := b2_0.below hb
  have b3_1 := b2_1.below hb
  clear hb b2_0 b2_1 hq2
  have b3_0c0 := b3_0.cell 0 rfl
  have b3_0f0 := b3_0.froz 0 rfl
  have b3_0c1 := b3_0.cell 1 rfl
  have b3_0f1 := b3_0.froz 1 rfl
  have b3_0c2 := b3_0.cell 2 rfl
  have b3_0f2 := b3_0.froz 2 rfl
  have b3_0c3 := b3_0.cell 3 rfl
  have b3_0f3 := b3_0.froz 3 rfl
  have b3_0z := b3_0.lt
  have b3_1c0 := b3_1.cell 0 rfl
  have b3_1f0 := b3_1.froz 0 rfl
  have b3_1c1 := b3_1.cell 1 rfl
  have b3_1f1 := b3_1.froz 1 rfl
  have b3_1c2 := b3_1.cell 2 rfl
  have b3_1f2 := b3_1.froz 2 rfl
  have b3_1c3 := b3_1.cell 3 rfl
  have b3_1f3 := b3_1.froz 3 rfl
  have b3_1z := b3_1.lt
  go_wp2_with fail
  clear b3_0c0 b3_0f0 b3_0c1 b3_0f1 b3_0c2 b3_0f2 b3_0c3 b3_0f3 b3_0z b3_1c0 b3_1f0 b3_1c1 b3_1f1 b3_1c2 b3_1f2 b3_1c3 b3_1f3 b3_1z
  refine calls_world (fun W => Below w.heap.size w W ∧ Blk W (w.heap.size) [i6 x, i6 y, i6 r, i6 h] ∧ Blk W (w.heap.size + 1) [i6 x', i6 y', i6 r', i6 h'] ∧ Blk W (w3.heap.size) [i6 px, i6 py]) ⟨by (repeat' (first | with_reducible exact Below.refl _ _ | with_reducible assumption | with_reducible refine q_alloc ?_ _ | with_reducible refine q_drew ?_ | with_reducible refine q_drewN _ ?_ | with_reducible refine q_setCell ?_ ?_ _ | (left; simp; done) | (right; simp; done) | (right; dsimp only; omega) | (left; dsimp only; omega))), (b3_0).alloc _, (b3_1).alloc _, Blk.new rfl⟩ ?_
  intro W4 ⟨hq4, b4_0, b4_1, b4_2⟩
  clear b3_0 b3_1 hq3
  have b4_0c0 := b4_0.cell 0 rfl
  have b4_0f0 := b4_0.froz 0 rfl
  have b4_0c1 := b4_0.cell 1 rfl
  have b4_0f1 := b4_0.froz 1 rfl
  have b4_0c2 := b4_0.cell 2 rfl
  have b4_0f2 := b4_0.froz 2 rfl
  have b4_0c3 := b4_0.cell 3 rfl
  have b4_0f3 := b4_0.froz 3 rfl
  have b4_0z := b4_0.lt
  have b4_1c0 := b4_1.cell 0 rfl
  have b4_1f0 := b4_1.froz 0 rfl
  have b4_1c1 := b4_1.cell 1 rfl
  have b4_1f1 := b4_1.froz 1 rfl
  have b4_1c2 := b4_1.cell 2 rfl
  have b4_1f2 := b4_1.froz 2 rfl
  have b4_1c3 := b4_1.cell 3 rfl
  have b4_1f3 := b4_1.froz 3 rfl
  have b4_1z := b4_1.lt
  have b4_2c0 := b4_2.cell 0 rfl
  have b4_2f0 := b4_2.froz 0 rfl
  have b4_2c1 := b4_2.cell 1 rfl
  have b4_2f1 := b4_2.froz 1 rfl
  have b4_2z := b4_2.lt
  clear b4_0c0 b4_0f0 b4_0c1 b4_0f1 b4_0c2 b4_0f2 b4_0c3 b4_0f3 b4_0z b4_1c0 b4_1f0 b4_1c1 b4_1f1 b4_1c2 b4_1f2 b4_1c3 b4_1f3 b4_1z b4_2c0 b4_2f0 b4_2c1 b4_2f1 b4_2z
  refine (H2.out _).mono ?_
  rintro e w5 ⟨rfl, hb⟩
  have hq5 : Below w.heap.size w w5 := q_step hq4 hb
  have b5_0 := b4_0.below hb
  have b5_1 := b4_1.below hb
  have b5_2 := b4_2.below hb
  clear hb b4_0 b4_1 b4_2 hq4
  have b5_0c0 := b5_0.cell 0 rfl
  have b5_0f0 := b5_0.froz 0 rfl
  have b5_0c1 := b5_0.cell 1 rfl
  have b5_0f1 := b5_0.froz 1 rfl
  have b5_0c2 := b5_0.cell 2 rfl
  have b5_0f2 := b5_0.froz 2 rfl
  have b5_0c3 := b5_0.cell 3 rfl
  have b5_0f3 := b5_0.froz 3 rfl
  have b5_0z := b5_0.lt
  have b5_1c0 := b5_1.cell 0 rfl
  have b5_1f0 := b5_1.froz 0 rfl
  have b5_1c1 := b5_1.cell 1 rfl
  have b5_1f1 := b5_1.froz 1 rfl
  have b5_1c2 := b5_1.cell 2 rfl
  have b5_1f2 := b5_1.froz 2 rfl
  have b5_1c3 := b5_1.cell 3 rfl
  have b5_1f3 := b5_1.froz 3 rfl
  have b5_1z := b5_1.lt
  have b5_2c0 := b5_2.cell 0 rfl
  have b5_2f0 := b5_2.froz 0 rfl
  have b5_2c1 := b5_2.cell 1 rfl
  have b5_2f1 := b5_2.froz 1 rfl
  have b5_2z := b5_2.lt
  go_wp2_with fail
  clear b5_0c0 b5_0f0 b5_0c1 b5_0f1 b5_0c2 b5_0f2 b5_0c3 b5_0f3 b5_0z b5_1c0 b5_1f0 b5_1c1 b5_1f1 b5_1c2 b5_1f2 b5_1c3 b5_1f3 b5_1z b5_2c0 b5_2f0 b5_2c1 b5_2f1 b5_2z
  refine calls_world (fun W => Below w.heap.size w W ∧ Blk W (w.heap.size) [i6 x, i6 y, i6 r, i6 h] ∧ Blk W (w.heap.size + 1) [i6 x', i6 y', i6 r', i6 h'] ∧ Blk W (w3.heap.size) [i6 px, i6 py] ∧ Blk W (w5.heap.size) [i6 px, i6 py]) ⟨by (repeat' (first | with_reducible exact Below.refl _ _ | with_reducible assumption | with_reducible refine q_alloc ?_ _ | with_reducible refine q_drew ?_ | with_reducible refine q_drewN _ ?_ | with_reducible refine q_setCell ?_ ?_ _ | (left; simp; done) | (right; simp; done) | (right; dsimp only; omega) | (left; dsimp only; omega))), (b5_0).alloc _, (b5_1).alloc _, (b5_2).alloc _, Blk.new rfl⟩ ?_
  intro W6 ⟨hq6, b6_0, b6_1, b6_2, b6_3⟩
  clear b5_0 b5_1 b5_2 hq5
  have b6_0c0 := b6_0.cell 0 rfl
  have b6_0f0 := b6_0.froz 0 rfl
  have b6_0c1 := b6_0.cell 1 rfl
  have b6_0f1 := b6_0.froz 1 rfl
  have b6_0c2 := b6_0.cell 2 rfl
  have b6_0f2 := b6_0.froz 2 rfl
  have b6_0c3 := b6_0.cell 3 rfl
  have b6_0f3 := b6_0.froz 3 rfl
  have b6_0z := b6_0.lt
  have b6_1c0 := b6_1.cell 0 rfl
  have b6_1f0 := b6_1.froz 0 rfl
  have b6_1c1 := b6_1.cell 1 rfl
  have b6_1f1 := b6_1.froz 1 rfl
  have b6_1c2 := b6_1.cell 2 rfl
  have b6_1f2 := b6_1.froz 2 rfl
  have b6_1c3 := b6_1.cell 3 rfl
  have b6_1f3 := b6_1.froz 3 rfl
  have b6_1z := b6_1.lt
  have b6_2c0 := b6_2.cell 0 rfl
  have b6_2f0 := b6_2.froz 0 rfl
  have b6_2c1 := b6_2.cell 1 rfl
  have b6_2f1 := b6_2.froz 1 rfl
  have b6_2z := b6_2.lt
  have b6_3c0 := b6_3.cell 0 rfl
  have b6_3f0 := b6_3.froz 0 rfl
  have b6_3c1 := b6_3.cell 1 rfl
  have b6_3f1 := b6_3.froz 1 rfl
  have b6_3z := b6_3.lt
  clear b6_0c0 b6_0f0 b6_0c1 b6_0f1 b6_0c2 b6_0f2 b6_0c3 b6_0f3 b6_0z b6_1c0 b6_1f0 b6_1c1 b6_1f1 b6_1c2 b6_1f2 b6_1c3 b6_1f3 b6_1z b6_2c0 b6_2f0 b6_2c1 b6_2f1 b6_2z b6_3c0 b6_3f0 b6_3c1 b6_3f1 b6_3z
  refine (H3.out _ (HS.out.below hq6)).mono ?_
  rintro e w7 ⟨rfl, hb⟩
  have hq7 : Below w.heap.size w w7 := q_step hq6 hb
  have b7_0 := b6_0.below hb
  have b7_1 := b6_1.below hb
  have b7_2 := b6_2.below hb
  have b7_3 := b6_3.below hb
  clear hb b6_0 b6_1 b6_2 b6_3 hq6
  have b7_0c0 := b7_0.cell 0 rfl
  have b7_0f0 := b7_0.froz 0 rfl
  have b7_0c1 := b7_0.cell 1 rfl
  have b7_0f1 := b7_0.froz 1 rfl
  have b7_0c2 := b7_0.cell 2 rfl
  have b7_0f2 := b7_0.froz 2 rfl
  have b7_0c3 := b7_0.cell 3 rfl
  have b7_0f3 := b7_0.froz 3 rfl
  have b7_0z := b7_0.lt
  have b7_1c0 := b7_1.cell 0 rfl
  have b7_1f0 := b7_1.froz 0 rfl
  have b7_1c1 := b7_1.cell 1 rfl
  have b7_1f1 := b7_1.froz 1 rfl
  have b7_1c2 := b7_1.cell 2 rfl
  have b7_1f2 := b7_1.froz 2 rfl
  have b7_1c3 := b7_1.cell 3 rfl
  have b7_1f3 := b7_1.froz 3 rfl
  have b7_1z := b7_1.lt
  have b7_2c0 := b7_2.cell 0 rfl
  have b7_2f0 := b7_2.froz 0 rfl
  have b7_2c1 := b7_2.cell 1 rfl
  have b7_2f1 := b7_2.froz 1 rfl
  have b7_2z := b7_2.lt
  have b7_3c0 := b7_3.cell 0 rfl
  have b7_3f0 := b7_3.froz 0 rfl
  have b7_3c1 := b7_3.cell 1 rfl
  have b7_3f1 := b7_3.froz 1 rfl
  have b7_3z := b7_3.lt
  go_wp2_with fail
  clear b7_0c0 b7_0f0 b7_0c1 b7_0f1 b7_0c2 b7_0f2 b7_0c3 b7_0f3 b7_0z b7_1c0 b7_1f0 b7_1c1 b7_1f1 b7_1c2 b7_1f2 b7_1c3 b7_1f3 b7_1z b7_2c0 b7_2f0 b7_2c1 b7_2f1 b7_2z b7_3c0 b7_3f0 b7_3c1 b7_3f1 b7_3z
  refine calls_world (fun W => Below w.heap.size w W ∧ Blk W (w.heap.size) [i6 x, i6 y, i6 r, i6 h] ∧ Blk W (w.heap.size + 1) [i6 x', i6 y', i6 r', i6 h'] ∧ Blk W (w3.heap.size) [i6 px, i6 py] ∧ Blk W (w5.heap.size) [i6 px, i6 py] ∧ Blk W (w7.heap.size) [i6 px, i6 py] ∧ Blk W (w7.heap.size + 1) [i6 a, i6 b, i6 c, i6 d]) ⟨by (repeat' (first | with_reducible exact Below.refl _ _ | with_reducible assumption | with_reducible refine q_alloc ?_ _ | with_reducible refine q_drew ?_ | with_reducible refine q_drewN _ ?_ | with_reducible refine q_setCell ?_ ?_ _ | (left; simp; done) | (right; simp; done) | (right; dsimp only; omega) | (left; dsimp only; omega))), ((b7_0).alloc _).alloc _, ((b7_1).alloc _).alloc _, ((b7_2).alloc _).alloc _, ((b7_3).alloc _).alloc _, (Blk.new rfl).alloc _, blk_new1 rfl⟩ ?_
  intro W8 ⟨hq8, b8_0, b8_1, b8_2, b8_3, b8_4, b8_5⟩
  clear b7_0 b7_1 b7_2 b7_3 hq7
  have b8_0c0 := b8_0.cell 0 rfl
  have b8_0f0 := b8_0.froz 0 rfl
  have b8_0c1 := b8_0.cell 1 rfl
  have b8_0f1 := b8_0.froz 1 rfl
  have b8_0c2 := b8_0.cell 2 rfl
  have b8_0f2 := b8_0.froz 2 rfl
  have b8_0c3 := b8_0.cell 3 rfl
  have b8_0f3 := b8_0.froz 3 rfl
  have b8_0z := b8_0.lt
  have b8_1c0 := b8_1.cell 0 rfl
  have b8_1f0 := b8_1.froz 0 rfl
  have b8_1c1 := b8_1.cell 1 rfl
  have b8_1f1 := b8_1.froz 1 rfl
  have b8_1c2 := b8_1.cell 2 rfl
  have b8_1f2 := b8_1.froz 2 rfl
  have b8_1c3 := b8_1.cell 3 rfl
  have b8_1f3 := b8_1.froz 3 rfl
  have b8_1z := b8_1.lt
  have b8_2c0 := b8_2.cell 0 rfl
  have b8_2f0 := b8_2.froz 0 rfl
  have b8_2c1 := b8_2.cell 1 rfl
  have b8_2f1 := b8_2.froz 1 rfl
  have b8_2z := b8_2.lt
  have b8_3c0 := b8_3.cell 0 rfl
  have b8_3f0 := b8_3.froz 0 rfl
  have b8_3c1 := b8_3.cell 1 rfl
  have b8_3f1 := b8_3.froz 1 rfl
  have b8_3z := b8_3.lt
  have b8_4c0 := b8_4.cell 0 rfl
  have b8_4f0 := b8_4.froz 0 rfl
  have b8_4c1 := b8_4.cell 1 rfl
  have b8_4f1 := b8_4.froz 1 rfl
  have b8_4z := b8_4.lt
  have b8_5c0 := b8_5.cell 0 rfl
  have b8_5f0 := b8_5.froz 0 rfl
  have b8_5c1 := b8_5.cell 1 rfl
  have b8_5f1 := b8_5.froz 1 rfl
  have b8_5c2 := b8_5.cell 2 rfl
  have b8_5f2 := b8_5.froz 2 rfl
  have b8_5c3 := b8_5.cell 3 rfl
  have b8_5f3 := b8_5.froz 3 rfl
  have b8_5z := b8_5.lt
  clear b8_0c0 b8_0f0 b8_0c1 b8_0f1 b8_0c2 b8_0f2 b8_0c3 b8_0f3 b8_0z b8_1c0 b8_1f0 b8_1c1 b8_1f1 b8_1c2 b8_1f2 b8_1c3 b8_1f3 b8_1z b8_2c0 b8_2f0 b8_2c1 b8_2f1 b8_2z b8_3c0 b8_3f0 b8_3c1 b8_3f1 b8_3z b8_4c0 b8_4f0 b8_4c1 b8_4f1 b8_4z b8_5c0 b8_5f0 b8_5c1 b8_5f1 b8_5c2 b8_5f2 b8_5c3 b8_5f3 b8_5z
  refine (H4.out _).mono ?_
  rintro e w9 ⟨rfl, hb⟩
  have hq9 : Below w.heap.size w w9 := q_step hq8 hb
  have b9_0 := b8_0.below hb
  have b9_1 := b8_1.below hb
  have b9_2 := b8_2.below hb
  have b9_3 := b8_3.below hb
  have b9_4 := b8_4.below hb
  have b9_5 := b8_5.below hb
  clear hb b8_0 b8_1 b8_2 b8_3 b8_4 b8_5 hq8
  have b9_0c0 := b9_0.cell 0 rfl
  have b9_0f0 := b9_0.froz 0 rfl
  have b9_0c1 := b9_0.cell 1 rfl
  have b9_0f1 := b9_0.froz 1 rfl
  have b9_0c2 := b9_0.cell 2 rfl
  have b9_0f2 := b9_0.froz 2 rfl
  have b9_0c3 := b9_0.cell 3 rfl
  have b9_0f3 := b9_0.froz 3 rfl
  have b9_0z := b9_0.lt
  have b9_1c0 := b9_1.cell 0 rfl
  have b9_1f0 := b9_1.froz 0 rfl
  have b9_1c1 := b9_1.cell 1 rfl
  have b9_1f1 := b9_1.froz 1 rfl
  have b9_1c2 := b9_1.cell 2 rfl
  have b9_1f2 := b9_1.froz 2 rfl
  have b9_1c3 := b9_1.cell 3 rfl
  have b9_1f3 := b9_1.froz 3 rfl
  have b9_1z := b9_1.lt
  have b9_2c0 := b9_2.cell 0 rfl
  have b9_2f0 := b9_2.froz 0 rfl
  have b9_2c1 := b9_2.cell 1 rfl
  have b9_2f1 := b9_2.froz 1 rfl
  have b9_2z := b9_2.lt
  have b9_3c0 := b9_3.cell 0 rfl
  have b9_3f0 := b9_3.froz 0 rfl
  have b9_3c1 := b9_3.cell 1 rfl
  have b9_3f1 := b9_3.froz 1 rfl
  have b9_3z := b9_3.lt
  have b9_4c0 := b9_4.cell 0 rfl
  have b9_4f0 := b9_4.froz 0 rfl
  have b9_4c1 := b9_4.cell 1 rfl
  have b9_4f1 := b9_4.froz 1 rfl
  have b9_4z := b9_4.lt
  have b9_5c0 := b9_5.cell 0 rfl
  have b9_5f0 := b9_5.froz 0 rfl
  have b9_5c1 := b9_5.cell 1 rfl
  have b9_5f1 := b9_5.froz 1 rfl
  have b9_5c2 := b9_5.cell 2 rfl
  have b9_5f2 := b9_5.froz 2 rfl
  have b9_5c3 := b9_5.cell 3 rfl
  have b9_5f3 := b9_5.froz 3 rfl
  have b9_5z := b9_5.lt
  go_wp2_with fail
  go_returns
  exact ⟨rfl, by (repeat' (first | with_reducible exact Below.refl _ _ | with_reducible assumption | with_reducible refine q_alloc ?_ _ | with_reducible refine q_drew ?_ | with_reducible refine q_drewN _ ?_ | with_reducible refine q_setCell ?_ ?_ _ | (left; simp; done) | (right; simp; done) | (right; dsimp only; omega) | (left; dsimp only; omega)))⟩

theorem rkept_any (g x y r h x' y' r' h' px py : Int) (W : World) (H : RShiftIs g x y r h x' y' r' h' px py true)
    (br : 0 ≤ r ∧ r ≤ 4000000) (bh : 0 ≤ h ∧ h ≤ 4000000) (br' : 0 ≤ r' ∧ r' ≤ 4000000) (bh' : 0 ≤ h' ∧ h' ≤ 4000000) (bx : -8000000 ≤ px ∧ px ≤ 8000000) (by_ : -8000000 ≤ py ∧ py ≤ 8000000) :
    Calls Tryd.prog 13 #[i6 g, rectV x y r h, rectV x' y' r' h'] W fun e w' => e = .returned (.tuple #[.agg #[i6 px, i6 py], keptV px py r h r' h', .bool true]) ∧ Below W.heap.size W w' := by
  by_cases qx : px < 0
  · by_cases qy : py < 0
    · exact rkept_11 g x y r h x' y' r' h' px py W qx qy H br bh br' bh' bx by_
    · exact rkept_10 g x y r h x' y' r' h' px py W qx qy H br bh br' bh' bx by_
  · by_cases qy : py < 0
    · exact rkept_01 g x y r h x' y' r' h' px py W qx qy H br bh br' bh' bx by_
    · exact rkept_00 g x y r h x' y' r' h' px py W qx qy H br bh br' bh' bx by_
theorem keptV_ex (px py r h r' h' : Int) : ∃ a b c d : Int, keptV px py r h r' h' = rectV a b c d := by
  unfold keptV
  split
  · exact ⟨_, _, _, _, rfl⟩
  · exact ⟨_, _, _, _, rfl⟩

theorem lmoves_any (g x y r h x' y' r' h' : Int) (w : World) (hs : RowAt 1 noneCells w) (hn : RowAt 0 gnames w) :
    Calls Tryd.prog 3 #[i6 g, rectV x y r h, rectV x' y' r' h'] w fun e w' => e = .returned (.bool true) ∧ Below w.heap.size w w' := by
  have no : ShiftIs g x y r h x' y' r' h' 0 0 false → RShiftIs g x y r h x' y' r' h' 0 0 false → Calls Tryd.prog 3 #[i6 g, rectV x y r h, rectV x' y' r' h'] w fun e w' => e = .returned (.bool true) ∧ Below w.heap.size w w' :=
    fun H H2 => moves_ok g x y r h x' y' r' h' 0 0 0 0 0 0 false w hs hn H H2 (fun W hW => kept_no g x y r h x' y' r' h' W hW H) (fun W => rkept_no g x y r h x' y' r' h' W H2)
  by_cases hg : g ≤ 0 ∨ 11 ≤ g
  · exact no (shiftIs_none g x y r h x' y' r' h' hg) (fun W => rshift_none g x y r h x' y' r' h' W hg)
  · by_cases hab : Good x y r h ∧ Good x' y' r' h'
    · obtain ⟨ga, gb⟩ := hab
      have ba := ga.bounds
      have bb := gb.bounds
      have go : ∀ px py : Int, ShiftIs g x y r h x' y' r' h' px py true → RShiftIs g x y r h x' y' r' h' px py true → (-2200000 ≤ px ∧ px ≤ 2200000) → (-2200000 ≤ py ∧ py ≤ 2200000) → Calls Tryd.prog 3 #[i6 g, rectV x y r h, rectV x' y' r' h'] w fun e w' => e = .returned (.bool true) ∧ Below w.heap.size w w' := by
        intro px py H H2 b1 b2
        obtain ⟨a, b, c, d, hk⟩ := keptV_ex px py r h r' h'
        refine moves_ok g x y r h x' y' r' h' px py a b c d true w hs hn H H2 (fun W hW => ?_) (fun W => ?_)
        · rw [← hk]
          exact kept_ok g x y r h x' y' r' h' px py W hW H (by omega) (by omega) (by omega) (by omega) (by omega) (by omega)
        · rw [← hk]
          exact rkept_any g x y r h x' y' r' h' px py W H2 (by omega) (by omega) (by omega) (by omega) (by omega) (by omega)
      by_cases h10 : g = 10
      · subst h10
        exact go _ _ (shiftIs_static x y r h x' y' r' h' ga gb) (fun W => rshift_static x y r h x' y' r' h' W ga gb) (by omega) (by omega)
      · have e1 := half_bounds (r' - r) ((g - 1) % 3) (by omega)
        have e2 := half_bounds (h' - h) ((g - 1) / 3) (by omega)
        exact go _ _ (shiftIs_mid g x y r h x' y' r' h' ga gb (by omega) (by omega)) (fun W => rshift_mid g x y r h x' y' r' h' W ga gb (by omega) (by omega)) (by omega) (by omega)
    · refine no (shiftIs_bad g x y r h x' y' r' h' hab) (fun W => ?_)
      by_cases ga : Good x y r h
      · exact rshift_badB g x y r h x' y' r' h' W ga (fun gb => hab ⟨ga, gb⟩) (by omega) (by omega)
      · exact rshift_badA g x y r h x' y' r' h' W ga (by omega) (by omega)
end Go.Proofs.YtamcgdepipebeaaDoor
