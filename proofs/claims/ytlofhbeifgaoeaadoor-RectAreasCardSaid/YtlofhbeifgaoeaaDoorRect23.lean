import Derived.Test.YtlofhbeifgaoeaaDoorRect22
import Derived.Test.YtlofhbeifgaoeaaDoorRect11
import Derived.Deep.RegionHeld3
import Derived.Deep.Cut
import Derived.Deep.CutRange
import Derived.Deep.DeepCutAuto
namespace Go.Proofs.YtlofhbeifgaoeaaDoor
open Go Go.RowKit
set_option linter.unusedSimpArgs false
set_option linter.unusedVariables false
theorem i64_i16 {u : Int} (h : -32768 ≤ u ∧ u ≤ 32767) : IntKind.i64.wrap u = u := IntWalk.i64_in _ (by omega)

set_option maxRecDepth 100000 in
set_option maxHeartbeats 4000000 in
theorem there_none (x y r h a b c d u v ix iy : Int) (w : World) (hs : RowAt 0 noneCells w) (bu : -32768 ≤ u ∧ u ≤ 32767) (bv : -32768 ≤ v ∧ v ≤ 32767) (bx : -2147483648 ≤ ix ∧ ix ≤ 2147483647) (by_ : -2147483648 ≤ iy ∧ iy ≤ 2147483647)
    (s1 : ∀ W : World, RowAt 0 noneCells W → Calls Tryd.prog 27 #[rectV x y r h, i6 u, i6 v] W fun e w' => e = .returned (rectV a b c d) ∧ Below W.heap.size W w') (na : Norm a b c d a b c d) (hc : c = 0) :
    Calls Tryd.prog 7 #[rectV x y r h, .int .i16 u, .int .i16 v, .int .i32 ix, .int .i32 iy] w fun e w' => e = .returned (.bool true) ∧ Below w.heap.size w w' := by
  have HS := Lib.hid hs
  have HS1 := Lib.hid s1
  have c1 : IntKind.i64.wrap u = u := i64_i16 bu
  have c2 : IntKind.i64.wrap v = v := i64_i16 bv
  have bn := na.bounds
  obtain ⟨rfl, rfl, rfl, rfl⟩ : a = 0 ∧ b = 0 ∧ c = 0 ∧ d = 0 := by omega
  have HNA := Lib.hid na
  clear hs s1 na bn hc
  go_enter Tryd.func7, Tryd.ntmps7
  go_wp2_with fail
  refine calls_world (fun W => Below w.heap.size w W ∧ Blk W (w.heap.size) [i6 x, i6 y, i6 r, i6 h]) ⟨by (repeat' (first | with_reducible exact Below.refl _ _ | with_reducible assumption | with_reducible refine q_alloc ?_ _ | with_reducible refine q_drew ?_ | with_reducible refine q_drewN _ ?_ | with_reducible refine q_setCell ?_ ?_ _ | (left; simp; done) | (right; simp; done) | (right; dsimp only; omega) | (left; dsimp only; omega))), Blk.new rfl⟩ ?_
  intro W1 ⟨hq1, b1_0⟩
  refine (awake12 _ (HS.out.below hq1)).mono ?_
  rintro e w2 ⟨rfl, hb⟩
  have hq2 : Below w.heap.size w w2 := q_step hq1 hb
  have b2_0 := b1_0.below hb
  clear hb b1_0 hq1
  have b2_0c0 := b2_0.cell 0 rfl
  have b2_0f0 := b2_0.froz 0 rfl
  have b2_0c1 := b2_0.cell 1 rfl
  have b2_0f1 := b2_0.froz 1 rfl
  have b2_0c2 := b2_0.cell 2 rfl
  have b2_0f2 := b2_0.froz 2 rfl
  have b2_0c3 := b2_0.cell 3 rfl
  have b2_0f3 := b2_0.froz 3 rfl
  have b2_0z := b2_0.lt
  go_wp2_with fail
  clear b2_0c0 b2_0f0 b2_0c1 b2_0f1 b2_0c2 b2_0f2 b2_0c3 b2_0f3 b2_0z
  refine (HS1.out _ (HS.out.below hq2)).mono ?_
  rintro e w3 ⟨rfl, hb⟩
  have hq3 : Below w.heap.size w w3 := q_step hq2 hb
  have b3_0 := b2_0.below hb
  clear hb b2_0 hq2
  have b3_0c0 := b3_0.cell 0 rfl
  have b3_0f0 := b3_0.froz 0 rfl
  have b3_0c1 := b3_0.cell 1 rfl
  have b3_0f1 := b3_0.froz 1 rfl
  have b3_0c2 := b3_0.cell 2 rfl
  have b3_0f2 := b3_0.froz 2 rfl
  have b3_0c3 := b3_0.cell 3 rfl
  have b3_0f3 := b3_0.froz 3 rfl
  have b3_0z := b3_0.lt
  go_upto_region 4 with fail
  clear b3_0c0 b3_0f0 b3_0c1 b3_0f1 b3_0c2 b3_0f2 b3_0c3 b3_0f3 b3_0z
  refine code_world (fun W => Below w.heap.size w W ∧ Blk W (w.heap.size) [i6 x, i6 y, i6 r, i6 h] ∧ Blk W (w3.heap.size) [i6 0, i6 0, i6 0, i6 0]) ⟨by (repeat' (first | with_reducible exact Below.refl _ _ | with_reducible assumption | with_reducible refine q_alloc ?_ _ | with_reducible refine q_drew ?_ | with_reducible refine q_drewN _ ?_ | with_reducible refine q_setCell ?_ ?_ _ | (left; simp; done) | (right; simp; done) | (right; dsimp only; omega) | (left; dsimp only; omega))), (b3_0).alloc _, Blk.new rfl⟩ ?_
  intro W4 ⟨hq4, b4_0, b4_1⟩
  clear b3_0 hq3
  have b4_0c0 := b4_0.cell 0 rfl
  have b4_0f0 := b4_0.froz 0 rfl
  have b4_0c1 := b4_0.cell 1 rfl
  have b4_0f1 := b4_0.froz 1 rfl
  have b4_0c2 := b4_0.cell 2 rfl
  have b4_0f2 := b4_0.froz 2 rfl
  have b4_0c3 := b4_0.cell 3 rfl
  have b4_0f3 := b4_0.froz 3 rfl
  have b4_0z := b4_0.lt
  have b4_1c0 := b4_1.cell 0 rfl
  have b4_1f0 := b4_1.froz 0 rfl
  have b4_1c1 := b4_1.cell 1 rfl
  have b4_1f1 := b4_1.froz 1 rfl
  have b4_1c2 := b4_1.cell 2 rfl
  have b4_1f2 := b4_1.froz 2 rfl
  have b4_1c3 := b4_1.cell 3 rfl
  have b4_1f3 := b4_1.froz 3 rfl
  have b4_1z := b4_1.lt
  go_wp2_with fail
  clear b4_0c0 b4_0f0 b4_0c1 b4_0f1 b4_0c2 b4_0f2 b4_0c3 b4_0f3 b4_0z b4_1c0 b4_1f0 b4_1c1 b4_1f1 b4_1c2 b4_1f2 b4_1c3 b4_1f3 b4_1z
  refine (empty_norm 0 0 0 0 0 0 0 0 _ (HS.out.below hq4) HNA.out).mono ?_
  rintro e w5 ⟨rfl, hb⟩
  have hq5 : Below w.heap.size w w5 := q_step hq4 hb
  have b5_0 := b4_0.below hb
  have b5_1 := b4_1.below hb
  clear hb b4_0 b4_1 hq4
  have b5_0c0 := b5_0.cell 0 rfl
  have b5_0f0 := b5_0.froz 0 rfl
  have b5_0c1 := b5_0.cell 1 rfl
  have b5_0f1 := b5_0.froz 1 rfl
  have b5_0c2 := b5_0.cell 2 rfl
  have b5_0f2 := b5_0.froz 2 rfl
  have b5_0c3 := b5_0.cell 3 rfl
  have b5_0f3 := b5_0.froz 3 rfl
  have b5_0z := b5_0.lt
  have b5_1c0 := b5_1.cell 0 rfl
  have b5_1f0 := b5_1.froz 0 rfl
  have b5_1c1 := b5_1.cell 1 rfl
  have b5_1f1 := b5_1.froz 1 rfl
  have b5_1c2 := b5_1.cell 2 rfl
  have b5_1f2 := b5_1.froz 2 rfl
  have b5_1c3 := b5_1.cell 3 rfl
  have b5_1f3 := b5_1.froz 3 rfl
  have b5_1z := b5_1.lt
  go_wp2_with fail
  clear b5_0c0 b5_0f0 b5_0c1 b5_0f1 b5_0c2 b5_0f2 b5_0c3 b5_0f3 b5_0z b5_1c0 b5_1f0 b5_1c1 b5_1f1 b5_1c2 b5_1f2 b5_1c3 b5_1f3 b5_1z
  refine (area_any 0 0 0 0 0 0 0 0 _ (HS.out.below hq5) HNA.out).mono ?_
  rintro e w6 ⟨rfl, hb⟩
  have hq6 : Below w.heap.size w w6 := q_step hq5 hb
  have b6_0 := b5_0.below hb
  have b6_1 := b5_1.below hb
  clear hb b5_0 b5_1 hq5
  have b6_0c0 := b6_0.cell 0 rfl
  have b6_0f0 := b6_0.froz 0 rfl
  have b6_0c1 := b6_0.cell 1 rfl
  have b6_0f1 := b6_0.froz 1 rfl
  have b6_0c2 := b6_0.cell 2 rfl
  have b6_0f2 := b6_0.froz 2 rfl
  have b6_0c3 := b6_0.cell 3 rfl
  have b6_0f3 := b6_0.froz 3 rfl
  have b6_0z := b6_0.lt
  have b6_1c0 := b6_1.cell 0 rfl
  have b6_1f0 := b6_1.froz 0 rfl
  have b6_1c1 := b6_1.cell 1 rfl
  have b6_1f1 := b6_1.froz 1 rfl
  have b6_1c2 := b6_1.cell 2 rfl
  have b6_1f2 := b6_1.froz 2 rfl
  have b6_1c3 := b6_1.cell 3 rfl
  have b6_1f3 := b6_1.froz 3 rfl
  have b6_1z := b6_1.lt
  go_wp2_with fail
  go_returns
  exact ⟨rfl, by (repeat' (first | with_reducible exact Below.refl _ _ | with_reducible assumption | with_reducible refine q_alloc ?_ _ | with_reducible refine q_drew ?_ | with_reducible refine q_drewN _ ?_ | with_reducible refine q_setCell ?_ ?_ _ | (left; simp; done) | (right; simp; done) | (right; dsimp only; omega) | (left; dsimp only; omega)))⟩

set_option maxRecDepth 100000 in
set_option maxHeartbeats 8000000 in
theorem there_some (x y r h a b c d u v ix iy : Int) (w : World) (hs : RowAt 0 noneCells w) (bu : -32768 ≤ u ∧ u ≤ 32767) (bv : -32768 ≤ v ∧ v ≤ 32767) (bx : -2147483648 ≤ ix ∧ ix ≤ 2147483647) (by_ : -2147483648 ≤ iy ∧ iy ≤ 2147483647)
    (s1 : ∀ W : World, RowAt 0 noneCells W → Calls Tryd.prog 27 #[rectV x y r h, i6 u, i6 v] W fun e w' => e = .returned (rectV a b c d) ∧ Below W.heap.size W w') (n : Norm x y r h x y r h) (na : Norm a b c d a b c d) (hc : 1 ≤ c) (hcr : c = r ∧ d = h ∧ a = x + u ∧ b = y + v)
    (s2 : ∀ W : World, RowAt 0 noneCells W → Calls Tryd.prog 27 #[rectV a b c d, i6 (-u), i6 (-v)] W fun e w' => e = .returned (rectV x y r h) ∧ Below W.heap.size W w') :
    Calls Tryd.prog 7 #[rectV x y r h, .int .i16 u, .int .i16 v, .int .i32 ix, .int .i32 iy] w fun e w' => e = .returned (.bool true) ∧ Below w.heap.size w w' := by
  have HS := Lib.hid hs
  have HS1 := Lib.hid s1
  have c1 : IntKind.i64.wrap u = u := i64_i16 bu
  have c2 : IntKind.i64.wrap v = v := i64_i16 bv
  have c3 : IntKind.i64.wrap (-u) = -u := IntWalk.i64_in _ (by omega)
  have c4 : IntKind.i64.wrap (-v) = -v := IntWalk.i64_in _ (by omega)
  have c5 : IntKind.i64.wrap ix = ix := IntWalk.i64_in _ (by omega)
  have c6 : IntKind.i64.wrap iy = iy := IntWalk.i64_in _ (by omega)
  have c7 : IntKind.i64.wrap (ix + u) = ix + u := IntWalk.i64_in _ (by omega)
  have c8 : IntKind.i64.wrap (iy + v) = iy + v := IntWalk.i64_in _ (by omega)
  have HNA := Lib.hid na
  have HN := Lib.hid n
  have HS2 := Lib.hid s2
  have hcn : decide (c = 0) = false := decide_eq_false (by omega)
  have HCN := Lib.hid hcn
  have hsame : inB a b c d (ix + u) (iy + v) = inB x y r h ix iy := by unfold inB; rw [decide_eq_decide]; omega
  have HSM := Lib.hid hsame
  have hmul : c * d = r * h := by rw [hcr.1, hcr.2.1]
  have HML := Lib.hid hmul
  have hrun := fun w => rect_eqb (show eqR x y r h x y r h = true from decide_eq_true ⟨rfl, rfl, rfl, rfl⟩) w
  have G1 := Lib.hid (rfl : (1 : Nat) = 1)
  have G2 := Lib.hid (rfl : (2 : Nat) = 2)
  have G3 := Lib.hid (rfl : (3 : Nat) = 3)
  have G4 := Lib.hid (rfl : (4 : Nat) = 4)
  have G5 := Lib.hid (rfl : (5 : Nat) = 5)
  clear hs s1 na n s2 hc hcr hcn hsame hmul
  go_enter Tryd.func7, Tryd.ntmps7
  go_wp2_with fail
  refine calls_world (fun W => Below w.heap.size w W ∧ Blk W (w.heap.size) [i6 x, i6 y, i6 r, i6 h]) ⟨by (repeat' (first | with_reducible exact Below.refl _ _ | with_reducible assumption | with_reducible refine q_alloc ?_ _ | with_reducible refine q_drew ?_ | with_reducible refine q_drewN _ ?_ | with_reducible refine q_setCell ?_ ?_ _ | (left; simp; done) | (right; simp; done) | (right; dsimp only; omega) | (left; dsimp only; omega))), Blk.new rfl⟩ ?_
  intro W1 ⟨hq1, b1_0⟩
  refine (awake12 _ (HS.out.below hq1)).mono ?_
  rintro e w2 ⟨rfl, hb⟩
  have hq2 : Below w.heap.size w w2 := q_step hq1 hb
  have b2_0 := b1_0.below hb
  clear hb b1_0 hq1
  have b2_0c0 := b2_0.cell 0 rfl
  have b2_0f0 := b2_0.froz 0 rfl
  have b2_0c1 := b2_0.cell 1 rfl
  have b2_0f1 := b2_0.froz 1 rfl
  have b2_0c2 := b2_0.cell 2 rfl
  have b2_0f2 := b2_0.froz 2 rfl
  have b2_0c3 := b2_0.cell 3 rfl
  have b2_0f3 := b2_0.froz 3 rfl
  have b2_0z := b2_0.lt
  go_wp2_with fail
  clear b2_0c0 b2_0f0 b2_0c1 b2_0f1 b2_0c2 b2_0f2 b2_0c3 b2_0f3 b2_0z
  refine (HS1.out _ (HS.out.below hq2)).mono ?_
  rintro e w3 ⟨rfl, hb⟩
  have hq3 : Below w.heap.size w w3 := q_step hq2 hb
  have b3_0 := b2_0.below hb
  clear hb b2_0 hq2
  have b3_0c0 := b3_0.cell 0 rfl
  have b3_0f0 := b3_0.froz 0 rfl
  have b3_0c1 := b3_0.cell 1 rfl
  have b3_0f1 := b3_0.froz 1 rfl
  have b3_0c2 := b3_0.cell 2 rfl
  have b3_0f2 := b3_0.froz 2 rfl
  have b3_0c3 := b3_0.cell 3 rfl
  have b3_0f3 := b3_0.froz 3 rfl
  have b3_0z := b3_0.lt
  go_upto_region 4 with fail
  clear b3_0c0 b3_0f0 b3_0c1 b3_0f1 b3_0c2 b3_0f2 b3_0c3 b3_0f3 b3_0z
  refine code_world (fun W => Below w.heap.size w W ∧ Blk W (w.heap.size) [i6 x, i6 y, i6 r, i6 h] ∧ Blk W (w3.heap.size) [i6 a, i6 b, i6 c, i6 d]) ⟨by (repeat' (first | with_reducible exact Below.refl _ _ | with_reducible assumption | with_reducible refine q_alloc ?_ _ | with_reducible refine q_drew ?_ | with_reducible refine q_drewN _ ?_ | with_reducible refine q_setCell ?_ ?_ _ | (left; simp; done) | (right; simp; done) | (right; dsimp only; omega) | (left; dsimp only; omega))), (b3_0).alloc _, Blk.new rfl⟩ ?_
  intro W4 ⟨hq4, b4_0, b4_1⟩
  clear b3_0 hq3
  have b4_0c0 := b4_0.cell 0 rfl
  have b4_0f0 := b4_0.froz 0 rfl
  have b4_0c1 := b4_0.cell 1 rfl
  have b4_0f1 := b4_0.froz 1 rfl
  have b4_0c2 := b4_0.cell 2 rfl
  have b4_0f2 := b4_0.froz 2 rfl
  have b4_0c3 := b4_0.cell 3 rfl
  have b4_0f3 := b4_0.froz 3 rfl
  have b4_0z := b4_0.lt
  have b4_1c0 := b4_1.cell 0 rfl
  have b4_1f0 := b4_1.froz 0 rfl
  have b4_1c1 := b4_1.cell 1 rfl
  have b4_1f1 := b4_1.froz 1 rfl
  have b4_1c2 := b4_1.cell 2 rfl
  have b4_1f2 := b4_1.froz 2 rfl
  have b4_1c3 := b4_1.cell 3 rfl
  have b4_1f3 := b4_1.froz 3 rfl
  have b4_1z := b4_1.lt
  go_wp2_with fail
  clear b4_0c0 b4_0f0 b4_0c1 b4_0f1 b4_0c2 b4_0f2 b4_0c3 b4_0f3 b4_0z b4_1c0 b4_1f0 b4_1c1 b4_1f1 b4_1c2 b4_1f2 b4_1c3 b4_1f3 b4_1z
  refine (empty_norm a b c d a b c d _ (HS.out.below hq4) HNA.out).mono ?_
  rintro e w5 ⟨rfl, hb⟩
  have hq5 : Below w.heap.size w w5 := q_step hq4 hb
  have b5_0 := b4_0.below hb
  have b5_1 := b4_1.below hb
  clear hb b4_0 b4_1 hq4
  have b5_0c0 := b5_0.cell 0 rfl
  have b5_0f0 := b5_0.froz 0 rfl
  have b5_0c1 := b5_0.cell 1 rfl
  have b5_0f1 := b5_0.froz 1 rfl
  have b5_0c2 := b5_0.cell 2 rfl
  have b5_0f2 := b5_0.froz 2 rfl
  have b5_0c3 := b5_0.cell 3 rfl
  have b5_0f3 := b5_0.froz 3 rfl
  have b5_0z := b5_0.lt
  have b5_1c0 := b5_1.cell 0 rfl
  have b5_1f0 := b5_1.froz 0 rfl
  have b5_1c1 := b5_1.cell 1 rfl
  have b5_1f1 := b5_1.froz 1 rfl
  have b5_1c2 := b5_1.cell 2 rfl
  have b5_1f2 := b5_1.froz 2 rfl
  have b5_1c3 := b5_1.cell 3 rfl
  have b5_1f3 := b5_1.froz 3 rfl
  have b5_1z := b5_1.lt
  rw [HCN.out]
  go_upto_region 6 with fail
  have J : Below w.heap.size w w5 ∧ w5.cell? ⟨w.heap.size, 0, none⟩ = some (i6 x) ∧ w5.cell? ⟨w.heap.size, 1, none⟩ = some (i6 y) ∧ w5.cell? ⟨w.heap.size, 2, none⟩ = some (i6 r) ∧ w5.cell? ⟨w.heap.size, 3, none⟩ = some (i6 h) ∧ w5.cell? ⟨w3.heap.size, 0, none⟩ = some (i6 a) ∧ w5.cell? ⟨w3.heap.size, 1, none⟩ = some (i6 b) ∧ w5.cell? ⟨w3.heap.size, 2, none⟩ = some (i6 c) ∧ w5.cell? ⟨w3.heap.size, 3, none⟩ = some (i6 d) := ⟨hq5, b5_0c0, b5_0c1, b5_0c2, b5_0c3, b5_1c0, b5_1c1, b5_1c2, b5_1c3⟩
  clear hq5 b5_0c0 b5_0f0 b5_0c1 b5_0f1 b5_0c2 b5_0f2 b5_0c3 b5_0f3 b5_0z b5_1c0 b5_1f0 b5_1c1 b5_1f1 b5_1c2 b5_1f2 b5_1c3 b5_1f3 b5_1z b5_0 b5_1
  generalize w3.heap.size = CB at J ⊢
  go_cut [10] from 12 (fun sv wx => sv = .bool true ∧ Below w.heap.size w wx)
  case first =>
    go_region_held3 (fun w' => Below w.heap.size w w' ∧ w'.cell? ⟨w.heap.size, 0, none⟩ = some (i6 x) ∧ w'.cell? ⟨w.heap.size, 1, none⟩ = some (i6 y) ∧ w'.cell? ⟨w.heap.size, 2, none⟩ = some (i6 r) ∧ w'.cell? ⟨w.heap.size, 3, none⟩ = some (i6 h) ∧ w'.cell? ⟨CB, 0, none⟩ = some (i6 a) ∧ w'.cell? ⟨CB, 1, none⟩ = some (i6 b) ∧ w'.cell? ⟨CB, 2, none⟩ = some (i6 c) ∧ w'.cell? ⟨CB, 3, none⟩ = some (i6 d))
      (first | exact J | exact ⟨J.1.drew, J.2⟩)
      (first | (go_at_call 27; have g1 := G1; refine (HS2.out _ ?_).mono ?_; (first | exact HS.out.below J.1 | exact (HS.out.below J.1).drew); rintro e w5 ⟨rfl, hb⟩; (first | replace J := s_step J hb | replace J := s_step J (below_drew hb)); clear hb g1 G1) | (go_at_call 18; have g2 := G2; refine (area_any a b c d a b c d _ ?_ HNA.out).mono ?_; (first | exact HS.out.below J.1 | exact (HS.out.below J.1).drew); rintro e w5 ⟨rfl, hb⟩; rw [HML.out]; (first | replace J := s_step J hb | replace J := s_step J (below_drew hb)); clear hb g2 G2) | (go_at_call 18; have g3 := G3; refine (area_any x y r h x y r h _ ?_ HN.out).mono ?_; (first | exact HS.out.below J.1 | exact (HS.out.below J.1).drew); rintro e w5 ⟨rfl, hb⟩; (first | replace J := s_step J hb | replace J := s_step J (below_drew hb)); clear hb g3 G3) | (go_at_call 14; have g4 := G4; refine (has_any x y r h x y r h ix iy _ ?_ HN.out).mono ?_; (first | exact HS.out.below J.1 | exact (HS.out.below J.1).drew); rintro e w5 ⟨rfl, hb⟩; (first | replace J := s_step J hb | replace J := s_step J (below_drew hb)); clear hb g4 G4) | (go_at_call 14; have g5 := G5; refine (has_any a b c d a b c d (ix + u) (iy + v) _ ?_ HNA.out).mono ?_; (first | exact HS.out.below J.1 | exact (HS.out.below J.1).drew); rintro e w5 ⟨rfl, hb⟩; rw [HSM.out]; (first | replace J := s_step J hb | replace J := s_step J (below_drew hb)); clear hb g5 G5))
    all_goals (go_wp2_with fail; go_meet; exact ⟨by first | rfl | simp, J.1⟩)
  case rest =>
    obtain ⟨rfl, hq⟩ := hcut
    go_wp2_with fail
    go_returns
    exact ⟨rfl, hq⟩
end Go.Proofs.YtlofhbeifgaoeaaDoor
