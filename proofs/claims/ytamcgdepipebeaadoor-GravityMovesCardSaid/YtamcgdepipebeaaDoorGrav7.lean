import Derived.Test.YtamcgdepipebeaaDoorGrav4
import Derived.Test.YtamcgdepipebeaaDoorGrav6
import Derived.Deep.Cut
import Derived.Deep.DeepCutAuto
namespace Go.Proofs.YtamcgdepipebeaaDoor
open Go Go.RowKit

def gnames : List Value := [.string ⟨#[102, 111, 114, 103, 101, 116]⟩, .string ⟨#[110, 111, 114, 116, 104, 45, 119, 101, 115, 116]⟩, .string ⟨#[110, 111, 114, 116, 104]⟩, .string ⟨#[110, 111, 114, 116, 104, 45, 101, 97, 115, 116]⟩, .string ⟨#[119, 101, 115, 116]⟩, .string ⟨#[99, 101, 110, 116, 101, 114]⟩, .string ⟨#[101, 97, 115, 116]⟩, .string ⟨#[115, 111, 117, 116, 104, 45, 119, 101, 115, 116]⟩, .string ⟨#[115, 111, 117, 116, 104]⟩, .string ⟨#[115, 111, 117, 116, 104, 45, 101, 97, 115, 116]⟩, .string ⟨#[115, 116, 97, 116, 105, 99]⟩]

theorem gname5 (w : World) (hs : RowAt 0 gnames w) :
    Calls Tryd.prog 16 #[.int .i64 5] w fun e w' => e = .returned (.string ⟨#[99, 101, 110, 116, 101, 114]⟩) ∧ w = w' := by
  have h14 : w.cell? ⟨0, 5, none⟩ = some (.string ⟨#[99, 101, 110, 116, 101, 114]⟩) := hs.at_ 5 _ rfl
  clear hs
  go_enter Tryd.func16, Tryd.ntmps16
  go_wp2_with (go_at_call 17; go_in)
  go_returns
  exact ⟨rfl, rfl⟩

theorem shiftIs_mid (g x y r h x' y' r' h' : Int) (ga : Good x y r h) (gb : Good x' y' r' h') (h1 : 1 ≤ g) (h2 : g ≤ 9) : ShiftIs g x y r h x' y' r' h' (half (r' - r) ((g - 1) % 3)) (half (h' - h) ((g - 1) / 3)) true :=
  fun W hs => shift_mid g x y r h x' y' r' h' W hs ga gb h1 h2
theorem shiftIs_static (x y r h x' y' r' h' : Int) (ga : Good x y r h) (gb : Good x' y' r' h') : ShiftIs 10 x y r h x' y' r' h' (x - x') (y - y') true :=
  fun W hs => shift_static x y r h x' y' r' h' W hs ga gb

theorem kv6 : keptV 3 0 4 4 7 4 = rectV 3 0 4 4 := by simp [keptV, kx0, kx1]

set_option maxHeartbeats 1000000 in
theorem gawake_any (w : World) (hs : RowAt 1 noneCells w) (hn : RowAt 0 gnames w) :
    Calls Tryd.prog 9 #[] w fun e w' => e = .returned (.bool true) ∧ Below w.heap.size w w' := by
  have HS := Lib.hid hs
  have HN := Lib.hid hn
  have g1 : Good 10 10 4 4 := good_mk (by omega)
  have g2 : Good 8 10 7 4 := good_mk (by omega)
  have g3 : Good 10 10 1 4 := good_mk (by omega)
  have S1 := Lib.hid (shiftIs_mid 6 10 10 4 4 8 10 7 4 g1 g2 (by omega) (by omega))
  have S2 := Lib.hid (shiftIs_static 10 10 4 4 8 10 7 4 g1 g2)
  have S3 := Lib.hid (show ShiftIs 2 10 10 4 4 10 10 1 4 (-2) 0 true from shiftIs_mid 2 10 10 4 4 10 10 1 4 g1 g3 (by omega) (by omega))
  clear hs hn g1 g2 g3
  go_enter Tryd.func9, Tryd.ntmps9
  go_wp2_with fail
  refine (kept_ok 6 10 10 4 4 8 10 7 4 3 0 _ (HS.out.alloc _) S1.out (by omega) (by omega) (by omega) (by omega) (by omega) (by omega)).mono ?_
  rintro e w1 ⟨rfl, hb1⟩
  rw [kv6]
  have hq1 := q_step (a := w) (by (repeat' (first | with_reducible exact Below.refl _ _ | with_reducible assumption | with_reducible refine q_alloc ?_ _ | with_reducible refine q_drew ?_ | with_reducible refine q_drewN _ ?_ | with_reducible refine q_setCell ?_ ?_ _ | (left; simp; done) | (right; simp; done) | (right; dsimp only; omega) | (left; dsimp only; omega)))) hb1
  have a0 : w1.cell? ⟨w.heap.size, 0, none⟩ = some (i6 10) := cell_below hb1 (by go_cell)
  have a1 : w1.cell? ⟨w.heap.size, 1, none⟩ = some (i6 10) := cell_below hb1 (by go_cell)
  have a2 : w1.cell? ⟨w.heap.size, 2, none⟩ = some (i6 4) := cell_below hb1 (by go_cell)
  have a3 : w1.cell? ⟨w.heap.size, 3, none⟩ = some (i6 4) := cell_below hb1 (by go_cell)
  clear hb1
  have z1 : w.heap.size < w1.heap.size := block_lt_of_cell a0
  go_wp2_with fail
  generalize hW : (w1.alloc (Obj.cells #[Value.int IntKind.i64 3, Value.int IntKind.i64 0] 26)).alloc (Obj.cells #[Value.int IntKind.i64 3, Value.int IntKind.i64 0, Value.int IntKind.i64 4, Value.int IntKind.i64 4] 23) = W2
  have b0 : W2.cell? ⟨w.heap.size, 0, none⟩ = some (i6 10) := by rw [← hW]; exact cell_old (cell_old a0)
  have b1 : W2.cell? ⟨w.heap.size, 1, none⟩ = some (i6 10) := by rw [← hW]; exact cell_old (cell_old a1)
  have b2 : W2.cell? ⟨w.heap.size, 2, none⟩ = some (i6 4) := by rw [← hW]; exact cell_old (cell_old a2)
  have b3 : W2.cell? ⟨w.heap.size, 3, none⟩ = some (i6 4) := by rw [← hW]; exact cell_old (cell_old a3)
  have p0 : W2.cell? ⟨w1.heap.size, 0, none⟩ = some (i6 3) := by rw [← hW]; exact cell_old (cell_new rfl)
  have p1 : W2.cell? ⟨w1.heap.size, 1, none⟩ = some (i6 0) := by rw [← hW]; exact cell_old (cell_new rfl)
  have r0 : W2.cell? ⟨w1.heap.size + 1, 0, none⟩ = some (i6 3) := by rw [← hW]; exact cell_new1 rfl
  have r1 : W2.cell? ⟨w1.heap.size + 1, 1, none⟩ = some (i6 0) := by rw [← hW]; exact cell_new1 rfl
  have r2 : W2.cell? ⟨w1.heap.size + 1, 2, none⟩ = some (i6 4) := by rw [← hW]; exact cell_new1 rfl
  have r3 : W2.cell? ⟨w1.heap.size + 1, 3, none⟩ = some (i6 4) := by rw [← hW]; exact cell_new1 rfl
  have hq2 : Below w.heap.size w W2 := by rw [← hW]; (repeat' (first | with_reducible exact Below.refl _ _ | with_reducible assumption | with_reducible refine q_alloc ?_ _ | with_reducible refine q_drew ?_ | with_reducible refine q_drewN _ ?_ | with_reducible refine q_setCell ?_ ?_ _ | (left; simp; done) | (right; simp; done) | (right; dsimp only; omega) | (left; dsimp only; omega)))
  clear hW a0 a1 a2 a3 hq1 z1
  refine (S2.out _ (HS.out.below hq2)).mono ?_
  rintro e w3 ⟨rfl, hb3⟩
  have hq3 := q_step hq2 hb3
  have cb0 := cell_below hb3 b0
  have cb1 := cell_below hb3 b1
  have cb2 := cell_below hb3 b2
  have cb3 := cell_below hb3 b3
  have cp0 := cell_below hb3 p0
  have cp1 := cell_below hb3 p1
  have cr0 := cell_below hb3 r0
  have cr1 := cell_below hb3 r1
  have cr2 := cell_below hb3 r2
  have cr3 := cell_below hb3 r3
  clear hb3 hq2 b0 b1 b2 b3 p0 p1 r0 r1 r2 r3
  have z3 := block_lt_of_cell cb0
  go_wp2_with fail
  generalize hW : w3.alloc (Obj.cells #[Value.int IntKind.i64 2, Value.int IntKind.i64 0] 26) = W4
  have db0 := cell_old (o := (Obj.cells #[Value.int IntKind.i64 2, Value.int IntKind.i64 0] 26)) cb0
  rw [hW] at db0
  have db1 := cell_old (o := (Obj.cells #[Value.int IntKind.i64 2, Value.int IntKind.i64 0] 26)) cb1
  rw [hW] at db1
  have db2 := cell_old (o := (Obj.cells #[Value.int IntKind.i64 2, Value.int IntKind.i64 0] 26)) cb2
  rw [hW] at db2
  have db3 := cell_old (o := (Obj.cells #[Value.int IntKind.i64 2, Value.int IntKind.i64 0] 26)) cb3
  rw [hW] at db3
  have dp0 := cell_old (o := (Obj.cells #[Value.int IntKind.i64 2, Value.int IntKind.i64 0] 26)) cp0
  rw [hW] at dp0
  have dp1 := cell_old (o := (Obj.cells #[Value.int IntKind.i64 2, Value.int IntKind.i64 0] 26)) cp1
  rw [hW] at dp1
  have dr0 := cell_old (o := (Obj.cells #[Value.int IntKind.i64 2, Value.int IntKind.i64 0] 26)) cr0
  rw [hW] at dr0
  have dr1 := cell_old (o := (Obj.cells #[Value.int IntKind.i64 2, Value.int IntKind.i64 0] 26)) cr1
  rw [hW] at dr1
  have dr2 := cell_old (o := (Obj.cells #[Value.int IntKind.i64 2, Value.int IntKind.i64 0] 26)) cr2
  rw [hW] at dr2
  have dr3 := cell_old (o := (Obj.cells #[Value.int IntKind.i64 2, Value.int IntKind.i64 0] 26)) cr3
  rw [hW] at dr3
  have q0 : W4.cell? ⟨w3.heap.size, 0, none⟩ = some (i6 2) := by rw [← hW]; exact cell_new rfl
  have q1 : W4.cell? ⟨w3.heap.size, 1, none⟩ = some (i6 0) := by rw [← hW]; exact cell_new rfl
  have hq4 : Below w.heap.size w W4 := by rw [← hW]; (repeat' (first | with_reducible exact Below.refl _ _ | with_reducible assumption | with_reducible refine q_alloc ?_ _ | with_reducible refine q_drew ?_ | with_reducible refine q_drewN _ ?_ | with_reducible refine q_setCell ?_ ?_ _ | (left; simp; done) | (right; simp; done) | (right; dsimp only; omega) | (left; dsimp only; omega)))
  clear hW hq3 z3 cb0 cb1 cb2 cb3 cp0 cp1 cr0 cr1 cr2 cr3
  refine (S3.out _ (HS.out.below hq4)).mono ?_
  rintro e w5 ⟨rfl, hb5⟩
  have hq5 := q_step hq4 hb5
  have edb0 := cell_below hb5 db0
  have edb1 := cell_below hb5 db1
  have edb2 := cell_below hb5 db2
  have edb3 := cell_below hb5 db3
  have edp0 := cell_below hb5 dp0
  have edp1 := cell_below hb5 dp1
  have edr0 := cell_below hb5 dr0
  have edr1 := cell_below hb5 dr1
  have edr2 := cell_below hb5 dr2
  have edr3 := cell_below hb5 dr3
  have eq0 := cell_below hb5 q0
  have eq1 := cell_below hb5 q1
  clear hb5 hq4 db0 db1 db2 db3 dp0 dp1 dr0 dr1 dr2 dr3 q0 q1
  have z5 := block_lt_of_cell edb0
  have z6 := block_lt_of_cell edp0
  have z7 := block_lt_of_cell edr0
  have z8 := block_lt_of_cell eq0
  go_upto_region 5 with fail
  generalize hW : w5.alloc (Obj.cells #[Value.int IntKind.i64 (-2), Value.int IntKind.i64 0] 26) = W6
  have fdb0 := cell_old (o := (Obj.cells #[Value.int IntKind.i64 (-2), Value.int IntKind.i64 0] 26)) edb0
  rw [hW] at fdb0
  have fdb1 := cell_old (o := (Obj.cells #[Value.int IntKind.i64 (-2), Value.int IntKind.i64 0] 26)) edb1
  rw [hW] at fdb1
  have fdb2 := cell_old (o := (Obj.cells #[Value.int IntKind.i64 (-2), Value.int IntKind.i64 0] 26)) edb2
  rw [hW] at fdb2
  have fdb3 := cell_old (o := (Obj.cells #[Value.int IntKind.i64 (-2), Value.int IntKind.i64 0] 26)) edb3
  rw [hW] at fdb3
  have fdp0 := cell_old (o := (Obj.cells #[Value.int IntKind.i64 (-2), Value.int IntKind.i64 0] 26)) edp0
  rw [hW] at fdp0
  have fdp1 := cell_old (o := (Obj.cells #[Value.int IntKind.i64 (-2), Value.int IntKind.i64 0] 26)) edp1
  rw [hW] at fdp1
  have fdr0 := cell_old (o := (Obj.cells #[Value.int IntKind.i64 (-2), Value.int IntKind.i64 0] 26)) edr0
  rw [hW] at fdr0
  have fdr1 := cell_old (o := (Obj.cells #[Value.int IntKind.i64 (-2), Value.int IntKind.i64 0] 26)) edr1
  rw [hW] at fdr1
  have fdr2 := cell_old (o := (Obj.cells #[Value.int IntKind.i64 (-2), Value.int IntKind.i64 0] 26)) edr2
  rw [hW] at fdr2
  have fdr3 := cell_old (o := (Obj.cells #[Value.int IntKind.i64 (-2), Value.int IntKind.i64 0] 26)) edr3
  rw [hW] at fdr3
  have fq0 := cell_old (o := (Obj.cells #[Value.int IntKind.i64 (-2), Value.int IntKind.i64 0] 26)) eq0
  rw [hW] at fq0
  have fq1 := cell_old (o := (Obj.cells #[Value.int IntKind.i64 (-2), Value.int IntKind.i64 0] 26)) eq1
  rw [hW] at fq1
  have m0 : W6.cell? ⟨w5.heap.size, 0, none⟩ = some (i6 (-2)) := by rw [← hW]; exact cell_new rfl
  have m1 : W6.cell? ⟨w5.heap.size, 1, none⟩ = some (i6 (0)) := by rw [← hW]; exact cell_new rfl
  have hq6 : Below w.heap.size w W6 := by rw [← hW]; (repeat' (first | with_reducible exact Below.refl _ _ | with_reducible assumption | with_reducible refine q_alloc ?_ _ | with_reducible refine q_drew ?_ | with_reducible refine q_drewN _ ?_ | with_reducible refine q_setCell ?_ ?_ _ | (left; simp; done) | (right; simp; done) | (right; dsimp only; omega) | (left; dsimp only; omega)))
  clear hW hq5 z5 z6 z7 z8 edb0 edb1 edb2 edb3 edp0 edp1 edr0 edr1 edr2 edr3 eq0 eq1
  go_wp2_with (go_at_call 16; refine (gname5 _ (HN.out.below hq6)).mono ?_; rintro e w' ⟨rfl, rfl⟩)
  go_returns
  exact ⟨rfl, hq6⟩
end Go.Proofs.YtamcgdepipebeaaDoor
