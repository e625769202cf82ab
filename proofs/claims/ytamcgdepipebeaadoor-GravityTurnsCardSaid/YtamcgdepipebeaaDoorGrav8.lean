import Derived.Test.YtamcgdepipebeaaDoorGrav9
import Derived.Deep.Cut
import Derived.Deep.DeepCutAuto
namespace Go.Proofs.YtamcgdepipebeaaDoor
open Go Go.RowKit

set_option maxHeartbeats 1000000 in
theorem turns_ok (g x y r h x' y' r' h' : Int) (w : World) (hs : RowAt 1 noneCells w) (hn : RowAt 0 gnames w) (px py qx qy : Int) (b : Bool) (s1 : ShiftIs g x y r h x' y' r' h' px py b) (s2 : ShiftIs g x' y' r' h' x y r h qx qy b) (bq : -1 ≤ px + qx ∧ px + qx ≤ 0 ∧ -1 ≤ py + qy ∧ py + qy ≤ 0) (hg : (px + qx = 0 ∧ py + qy = 0) ∨ g = 2 ∨ g = 8 ∨ g = 5 ∨ g = 4 ∨ g = 6) :
    Calls Tryd.prog 6 #[i6 g, rectV x y r h, rectV x' y' r' h'] w fun e w' => e = .returned (.bool true) ∧ Below w.heap.size w w' := by
  have HS := Lib.hid hs
  have HN := Lib.hid hn
  clear hs hn
  have H1 := Lib.hid s1
  have H2 := Lib.hid s2
  have HG := Lib.hid hg
  clear s1 s2 hg
  go_enter Tryd.func6, Tryd.ntmps6
  go_wp2_with fail
  refine (gawake_any _ ((HS.out.alloc _).alloc _) ((HN.out.alloc _).alloc _)).mono ?_
  rintro e w1 ⟨rfl, hb1⟩
  have hq1 := q_step (a := w) (by (repeat' (first | with_reducible exact Below.refl _ _ | with_reducible assumption | with_reducible refine q_alloc ?_ _ | with_reducible refine q_drew ?_ | with_reducible refine q_drewN _ ?_ | with_reducible refine q_setCell ?_ ?_ _ | (left; simp; done) | (right; simp; done) | (right; dsimp only; omega) | (left; dsimp only; omega)))) hb1
  have ca0 : w1.cell? ⟨w.heap.size, 0, none⟩ = some (i6 x) := cell_below hb1 (cell_old (cell_new rfl))
  have ca1 : w1.cell? ⟨w.heap.size, 1, none⟩ = some (i6 y) := cell_below hb1 (cell_old (cell_new rfl))
  have ca2 : w1.cell? ⟨w.heap.size, 2, none⟩ = some (i6 r) := cell_below hb1 (cell_old (cell_new rfl))
  have ca3 : w1.cell? ⟨w.heap.size, 3, none⟩ = some (i6 h) := cell_below hb1 (cell_old (cell_new rfl))
  have cb0 : w1.cell? ⟨w.heap.size + 1, 0, none⟩ = some (i6 x') := cell_below hb1 (cell_new1 rfl)
  have cb1 : w1.cell? ⟨w.heap.size + 1, 1, none⟩ = some (i6 y') := cell_below hb1 (cell_new1 rfl)
  have cb2 : w1.cell? ⟨w.heap.size + 1, 2, none⟩ = some (i6 r') := cell_below hb1 (cell_new1 rfl)
  have cb3 : w1.cell? ⟨w.heap.size + 1, 3, none⟩ = some (i6 h') := cell_below hb1 (cell_new1 rfl)
  clear hb1
  go_wp2_with fail
  refine (H1.out _ (HS.out.below hq1)).mono ?_
  rintro e w2 ⟨rfl, hb2⟩
  have hq2 := q_step hq1 hb2
  have da0 := cell_below hb2 ca0
  have da1 := cell_below hb2 ca1
  have da2 := cell_below hb2 ca2
  have da3 := cell_below hb2 ca3
  have db0 := cell_below hb2 cb0
  have db1 := cell_below hb2 cb1
  have db2 := cell_below hb2 cb2
  have db3 := cell_below hb2 cb3
  clear hb2 hq1 ca0 ca1 ca2 ca3 cb0 cb1 cb2 cb3
  have z1 := block_lt_of_cell da0
  have z2 := block_lt_of_cell db0
  go_wp2_with fail
  generalize hW : w2.alloc (Obj.cells #[Value.int IntKind.i64 px, Value.int IntKind.i64 py] 26) = W3
  have ea0 := cell_old (o := (Obj.cells #[Value.int IntKind.i64 px, Value.int IntKind.i64 py] 26)) da0
  rw [hW] at ea0
  have ea1 := cell_old (o := (Obj.cells #[Value.int IntKind.i64 px, Value.int IntKind.i64 py] 26)) da1
  rw [hW] at ea1
  have ea2 := cell_old (o := (Obj.cells #[Value.int IntKind.i64 px, Value.int IntKind.i64 py] 26)) da2
  rw [hW] at ea2
  have ea3 := cell_old (o := (Obj.cells #[Value.int IntKind.i64 px, Value.int IntKind.i64 py] 26)) da3
  rw [hW] at ea3
  have eb0 := cell_old (o := (Obj.cells #[Value.int IntKind.i64 px, Value.int IntKind.i64 py] 26)) db0
  rw [hW] at eb0
  have eb1 := cell_old (o := (Obj.cells #[Value.int IntKind.i64 px, Value.int IntKind.i64 py] 26)) db1
  rw [hW] at eb1
  have eb2 := cell_old (o := (Obj.cells #[Value.int IntKind.i64 px, Value.int IntKind.i64 py] 26)) db2
  rw [hW] at eb2
  have eb3 := cell_old (o := (Obj.cells #[Value.int IntKind.i64 px, Value.int IntKind.i64 py] 26)) db3
  rw [hW] at eb3
  have p0 : W3.cell? ⟨w2.heap.size, 0, none⟩ = some (i6 px) := by rw [← hW]; exact cell_new rfl
  have p1 : W3.cell? ⟨w2.heap.size, 1, none⟩ = some (i6 py) := by rw [← hW]; exact cell_new rfl
  have hq3 : Below w.heap.size w W3 := by rw [← hW]; (repeat' (first | with_reducible exact Below.refl _ _ | with_reducible assumption | with_reducible refine q_alloc ?_ _ | with_reducible refine q_drew ?_ | with_reducible refine q_drewN _ ?_ | with_reducible refine q_setCell ?_ ?_ _ | (left; simp; done) | (right; simp; done) | (right; dsimp only; omega) | (left; dsimp only; omega)))
  clear hW hq2 z1 z2 da0 da1 da2 da3 db0 db1 db2 db3
  refine (H2.out _ (HS.out.below hq3)).mono ?_
  rintro e w4 ⟨rfl, hb4⟩
  have hq4 := q_step hq3 hb4
  have p2 := cell_below hb4 p0
  have p3 := cell_below hb4 p1
  clear hb4 hq3 p0 p1 ea0 ea1 ea2 ea3 eb0 eb1 eb2 eb3
  go_upto_region 7 with fail
  generalize hW : w4.alloc (Obj.cells #[Value.int IntKind.i64 qx, Value.int IntKind.i64 qy] 26) = W5
  have p4 := cell_old (o := (Obj.cells #[Value.int IntKind.i64 qx, Value.int IntKind.i64 qy] 26)) p2
  have p5 := cell_old (o := (Obj.cells #[Value.int IntKind.i64 qx, Value.int IntKind.i64 qy] 26)) p3
  rw [hW] at p4 p5
  have p6 : W5.cell? ⟨w4.heap.size, 0, none⟩ = some (i6 qx) := by rw [← hW]; exact cell_new rfl
  have p7 : W5.cell? ⟨w4.heap.size, 1, none⟩ = some (i6 qy) := by rw [← hW]; exact cell_new rfl
  have hq5 : Below w.heap.size w W5 := by rw [← hW]; (repeat' (first | with_reducible exact Below.refl _ _ | with_reducible assumption | with_reducible refine q_alloc ?_ _ | with_reducible refine q_drew ?_ | with_reducible refine q_drewN _ ?_ | with_reducible refine q_setCell ?_ ?_ _ | (left; simp; done) | (right; simp; done) | (right; dsimp only; omega) | (left; dsimp only; omega)))
  clear hW hq4 p2 p3
  have wr1 : IntKind.i64.wrap (px + qx) = px + qx := IntWalk.i64_in _ (by omega)
  have wr2 : IntKind.i64.wrap (py + qy) = py + qy := IntWalk.i64_in _ (by omega)
  go_quiet (fail)
  generalize hX : px + qx = X at *
  generalize hY : py + qy = Y at *
  clear hX hY wr1 wr2 p4 p5 p6 p7 H1 H2
  have hg := HG.out
  clear HG
  rcases hg with ⟨rfl, rfl⟩ | rfl | rfl | rfl | rfl | rfl
  · by_cases q2 : g = 2 ∨ g = 8 ∨ g = 5 ∨ g = 4 ∨ g = 6
    · rcases q2 with rfl | rfl | rfl | rfl | rfl
      all_goals
        go_wp2
        go_returns
        exact ⟨rfl, by (repeat' (first | with_reducible exact Below.refl _ _ | with_reducible assumption | with_reducible refine q_alloc ?_ _ | with_reducible refine q_drew ?_ | with_reducible refine q_drewN _ ?_ | with_reducible refine q_setCell ?_ ?_ _ | (left; simp; done) | (right; simp; done) | (right; dsimp only; omega) | (left; dsimp only; omega)))⟩
    · have u1 : (g == 2) = false := by simp; omega
      have u2 : (g == 8) = false := by simp; omega
      have u3 : (g == 5) = false := by simp; omega
      have u4 : (g == 4) = false := by simp; omega
      have u5 : (g == 6) = false := by simp; omega
      clear q2
      go_wp2
      go_returns
      exact ⟨rfl, by (repeat' (first | with_reducible exact Below.refl _ _ | with_reducible assumption | with_reducible refine q_alloc ?_ _ | with_reducible refine q_drew ?_ | with_reducible refine q_drewN _ ?_ | with_reducible refine q_setCell ?_ ?_ _ | (left; simp; done) | (right; simp; done) | (right; dsimp only; omega) | (left; dsimp only; omega)))⟩
  all_goals
    go_wp2
    go_returns
    exact ⟨rfl, by (repeat' (first | with_reducible exact Below.refl _ _ | with_reducible assumption | with_reducible refine q_alloc ?_ _ | with_reducible refine q_drew ?_ | with_reducible refine q_drewN _ ?_ | with_reducible refine q_setCell ?_ ?_ _ | (left; simp; done) | (right; simp; done) | (right; dsimp only; omega) | (left; dsimp only; omega)))⟩

theorem half_turn (d k : Int) : -1 ≤ half d k + half (-d) k ∧ half d k + half (-d) k ≤ 0 ∧ (k ≠ 1 → half d k + half (-d) k = 0) := by
  unfold half
  by_cases h0 : k = 0
  · simp [h0]
  · by_cases h1 : k = 1
    · subst h1; simp; omega
    · simp [h0, h1]; omega

theorem lturns_any (g x y r h x' y' r' h' : Int) (w : World) (hs : RowAt 1 noneCells w) (hn : RowAt 0 gnames w) :
    Calls Tryd.prog 6 #[i6 g, rectV x y r h, rectV x' y' r' h'] w fun e w' => e = .returned (.bool true) ∧ Below w.heap.size w w' := by
  by_cases hg : g ≤ 0 ∨ 11 ≤ g
  · exact turns_ok g x y r h x' y' r' h' w hs hn 0 0 0 0 false (shiftIs_none g x y r h x' y' r' h' hg) (shiftIs_none g x' y' r' h' x y r h hg) (by omega) (by omega)
  · by_cases hab : Good x y r h ∧ Good x' y' r' h'
    · obtain ⟨ga, gb⟩ := hab
      have ba := ga.bounds
      have bb := gb.bounds
      by_cases h10 : g = 10
      · subst h10
        exact turns_ok 10 x y r h x' y' r' h' w hs hn _ _ _ _ true (shiftIs_static x y r h x' y' r' h' ga gb) (shiftIs_static x' y' r' h' x y r h gb ga) (by omega) (by omega)
      · have e1 := half_turn (r' - r) ((g - 1) % 3)
        have e2 := half_turn (h' - h) ((g - 1) / 3)
        rw [show -(r' - r) = r - r' by omega] at e1
        rw [show -(h' - h) = h - h' by omega] at e2
        refine turns_ok g x y r h x' y' r' h' w hs hn _ _ _ _ true (shiftIs_mid g x y r h x' y' r' h' ga gb (by omega) (by omega)) (shiftIs_mid g x' y' r' h' x y r h gb ga (by omega) (by omega)) (by omega) ?_
        by_cases q2 : g = 2 ∨ g = 8 ∨ g = 5 ∨ g = 4 ∨ g = 6
        · exact Or.inr q2
        · exact Or.inl ⟨e1.2.2 (by omega), e2.2.2 (by omega)⟩
    · exact turns_ok g x y r h x' y' r' h' w hs hn 0 0 0 0 false (shiftIs_bad g x y r h x' y' r' h' hab) (shiftIs_bad g x' y' r' h' x y r h (fun q => hab ⟨q.2, q.1⟩)) (by omega) (by omega)
end Go.Proofs.YtamcgdepipebeaaDoor
