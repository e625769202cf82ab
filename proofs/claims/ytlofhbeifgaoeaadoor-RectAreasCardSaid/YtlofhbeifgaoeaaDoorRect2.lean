import Derived.Test.YtlofhbeifgaoeaaDoorRect
namespace Go.Proofs.YtlofhbeifgaoeaaDoor
open Go Go.RowKit

theorem right_zero (w : World) (hs : RowAt 0 noneCells w) :
    Calls Tryd.prog 30 #[rectV 0 0 0 0] w fun e w' => e = .returned (rectV 0 0 0 0) ∧ Below w.heap.size w w' := by
  go_enter Tryd.func30, Tryd.ntmps30
  go_wp2_with fail
  refine (isRight_any 0 0 0 0 _ ((hs.alloc _).alloc _)).mono ?_
  rintro e w1 ⟨rfl, hb1⟩
  rw [show rightB 0 0 0 0 = true from by decide]
  have hq := q_step (a := w) (by (repeat' (first | with_reducible exact Below.refl _ _ | with_reducible assumption | with_reducible refine q_alloc ?_ _ | with_reducible refine q_drew ?_ | with_reducible refine q_drewN _ ?_ | with_reducible refine q_setCell ?_ ?_ _ | (left; simp; done) | (right; simp; done) | (right; dsimp only; omega) | (left; dsimp only; omega)))) hb1
  obtain ⟨hc1, hf1, hz1⟩ := q_cells hb1
  simp only [World.size_alloc] at hc1 hf1 hz1
  clear hb1
  go_wp2
  refine bodyPost_ret (v := rectV 0 0 0 0) (by simp [results, Tryd.results30, go_sem, hc1]) rfl ⟨rfl, ?_⟩
  (repeat' (first | with_reducible exact Below.refl _ _ | with_reducible assumption | with_reducible refine q_alloc ?_ _ | with_reducible refine q_drew ?_ | with_reducible refine q_drewN _ ?_ | with_reducible refine q_setCell ?_ ?_ _ | (left; simp; done) | (right; simp; done) | (right; dsimp only; omega) | (left; dsimp only; omega)))

theorem right_not (x y r h : Int) (w : World) (hs : RowAt 0 noneCells w) (g : rightB x y r h = false) :
    Calls Tryd.prog 30 #[rectV x y r h] w fun e w' => e = .returned (rectV 0 0 0 0) ∧ Below w.heap.size w w' := by
  have HR := Lib.hid g
  clear g
  go_enter Tryd.func30, Tryd.ntmps30
  go_wp2_with fail
  refine (isRight_any x y r h _ ((hs.alloc _).alloc _)).mono ?_
  rintro e w1 ⟨rfl, hb1⟩
  rw [HR.out]
  have hs1 := ((hs.alloc _).alloc _).below hb1
  clear hs
  have hq := q_step (a := w) (by (repeat' (first | with_reducible exact Below.refl _ _ | with_reducible assumption | with_reducible refine q_alloc ?_ _ | with_reducible refine q_drew ?_ | with_reducible refine q_drewN _ ?_ | with_reducible refine q_setCell ?_ ?_ _ | (left; simp; done) | (right; simp; done) | (right; dsimp only; omega) | (left; dsimp only; omega)))) hb1
  obtain ⟨hc1, hf1, hz1⟩ := q_cells hb1
  simp only [World.size_alloc] at hc1 hf1 hz1
  clear hb1
  go_wp2_with (with_reducible refine at_load 23 (.global 0) ?_; refine wpList_load_cells rfl 23 _ rfl 0 rfl noneCells _ hs1 Tryd.underlying23 rfl sizeRect ?_)
  refine bodyPost_ret (v := rectV 0 0 0 0) (by simp [results, Tryd.results30, go_sem, hc1]) rfl ⟨rfl, ?_⟩
  (repeat' (first | with_reducible exact Below.refl _ _ | with_reducible assumption | with_reducible refine q_alloc ?_ _ | with_reducible refine q_drew ?_ | with_reducible refine q_drewN _ ?_ | with_reducible refine q_setCell ?_ ?_ _ | (left; simp; done) | (right; simp; done) | (right; dsimp only; omega) | (left; dsimp only; omega)))

theorem right_bad (x y r h : Int) (w : World) (hs : RowAt 0 noneCells w) (g : ¬ Good x y r h) :
    Calls Tryd.prog 30 #[rectV x y r h] w fun e w' => e = .returned (rectV 0 0 0 0) ∧ Below w.heap.size w w' := by
  by_cases hz : x = 0 ∧ y = 0 ∧ r = 0 ∧ h = 0
  · obtain ⟨rfl, rfl, rfl, rfl⟩ := hz
    exact right_zero w hs
  · refine right_not x y r h w hs ?_
    unfold rightB zeroB
    rw [decide_eq_false hz, Bool.false_or]
    cases hx : wideB x r
    · rfl
    · cases hy : wideB y h
      · rfl
      · exact absurd ⟨hx, hy⟩ g

theorem empty_bad (x y r h : Int) (w : World) (hs : RowAt 0 noneCells w) (g : ¬ Good x y r h) :
    Calls Tryd.prog 12 #[rectV x y r h] w fun e w' => e = .returned (.bool true) ∧ Below w.heap.size w w' := by
  have HG := Lib.hid g
  clear g
  have c0 : w.cell? ⟨0, 0, none⟩ = some (.int .i64 0) := hs.at_ 0 _ rfl
  have c1 : w.cell? ⟨0, 1, none⟩ = some (.int .i64 0) := hs.at_ 1 _ rfl
  have c2 : w.cell? ⟨0, 2, none⟩ = some (.int .i64 0) := hs.at_ 2 _ rfl
  have c3 : w.cell? ⟨0, 3, none⟩ = some (.int .i64 0) := hs.at_ 3 _ rfl
  have hl := hs.lt
  have hl2 : 0 < w.heap.size := by omega
  have hl3 : 0 < w.heap.size + 1 := by omega
  have hl4 : ¬ 0 = w.heap.size := by omega
  have HS := Lib.hid hs
  clear hs
  go_enter Tryd.func12, Tryd.ntmps12
  go_wp2_with fail
  go_region_with (go_at_call 30; refine (right_bad x y r h _ ?_ HG.out).mono ?_; exact (HS.out.alloc _).drew; rintro e w1 ⟨rfl, hb1⟩; have hq := q_step (a := w) (by (repeat' (first | with_reducible exact Below.refl _ _ | with_reducible assumption | with_reducible refine q_alloc ?_ _ | with_reducible refine q_drew ?_ | with_reducible refine q_drewN _ ?_ | with_reducible refine q_setCell ?_ ?_ _ | (left; simp; done) | (right; simp; done) | (right; dsimp only; omega) | (left; dsimp only; omega)))) hb1; obtain ⟨hc1, hf1, hz1⟩ := q_cells hb1; simp only [World.size_alloc, World.size_drew] at hc1 hf1 hz1; clear hb1)
  all_goals go_wp2
  all_goals go_returns
  all_goals exact ⟨rfl, by (repeat' (first | with_reducible exact Below.refl _ _ | with_reducible assumption | with_reducible refine q_alloc ?_ _ | with_reducible refine q_drew ?_ | with_reducible refine q_drewN _ ?_ | with_reducible refine q_setCell ?_ ?_ _ | (left; simp; done) | (right; simp; done) | (right; dsimp only; omega) | (left; dsimp only; omega)))⟩

set_option maxHeartbeats 2000000 in
theorem empty_good (x y r h : Int) (w : World) (hs : RowAt 0 noneCells w) (g : Good x y r h) :
    Calls Tryd.prog 12 #[rectV x y r h] w fun e w' => e = .returned (.bool false) ∧ Below w.heap.size w w' := by
  have hr : ¬ r = 0 := by have := g.bounds; omega
  have HG := Lib.hid g
  clear g
  have c0 : w.cell? ⟨0, 0, none⟩ = some (.int .i64 0) := hs.at_ 0 _ rfl
  have c1 : w.cell? ⟨0, 1, none⟩ = some (.int .i64 0) := hs.at_ 1 _ rfl
  have c2 : w.cell? ⟨0, 2, none⟩ = some (.int .i64 0) := hs.at_ 2 _ rfl
  have c3 : w.cell? ⟨0, 3, none⟩ = some (.int .i64 0) := hs.at_ 3 _ rfl
  have hl := hs.lt
  have hl2 : 0 < w.heap.size := by omega
  have hl3 : 0 < w.heap.size + 1 := by omega
  have hl4 : ¬ 0 = w.heap.size := by omega
  have HS := Lib.hid hs
  clear hs
  by_cases hx : x = 0
  · subst hx
    by_cases hy : y = 0
    · subst hy
      go_enter Tryd.func12, Tryd.ntmps12
      go_wp2_with fail
      go_region_with (go_at_call 30; refine (right_good _ _ r h _ ?_ HG.out).mono ?_; exact (HS.out.alloc _).drew; rintro e w1 ⟨rfl, hb1⟩; have hq := q_step (a := w) (by (repeat' (first | with_reducible exact Below.refl _ _ | with_reducible assumption | with_reducible refine q_alloc ?_ _ | with_reducible refine q_drew ?_ | with_reducible refine q_drewN _ ?_ | with_reducible refine q_setCell ?_ ?_ _ | (left; simp; done) | (right; simp; done) | (right; dsimp only; omega) | (left; dsimp only; omega)))) hb1; obtain ⟨hc1, hf1, hz1⟩ := q_cells hb1; simp only [World.size_alloc, World.size_drew] at hc1 hf1 hz1; clear hb1)
      all_goals go_wp2
      all_goals go_returns
      all_goals exact ⟨rfl, by (repeat' (first | with_reducible exact Below.refl _ _ | with_reducible assumption | with_reducible refine q_alloc ?_ _ | with_reducible refine q_drew ?_ | with_reducible refine q_drewN _ ?_ | with_reducible refine q_setCell ?_ ?_ _ | (left; simp; done) | (right; simp; done) | (right; dsimp only; omega) | (left; dsimp only; omega)))⟩
    · go_enter Tryd.func12, Tryd.ntmps12
      go_wp2_with fail
      go_region_with (go_at_call 30; refine (right_good _ y r h _ ?_ HG.out).mono ?_; exact (HS.out.alloc _).drew; rintro e w1 ⟨rfl, hb1⟩; have hq := q_step (a := w) (by (repeat' (first | with_reducible exact Below.refl _ _ | with_reducible assumption | with_reducible refine q_alloc ?_ _ | with_reducible refine q_drew ?_ | with_reducible refine q_drewN _ ?_ | with_reducible refine q_setCell ?_ ?_ _ | (left; simp; done) | (right; simp; done) | (right; dsimp only; omega) | (left; dsimp only; omega)))) hb1; obtain ⟨hc1, hf1, hz1⟩ := q_cells hb1; simp only [World.size_alloc, World.size_drew] at hc1 hf1 hz1; clear hb1)
      all_goals go_wp2
      all_goals go_returns
      all_goals exact ⟨rfl, by (repeat' (first | with_reducible exact Below.refl _ _ | with_reducible assumption | with_reducible refine q_alloc ?_ _ | with_reducible refine q_drew ?_ | with_reducible refine q_drewN _ ?_ | with_reducible refine q_setCell ?_ ?_ _ | (left; simp; done) | (right; simp; done) | (right; dsimp only; omega) | (left; dsimp only; omega)))⟩
  · go_enter Tryd.func12, Tryd.ntmps12
    go_wp2_with fail
    go_region_with (go_at_call 30; refine (right_good x y r h _ ?_ HG.out).mono ?_; exact (HS.out.alloc _).drew; rintro e w1 ⟨rfl, hb1⟩; have hq := q_step (a := w) (by (repeat' (first | with_reducible exact Below.refl _ _ | with_reducible assumption | with_reducible refine q_alloc ?_ _ | with_reducible refine q_drew ?_ | with_reducible refine q_drewN _ ?_ | with_reducible refine q_setCell ?_ ?_ _ | (left; simp; done) | (right; simp; done) | (right; dsimp only; omega) | (left; dsimp only; omega)))) hb1; obtain ⟨hc1, hf1, hz1⟩ := q_cells hb1; simp only [World.size_alloc, World.size_drew] at hc1 hf1 hz1; clear hb1)
    all_goals go_wp2
    all_goals go_returns
    all_goals exact ⟨rfl, by (repeat' (first | with_reducible exact Below.refl _ _ | with_reducible assumption | with_reducible refine q_alloc ?_ _ | with_reducible refine q_drew ?_ | with_reducible refine q_drewN _ ?_ | with_reducible refine q_setCell ?_ ?_ _ | (left; simp; done) | (right; simp; done) | (right; dsimp only; omega) | (left; dsimp only; omega)))⟩
end Go.Proofs.YtlofhbeifgaoeaaDoor
