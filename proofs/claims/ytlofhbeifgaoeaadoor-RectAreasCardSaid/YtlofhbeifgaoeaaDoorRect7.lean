import Derived.Test.YtlofhbeifgaoeaaDoorRect3
namespace Go.Proofs.YtlofhbeifgaoeaaDoor
open Go Go.RowKit

theorem as_true (x y r h : Int) (w : World) (g : rightC x y r h = true) :
    Calls Tryd.prog 13 #[rectV x y r h] w fun e w' => e = .returned (rectV x y r h) ∧ Below w.heap.size w w' := by
  have HR := Lib.hid g
  clear g
  go_enter Tryd.func13, Tryd.ntmps13
  go_wp2_with fail
  refine (rright_any x y r h _).mono ?_
  rintro e w1 ⟨rfl, hb1⟩
  rw [HR.out]
  have hq := q_step (a := w) (by (repeat' (first | with_reducible exact Below.refl _ _ | with_reducible assumption | with_reducible refine q_alloc ?_ _ | with_reducible refine q_drew ?_ | with_reducible refine q_drewN _ ?_ | with_reducible refine q_setCell ?_ ?_ _ | (left; simp; done) | (right; simp; done) | (right; dsimp only; omega) | (left; dsimp only; omega)))) hb1
  obtain ⟨hc1, hf1, hz1⟩ := q_cells hb1
  simp only [World.size_alloc] at hc1 hf1 hz1
  clear hb1
  go_wp2
  refine bodyPost_ret (v := rectV x y r h) (by simp [results, Tryd.results13, go_sem, hc1]) rfl ⟨rfl, ?_⟩
  (repeat' (first | with_reducible exact Below.refl _ _ | with_reducible assumption | with_reducible refine q_alloc ?_ _ | with_reducible refine q_drew ?_ | with_reducible refine q_drewN _ ?_ | with_reducible refine q_setCell ?_ ?_ _ | (left; simp; done) | (right; simp; done) | (right; dsimp only; omega) | (left; dsimp only; omega)))
theorem as_false (x y r h : Int) (w : World) (g : rightC x y r h = false) :
    Calls Tryd.prog 13 #[rectV x y r h] w fun e w' => e = .returned (rectV 0 0 0 0) ∧ Below w.heap.size w w' := by
  have HR := Lib.hid g
  clear g
  go_enter Tryd.func13, Tryd.ntmps13
  go_wp2_with fail
  refine (rright_any x y r h _).mono ?_
  rintro e w1 ⟨rfl, hb1⟩
  rw [HR.out]
  have hq := q_step (a := w) (by (repeat' (first | with_reducible exact Below.refl _ _ | with_reducible assumption | with_reducible refine q_alloc ?_ _ | with_reducible refine q_drew ?_ | with_reducible refine q_drewN _ ?_ | with_reducible refine q_setCell ?_ ?_ _ | (left; simp; done) | (right; simp; done) | (right; dsimp only; omega) | (left; dsimp only; omega)))) hb1
  obtain ⟨hc1, hf1, hz1⟩ := q_cells hb1
  simp only [World.size_alloc] at hc1 hf1 hz1
  clear hb1
  go_wp2
  refine bodyPost_ret (v := rectV 0 0 0 0) (by simp [results, Tryd.results13, go_sem, hc1]) rfl ⟨rfl, ?_⟩
  (repeat' (first | with_reducible exact Below.refl _ _ | with_reducible assumption | with_reducible refine q_alloc ?_ _ | with_reducible refine q_drew ?_ | with_reducible refine q_drewN _ ?_ | with_reducible refine q_setCell ?_ ?_ _ | (left; simp; done) | (right; simp; done) | (right; dsimp only; omega) | (left; dsimp only; omega)))

theorem as_norm {x y r h a b c d : Int} (n : Norm x y r h a b c d) (w : World) :
    Calls Tryd.prog 13 #[rectV x y r h] w fun e w' => e = .returned (rectV a b c d) ∧ Below w.heap.size w w' := by
  rcases n with ⟨g, rfl, rfl, rfl, rfl⟩ | ⟨g, rfl, rfl, rfl, rfl⟩
  · refine as_true _ _ _ _ w ?_
    have := g.bounds
    unfold rightC
    rw [decide_eq_true (by omega), Bool.or_true]
  · cases hr : rightC x y r h
    · exact as_false x y r h w hr
    · have hz : zeroB x y r h = true := by
        unfold rightC at hr
        rw [Bool.or_eq_true] at hr
        rcases hr with hr | hr
        · exact hr
        · exact absurd (good_mk (by have := of_decide_eq_true hr; omega)) g
      have hz0 := of_decide_eq_true hz
      obtain ⟨rfl, rfl, rfl, rfl⟩ := hz0
      exact as_true 0 0 0 0 w hr

theorem rarea_any (x y r h a b c d : Int) (w : World) (n : Norm x y r h a b c d) :
    Calls Tryd.prog 19 #[rectV x y r h] w fun e w' => e = .returned (i6 (c * d)) ∧ Below w.heap.size w w' := by
  have hm : 0 ≤ c * d ∧ c * d ≤ 2097152 * 2097152 := by
    have bn := n.bounds
    exact ⟨Int.mul_nonneg bn.1 (by omega), Int.mul_le_mul bn.2.1 (by omega) (by omega) (by omega)⟩
  have hwr : IntKind.i64.wrap (c * d) = c * d := IntWalk.i64_in _ (by omega)
  have HN := Lib.hid n
  clear n
  go_enter Tryd.func19, Tryd.ntmps19
  go_wp2_with fail
  refine (as_norm HN.out _).mono ?_
  rintro e w1 ⟨rfl, hb1⟩
  have hq := q_step (a := w) (by (repeat' (first | with_reducible exact Below.refl _ _ | with_reducible assumption | with_reducible refine q_alloc ?_ _ | with_reducible refine q_drew ?_ | with_reducible refine q_drewN _ ?_ | with_reducible refine q_setCell ?_ ?_ _ | (left; simp; done) | (right; simp; done) | (right; dsimp only; omega) | (left; dsimp only; omega)))) hb1
  obtain ⟨hc1, hf1, hz1⟩ := q_cells hb1
  simp only [World.size_alloc] at hc1 hf1 hz1
  clear hb1
  go_wp2
  go_returns
  exact ⟨ret_int (by first | rfl | (simp; done) | (simp [hwr]; done)), by (repeat' (first | with_reducible exact Below.refl _ _ | with_reducible assumption | with_reducible refine q_alloc ?_ _ | with_reducible refine q_drew ?_ | with_reducible refine q_drewN _ ?_ | with_reducible refine q_setCell ?_ ?_ _ | (left; simp; done) | (right; simp; done) | (right; dsimp only; omega) | (left; dsimp only; omega)))⟩
end Go.Proofs.YtlofhbeifgaoeaaDoor
