import Derived.Test.YtlofhbeifgaoeaaDoorRect6
import Derived.Test.YtlofhbeifgaoeaaDoorRects
import Derived.Test.YtlofhbeifgaoeaaDoorLib3
import Derived.Deep.Cut
import Derived.Deep.CutRange
import Derived.Deep.DeepCutAuto
import Derived.OwnWalk
import Derived.Lib.SmallJoins
namespace Go.Proofs.YtlofhbeifgaoeaaDoor
open Go Go.RowKit

set_option maxRecDepth 100000 in
theorem andThen_not {r : Result Bool} {b : Bool} {w : World} (h : r.andThen (fun a w' => .ok (Value.bool a) w') = .ok (Value.bool b) w) : r.andThen (fun a w' => .ok (Value.bool !a) w') = .ok (Value.bool !b) w := by
  cases r <;> simp_all [Result.andThen]
theorem rect_neq0 (x y r h : Int) (w : World) : (binOp .neq 23 (.agg #[i6 x, i6 y, i6 r, i6 h]) (.agg #[i6 0, i6 0, i6 0, i6 0])).run Tryd.prog w = .ok (.bool (!zeroB x y r h)) w := by
  have h0 := rect_eql0 x y r h w
  simp [binOp, Sem.run_bind] at h0 ⊢
  exact andThen_not h0
theorem rect_neqz {x y r h : Int} {b : Bool} (hz : zeroB x y r h = b) (w : World) : (binOp .neq 23 (.agg #[i6 x, i6 y, i6 r, i6 h]) (.agg #[i6 0, i6 0, i6 0, i6 0])).run Tryd.prog w = .ok (.bool (!b)) w := by
  rw [← hz]; exact rect_neq0 x y r h w
theorem und_rects : Tryd.prog.underlying 34 = some (.slice 23) := by kernel_rfl
theorem info_rect : (Tryd.prog.info? 23).map (fun i => (i.zero, i.size, i.bytes)) = some (some (.agg #[i6 0, i6 0, i6 0, i6 0]), 4, 32) := by kernel_rfl
theorem cellR_cells {w : World} {o : Obj} {r : R4} {t : TypeId} {fr : Nat × Nat} : ∀ j u, (cellR r)[j]? = some u → ((w.alloc o).alloc (.cells #[i6 r.1, i6 r.2.1, i6 r.2.2.1, i6 r.2.2.2] t fr)).cell? ((⟨w.heap.size + 1, 0, none⟩ : Addr).add j) = some u := by
  intro j u hj
  match j, hj with
  | 0, hj => simp [cellR] at hj; subst hj; exact cell_new1 rfl
  | 1, hj => simp [cellR] at hj; subst hj; exact cell_new1 rfl
  | 2, hj => simp [cellR] at hj; subst hj; exact cell_new1 rfl
  | 3, hj => simp [cellR] at hj; subst hj; exact cell_new1 rfl
  | j + 4, hj => simp [cellR] at hj
theorem cellR_one {r : R4} : ∀ u ∈ cellR r, u.oneCell' = true := by
  intro u hu
  simp [cellR] at hu
  rcases hu with rfl | rfl | rfl | rfl <;> rfl

set_option maxHeartbeats 12000000 in
theorem minus_some (x y r h a b c d x' y' r' h' a' b' c' d' p q s t p1 q1 s1 t1 p2 q2 s2 t2 p3 q3 s3 t3 p4 q4 s4 t4 : Int) (w : World) (hs : RowAt 0 noneCells w) (n : Norm x y r h a b c d) (n' : Norm x' y' r' h' a' b' c' d')
    (nb : Betw (max a a') (max b b') (min (a + c) (a' + c')) (min (b + d) (b' + d')) p q s t) (hp : 1 ≤ s) (nb1 : Betw (a) (b) (a + c) (q) p1 q1 s1 t1) (nb2 : Betw (a) (q) (p) (q + t) p2 q2 s2 t2) (nb3 : Betw (p + s) (q) (a + c) (q + t) p3 q3 s3 t3) (nb4 : Betw (a) (q + t) (a + c) (b + d) p4 q4 s4 t4) :
    Calls Tryd.prog 23 #[rectV x y r h, rectV x' y' r' h'] w fun e w' => ∃ v, e = .returned v ∧ OwnR w' w.heap.size v ([(p1, q1, s1, t1), (p2, q2, s2, t2), (p3, q3, s3, t3), (p4, q4, s4, t4)].filter nzR) ∧ Below w.heap.size w w' := by
  generalize hL : [(p1, q1, s1, t1), (p2, q2, s2, t2), (p3, q3, s3, t3), (p4, q4, s4, t4)] = L
  have HLL := Lib.hid hL
  clear hL
  have HS := Lib.hid hs
  have HN := Lib.hid n
  have HN2 := Lib.hid n'
  have HB := Lib.hid nb
  have bn := n.bounds
  have bn' := n'.bounds
  have hca : 1 ≤ c := by rcases nb with ⟨_, _, _, _, rfl, _⟩ | ⟨_, _, _, rfl, _⟩ <;> omega
  have hz : zeroB a b c d = false := decide_eq_false (by omega)
  have hz2 : zeroB p q s t = false := decide_eq_false (by omega)
  have hpb : a ≤ p ∧ p + s ≤ a + c ∧ b ≤ q ∧ q + t ≤ b + d ∧ 1 ≤ t := by rcases nb with ⟨_, _, rfl, rfl, rfl, rfl⟩ | ⟨_, _, _, rfl, _⟩ <;> omega
  have W1' : IntKind.i64.wrap (a + c) = a + c := IntWalk.i64_in _ (by omega)
  have W2' : IntKind.i64.wrap (q + t) = q + t := IntWalk.i64_in _ (by omega)
  have W3' : IntKind.i64.wrap (p + s) = p + s := IntWalk.i64_in _ (by omega)
  have W4' : IntKind.i64.wrap (b + d) = b + d := IntWalk.i64_in _ (by omega)
  have B1 := Lib.hid nb1
  have B2 := Lib.hid nb2
  have B3 := Lib.hid nb3
  have B4 := Lib.hid nb4
  clear nb1 nb2 nb3 nb4
  have HZ := Lib.hid hz
  have HZ2 := Lib.hid hz2
  clear hs n n' nb hz hz2
  go_enter Tryd.func23, Tryd.ntmps23
  go_wp2_with fail
  generalize hW : (w.alloc (Obj.cells #[Value.int IntKind.i64 x, Value.int IntKind.i64 y, Value.int IntKind.i64 r, Value.int IntKind.i64 h] 23)).alloc (Obj.cells #[Value.int IntKind.i64 x', Value.int IntKind.i64 y', Value.int IntKind.i64 r', Value.int IntKind.i64 h'] 23) = W1
  have f1_0 : W1.cell? ⟨w.heap.size, 0, none⟩ = some (i6 x) := by rw [← hW]; exact cell_old (cell_new rfl)
  have g1_0 : W1.frozen? ⟨w.heap.size, 0, none⟩ = false := by rw [← hW]; exact (frozen_old (cell_new rfl) frozen_new)
  have f1_1 : W1.cell? ⟨w.heap.size, 1, none⟩ = some (i6 y) := by rw [← hW]; exact cell_old (cell_new rfl)
  have g1_1 : W1.frozen? ⟨w.heap.size, 1, none⟩ = false := by rw [← hW]; exact (frozen_old (cell_new rfl) frozen_new)
  have f1_2 : W1.cell? ⟨w.heap.size, 2, none⟩ = some (i6 r) := by rw [← hW]; exact cell_old (cell_new rfl)
  have g1_2 : W1.frozen? ⟨w.heap.size, 2, none⟩ = false := by rw [← hW]; exact (frozen_old (cell_new rfl) frozen_new)
  have f1_3 : W1.cell? ⟨w.heap.size, 3, none⟩ = some (i6 h) := by rw [← hW]; exact cell_old (cell_new rfl)
  have g1_3 : W1.frozen? ⟨w.heap.size, 3, none⟩ = false := by rw [← hW]; exact (frozen_old (cell_new rfl) frozen_new)
  have f1_4 : W1.cell? ⟨w.heap.size + 1, 0, none⟩ = some (i6 x') := by rw [← hW]; exact cell_new1 rfl
  have g1_4 : W1.frozen? ⟨w.heap.size + 1, 0, none⟩ = false := by rw [← hW]; exact frozen_new1
  have f1_5 : W1.cell? ⟨w.heap.size + 1, 1, none⟩ = some (i6 y') := by rw [← hW]; exact cell_new1 rfl
  have g1_5 : W1.frozen? ⟨w.heap.size + 1, 1, none⟩ = false := by rw [← hW]; exact frozen_new1
  have f1_6 : W1.cell? ⟨w.heap.size + 1, 2, none⟩ = some (i6 r') := by rw [← hW]; exact cell_new1 rfl
  have g1_6 : W1.frozen? ⟨w.heap.size + 1, 2, none⟩ = false := by rw [← hW]; exact frozen_new1
  have f1_7 : W1.cell? ⟨w.heap.size + 1, 3, none⟩ = some (i6 h') := by rw [← hW]; exact cell_new1 rfl
  have g1_7 : W1.frozen? ⟨w.heap.size + 1, 3, none⟩ = false := by rw [← hW]; exact frozen_new1
  have hq1 : Below w.heap.size w W1 := by rw [← hW]; (repeat' (first | with_reducible exact Below.refl _ _ | with_reducible assumption | with_reducible refine q_alloc ?_ _ | with_reducible refine q_drew ?_ | with_reducible refine q_drewN _ ?_ | with_reducible refine q_setCell ?_ ?_ _ | (left; simp; done) | (right; simp; done) | (right; dsimp only; omega) | (left; dsimp only; omega)))
  clear hW
  refine (right_norm x y r h a b c d _ (HS.out.below hq1) HN.out).mono ?_
  rintro e w2 ⟨rfl, hb⟩
  have hq2 : Below w.heap.size w w2 := q_step hq1 hb
  have f2_0 := cell_below hb f1_0
  have f2_1 := cell_below hb f1_1
  have f2_2 := cell_below hb f1_2
  have f2_3 := cell_below hb f1_3
  have f2_4 := cell_below hb f1_4
  have f2_5 := cell_below hb f1_5
  have f2_6 := cell_below hb f1_6
  have f2_7 := cell_below hb f1_7
  have g2_0 := frozen_below hb f1_0 g1_0
  have g2_1 := frozen_below hb f1_1 g1_1
  have g2_2 := frozen_below hb f1_2 g1_2
  have g2_3 := frozen_below hb f1_3 g1_3
  have g2_4 := frozen_below hb f1_4 g1_4
  have g2_5 := frozen_below hb f1_5 g1_5
  have g2_6 := frozen_below hb f1_6 g1_6
  have g2_7 := frozen_below hb f1_7 g1_7
  clear hb f1_0 f1_1 f1_2 f1_3 f1_4 f1_5 f1_6 f1_7 g1_0 g1_1 g1_2 g1_3 g1_4 g1_5 g1_6 g1_7 hq1
  have z2_1 := block_lt_of_cell f2_0
  have z2_2 := block_lt_of_cell f2_4
  go_upto_region 2 with fail
  generalize hW : ((((w2).setCell ⟨w.heap.size, 0, none⟩ (Value.int IntKind.i64 a)).setCell ⟨w.heap.size, 1, none⟩ (Value.int IntKind.i64 b)).setCell ⟨w.heap.size, 2, none⟩ (Value.int IntKind.i64 c)).setCell ⟨w.heap.size, 3, none⟩ (Value.int IntKind.i64 d) = W3
  have hS : set4 w2 (w.heap.size) (Value.int IntKind.i64 a) (Value.int IntKind.i64 b) (Value.int IntKind.i64 c) (Value.int IntKind.i64 d) = W3 := hW
  clear hW
  have f3_0 : W3.cell? ⟨w.heap.size, 0, none⟩ = some (i6 a) := by rw [← hS]; exact set4_0 f2_0
  have f3_1 : W3.cell? ⟨w.heap.size, 1, none⟩ = some (i6 b) := by rw [← hS]; exact set4_1 f2_1
  have f3_2 : W3.cell? ⟨w.heap.size, 2, none⟩ = some (i6 c) := by rw [← hS]; exact set4_2 f2_2
  have f3_3 : W3.cell? ⟨w.heap.size, 3, none⟩ = some (i6 d) := by rw [← hS]; exact set4_3 f2_3
  have f3_4 : W3.cell? ⟨w.heap.size + 1, 0, none⟩ = some (i6 x') := by rw [← hS]; exact set4_o f2_4 (by omega)
  have f3_5 : W3.cell? ⟨w.heap.size + 1, 1, none⟩ = some (i6 y') := by rw [← hS]; exact set4_o f2_5 (by omega)
  have f3_6 : W3.cell? ⟨w.heap.size + 1, 2, none⟩ = some (i6 r') := by rw [← hS]; exact set4_o f2_6 (by omega)
  have f3_7 : W3.cell? ⟨w.heap.size + 1, 3, none⟩ = some (i6 h') := by rw [← hS]; exact set4_o f2_7 (by omega)
  have g3_0 : W3.frozen? ⟨w.heap.size, 0, none⟩ = false := by rw [← hS]; exact set4_f g2_0
  have g3_1 : W3.frozen? ⟨w.heap.size, 1, none⟩ = false := by rw [← hS]; exact set4_f g2_1
  have g3_2 : W3.frozen? ⟨w.heap.size, 2, none⟩ = false := by rw [← hS]; exact set4_f g2_2
  have g3_3 : W3.frozen? ⟨w.heap.size, 3, none⟩ = false := by rw [← hS]; exact set4_f g2_3
  have g3_4 : W3.frozen? ⟨w.heap.size + 1, 0, none⟩ = false := by rw [← hS]; exact set4_f g2_4
  have g3_5 : W3.frozen? ⟨w.heap.size + 1, 1, none⟩ = false := by rw [← hS]; exact set4_f g2_5
  have g3_6 : W3.frozen? ⟨w.heap.size + 1, 2, none⟩ = false := by rw [← hS]; exact set4_f g2_6
  have g3_7 : W3.frozen? ⟨w.heap.size + 1, 3, none⟩ = false := by rw [← hS]; exact set4_f g2_7
  have hq3 : Below w.heap.size w W3 := by rw [← hS]; exact set4_q hq2 (Nat.le_refl _)
  clear hS f2_0 f2_1 f2_2 f2_3 f2_4 f2_5 f2_6 f2_7 g2_0 g2_1 g2_2 g2_3 g2_4 g2_5 g2_6 g2_7 hq2 z2_1 z2_2
  have z3_1 := block_lt_of_cell f3_0
  have z3_2 := block_lt_of_cell f3_4
  go_wp2_with fail
  refine (cross_any a b c d a b c d x' y' r' h' a' b' c' d' p q s t _ (HS.out.below hq3) (norm_idem HN.out) HN2.out HB.out).mono ?_
  rintro e w4 ⟨rfl, hb⟩
  have hq4 : Below w.heap.size w w4 := q_step hq3 hb
  have f4_0 := cell_below hb f3_0
  have f4_1 := cell_below hb f3_1
  have f4_2 := cell_below hb f3_2
  have f4_3 := cell_below hb f3_3
  have f4_4 := cell_below hb f3_4
  have f4_5 := cell_below hb f3_5
  have f4_6 := cell_below hb f3_6
  have f4_7 := cell_below hb f3_7
  have g4_0 := frozen_below hb f3_0 g3_0
  have g4_1 := frozen_below hb f3_1 g3_1
  have g4_2 := frozen_below hb f3_2 g3_2
  have g4_3 := frozen_below hb f3_3 g3_3
  have g4_4 := frozen_below hb f3_4 g3_4
  have g4_5 := frozen_below hb f3_5 g3_5
  have g4_6 := frozen_below hb f3_6 g3_6
  have g4_7 := frozen_below hb f3_7 g3_7
  clear hb f3_0 f3_1 f3_2 f3_3 f3_4 f3_5 f3_6 f3_7 g3_0 g3_1 g3_2 g3_3 g3_4 g3_5 g3_6 g3_7 hq3 z3_1 z3_2
  have z4_1 := block_lt_of_cell f4_0
  have z4_2 := block_lt_of_cell f4_4
  go_upto_region 8 with (first | (with_reducible refine at_load 23 (.global 0) ?_; refine wpList_load_cells rfl 23 _ rfl 0 rfl noneCells _ (by first | exact HS.out.below hq4 | exact (HS.out.below hq4).alloc _) Tryd.underlying23 rfl sizeRect ?_) | (with_reducible refine at_bin .eql 23 ?_; first | refine wpList_eqAgg rfl .eql 23 _ _ _ rfl _ _ rfl rfl eqgRect (rect_eqlz HZ.out _) ?_ | refine wpList_eqAgg rfl .eql 23 _ _ _ rfl _ _ rfl rfl eqgRect (rect_eqlz HZ2.out _) ?_))
  generalize hW : w4.alloc (Obj.cells #[Value.int IntKind.i64 p, Value.int IntKind.i64 q, Value.int IntKind.i64 s, Value.int IntKind.i64 t] 23) = W5
  have f5_0 : W5.cell? ⟨w.heap.size, 0, none⟩ = some (i6 a) := by rw [← hW]; exact (cell_old f4_0)
  have f5_1 : W5.cell? ⟨w.heap.size, 1, none⟩ = some (i6 b) := by rw [← hW]; exact (cell_old f4_1)
  have f5_2 : W5.cell? ⟨w.heap.size, 2, none⟩ = some (i6 c) := by rw [← hW]; exact (cell_old f4_2)
  have f5_3 : W5.cell? ⟨w.heap.size, 3, none⟩ = some (i6 d) := by rw [← hW]; exact (cell_old f4_3)
  have f5_4 : W5.cell? ⟨w.heap.size + 1, 0, none⟩ = some (i6 x') := by rw [← hW]; exact (cell_old f4_4)
  have f5_5 : W5.cell? ⟨w.heap.size + 1, 1, none⟩ = some (i6 y') := by rw [← hW]; exact (cell_old f4_5)
  have f5_6 : W5.cell? ⟨w.heap.size + 1, 2, none⟩ = some (i6 r') := by rw [← hW]; exact (cell_old f4_6)
  have f5_7 : W5.cell? ⟨w.heap.size + 1, 3, none⟩ = some (i6 h') := by rw [← hW]; exact (cell_old f4_7)
  have g5_0 : W5.frozen? ⟨w.heap.size, 0, none⟩ = false := by rw [← hW]; exact (frozen_old f4_0 g4_0)
  have g5_1 : W5.frozen? ⟨w.heap.size, 1, none⟩ = false := by rw [← hW]; exact (frozen_old f4_1 g4_1)
  have g5_2 : W5.frozen? ⟨w.heap.size, 2, none⟩ = false := by rw [← hW]; exact (frozen_old f4_2 g4_2)
  have g5_3 : W5.frozen? ⟨w.heap.size, 3, none⟩ = false := by rw [← hW]; exact (frozen_old f4_3 g4_3)
  have g5_4 : W5.frozen? ⟨w.heap.size + 1, 0, none⟩ = false := by rw [← hW]; exact (frozen_old f4_4 g4_4)
  have g5_5 : W5.frozen? ⟨w.heap.size + 1, 1, none⟩ = false := by rw [← hW]; exact (frozen_old f4_5 g4_5)
  have g5_6 : W5.frozen? ⟨w.heap.size + 1, 2, none⟩ = false := by rw [← hW]; exact (frozen_old f4_6 g4_6)
  have g5_7 : W5.frozen? ⟨w.heap.size + 1, 3, none⟩ = false := by rw [← hW]; exact (frozen_old f4_7 g4_7)
  have f5_8 : W5.cell? ⟨w4.heap.size, 0, none⟩ = some (i6 p) := by rw [← hW]; exact cell_new rfl
  have f5_9 : W5.cell? ⟨w4.heap.size, 1, none⟩ = some (i6 q) := by rw [← hW]; exact cell_new rfl
  have f5_10 : W5.cell? ⟨w4.heap.size, 2, none⟩ = some (i6 s) := by rw [← hW]; exact cell_new rfl
  have f5_11 : W5.cell? ⟨w4.heap.size, 3, none⟩ = some (i6 t) := by rw [← hW]; exact cell_new rfl
  have hq5 : Below w.heap.size w W5 := by rw [← hW]; (repeat' (first | with_reducible exact Below.refl _ _ | with_reducible assumption | with_reducible refine q_alloc ?_ _ | with_reducible refine q_drew ?_ | with_reducible refine q_drewN _ ?_ | with_reducible refine q_setCell ?_ ?_ _ | (left; simp; done) | (right; simp; done) | (right; dsimp only; omega) | (left; dsimp only; omega)))
  clear hW f4_0 f4_1 f4_2 f4_3 f4_4 f4_5 f4_6 f4_7 g4_0 g4_1 g4_2 g4_3 g4_4 g4_5 g4_6 g4_7 hq4 z4_1 z4_2
  clear f5_4 f5_5 f5_6 f5_7
  have J : Below w.heap.size w W5 ∧ W5.cell? ⟨w.heap.size, 0, none⟩ = some (i6 a) ∧ W5.cell? ⟨w.heap.size, 1, none⟩ = some (i6 b) ∧ W5.cell? ⟨w.heap.size, 2, none⟩ = some (i6 c) ∧ W5.cell? ⟨w.heap.size, 3, none⟩ = some (i6 d) ∧ W5.cell? ⟨w4.heap.size, 0, none⟩ = some (i6 p) ∧ W5.cell? ⟨w4.heap.size, 1, none⟩ = some (i6 q) ∧ W5.cell? ⟨w4.heap.size, 2, none⟩ = some (i6 s) ∧ W5.cell? ⟨w4.heap.size, 3, none⟩ = some (i6 t) := ⟨hq5, f5_0, f5_1, f5_2, f5_3, f5_8, f5_9, f5_10, f5_11⟩
  clear hq5 f5_0 f5_1 f5_2 f5_3 f5_8 f5_9 f5_10 f5_11
  generalize w4.heap.size = CB at J ⊢
  have LB := Lib.hid (show -4194304 ≤ a ∧ a + c ≤ 4194304 ∧ -4194304 ≤ b ∧ q ≤ 4194304 ∧ -4194304 ≤ a ∧ p ≤ 4194304 ∧ -4194304 ≤ q ∧ q + t ≤ 4194304 ∧ -4194304 ≤ p + s ∧ a + c ≤ 4194304 ∧ -4194304 ≤ q ∧ q + t ≤ 4194304 ∧ -4194304 ≤ a ∧ a + c ≤ 4194304 ∧ -4194304 ≤ q + t ∧ b + d ≤ 4194304 by omega)
  clear hca bn bn' hpb hp
  try clear HZ HZ2 HN HN2 HB
  go_region_held3 (fun w' => Below w.heap.size w w' ∧ w'.cell? ⟨w.heap.size, 0, none⟩ = some (i6 a) ∧ w'.cell? ⟨w.heap.size, 1, none⟩ = some (i6 b) ∧ w'.cell? ⟨w.heap.size, 2, none⟩ = some (i6 c) ∧ w'.cell? ⟨w.heap.size, 3, none⟩ = some (i6 d) ∧ w'.cell? ⟨CB, 0, none⟩ = some (i6 p) ∧ w'.cell? ⟨CB, 1, none⟩ = some (i6 q) ∧ w'.cell? ⟨CB, 2, none⟩ = some (i6 s) ∧ w'.cell? ⟨CB, 3, none⟩ = some (i6 t))
    (first | exact J | exact ⟨J.1.drew, J.2⟩ | exact s_alloc _ J)
    (first | (go_at_call 31; have g1 := B1; refine (betw_any (a) (b) (a + c) (q) p1 q1 s1 t1 _ ?_ B1.out LB.out.1 LB.out.2.1 LB.out.2.2.1 LB.out.2.2.2.1).mono ?_; (first | exact HS.out.below J.1 | exact (HS.out.below J.1).drew); rintro e w5 ⟨rfl, hb⟩; (first | replace J := s_step J hb | replace J := s_step J (below_drew hb)); clear hb g1 B1) | (go_at_call 31; have g2 := B2; refine (betw_any (a) (q) (p) (q + t) p2 q2 s2 t2 _ ?_ B2.out LB.out.2.2.2.2.1 LB.out.2.2.2.2.2.1 LB.out.2.2.2.2.2.2.1 LB.out.2.2.2.2.2.2.2.1).mono ?_; (first | exact HS.out.below J.1 | exact (HS.out.below J.1).drew); rintro e w5 ⟨rfl, hb⟩; (first | replace J := s_step J hb | replace J := s_step J (below_drew hb)); clear hb g2 B2) | (go_at_call 31; have g3 := B3; refine (betw_any (p + s) (q) (a + c) (q + t) p3 q3 s3 t3 _ ?_ B3.out LB.out.2.2.2.2.2.2.2.2.1 LB.out.2.2.2.2.2.2.2.2.2.1 LB.out.2.2.2.2.2.2.2.2.2.2.1 LB.out.2.2.2.2.2.2.2.2.2.2.2.1).mono ?_; (first | exact HS.out.below J.1 | exact (HS.out.below J.1).drew); rintro e w5 ⟨rfl, hb⟩; (first | replace J := s_step J hb | replace J := s_step J (below_drew hb)); clear hb g3 B3) | (go_at_call 31; have g4 := B4; refine (betw_any (a) (q + t) (a + c) (b + d) p4 q4 s4 t4 _ ?_ B4.out LB.out.2.2.2.2.2.2.2.2.2.2.2.2.1 LB.out.2.2.2.2.2.2.2.2.2.2.2.2.2.1 LB.out.2.2.2.2.2.2.2.2.2.2.2.2.2.2.1 LB.out.2.2.2.2.2.2.2.2.2.2.2.2.2.2.2).mono ?_; (first | exact HS.out.below J.1 | exact (HS.out.below J.1).drew); rintro e w5 ⟨rfl, hb⟩; (first | replace J := s_step J hb | replace J := s_step J (below_drew hb)); clear hb g4 B4))
  refine exit_world (fun wx => Below w.heap.size w wx ∧ LayR wx w5.heap.size 0 L) ⟨q_alloc J.1 _, by rw [← HLL.out]; exact layR_of fun j v hj => cell_new (by simpa [cellsR, cellR] using hj)⟩ ?_
  intro wc ⟨hqc, hlay⟩
  clear J
  have hLl : L.length = 4 := by rw [← HLL.out]; rfl
  clear HLL
  have HLY := Lib.hid hlay
  clear hlay
  obtain ⟨i0, hi, hz0, hz1, hz2⟩ := info_parts info_rect
  have HSc := HS.out.below hqc
  have HSC := Lib.hid HSc
  clear HSc
  go_wp2_with fail
  go_loopw [6, 84] (fun v i wr => ∃ k : Nat, k ≤ 4 ∧ i = .int .i64 k ∧ OwnR wr wc.heap.size v ((L.take k).filter nzR) ∧ Below wc.heap.size wc wr)
    (fun _ i _ => 4 - (intOf i).toNat)
  case atStart => exact ⟨0, by omega, rfl, World.ownsRow_nil _ _ _ _, Below.refl _ _⟩
  case round =>
    obtain ⟨k, hk, rfl, hown, hnx⟩ := hrel
    by_cases hlt : k < 4
    · have hlk : L[k]? = some L[k] := List.getElem?_eq_getElem (by omega)
      obtain ⟨d0, d1, d2, d3⟩ := HLY.out.below hnx k _ hlk
      rw [Nat.zero_add] at d0 d1 d2 d3
      have HLK := Lib.hid hlk
      clear hlk
      generalize L[k] = re at HLK d0 d1 d2 d3
      obtain ⟨pa, pb, pc, pd⟩ := re
      dsimp only at d0 d1 d2 d3
      rcases hzz : zeroB pa pb pc pd with _ | _
      · have HZZ := Lib.hid hzz
        have hkept := kept_yes HLK.out (by unfold nzR; dsimp only; rw [hzz]; rfl)
        clear hzz
        have hkl : k + 1 ≤ 4 := hlt
        have hnl : ((L.take k).filter nzR).length ≤ 4 := Nat.le_trans (List.length_filter_le _ _) (by rw [List.length_take]; omega)
        go_wp2_with (first
          | (with_reducible refine at_load 23 (.global 0) ?_; refine wpList_load_cells rfl 23 _ rfl 0 rfl noneCells _ ((HSC.out.below hnx).alloc _) Tryd.underlying23 rfl sizeRect ?_)
          | (with_reducible refine at_bin .neq 23 ?_; refine wpList_eqAgg rfl .neq 23 _ _ _ rfl _ _ rfl rfl eqgRect (rect_neqz HZZ.out _) ?_)
          | (at_builtin; refine wpList_append_own _ rfl _ _ 34 rfl wc.heap.size 23 i0 (.agg #[i6 0, i6 0, i6 0, i6 0]) 4 32 und_rects hi hz0 hz1 hz2 rfl (by decide) _ _ _ rfl ((hown.alloc _).alloc _) ⟨wr.heap.size + 1, 0, none⟩ 1 1 (cellR (pa, pb, pc, pd)) rfl rfl cellR_cells cellR_one ?c3 ?c4 ?c5 ?_))
        case c3 => unfold maxLen; omega
        case c4 => omega
        case c5 => have := hnx.size; simp; omega
        intro v' w9 hown' hgrow _
        have hb1 : Below wc.heap.size wc w9 := (hnx.alloc hnx.size _).alloc (by have := hnx.size; simp; omega) _ |>.grown hgrow (by have := hnx.size; simp; omega) (fun j hj => (hown.lt j hj).1)
        have hown2 : OwnR w9 wc.heap.size v' ((L.take (k + 1)).filter nzR) := by
          unfold OwnR
          rw [hkept, cellsR_snoc, List.length_append]; exact hown'
        clear hown' hgrow hown hnx
        go_wp2_with fail
        go_roundw
        case rel => exact ⟨k + 1, by omega, by go_num, hown2, hb1⟩
        case measure => simp [intOf]; omega
      · have HZZ := Lib.hid hzz
        have hkept := kept_no HLK.out (by unfold nzR; dsimp only; rw [hzz]; rfl)
        clear hzz
        go_wp2_with (first
          | (with_reducible refine at_load 23 (.global 0) ?_; refine wpList_load_cells rfl 23 _ rfl 0 rfl noneCells _ ((HSC.out.below hnx).alloc _) Tryd.underlying23 rfl sizeRect ?_)
          | (with_reducible refine at_bin .neq 23 ?_; refine wpList_eqAgg rfl .neq 23 _ _ _ rfl _ _ rfl rfl eqgRect (rect_neqz HZZ.out _) ?_))
        go_roundw
        case rel => exact ⟨k + 1, by omega, by go_num, by rw [hkept]; exact hown.alloc _, hnx.alloc hnx.size _⟩
        case measure => simp [intOf]; omega
    · have hk4 : k = 4 := by omega
      subst hk4
      have hown2 : OwnR wr w.heap.size u6 (L.filter nzR) := by
        rw [List.take_of_length_le (by omega)] at hown
        exact Joins.ownsRow_le hown hqc.size
      go_wp2_with fail
      go_returns
      exact ⟨_, rfl, hown2, q_step hqc hnx⟩
end Go.Proofs.YtlofhbeifgaoeaaDoor
