/- Two rectangles held against each other; the program's Holds. -/
import Derived.Test.YtlofhbeifgaoeaaDoorRect6
import Derived.Test.YtlofhbeifgaoeaaDoorRects
import Derived.Test.YtlofhbeifgaoeaaDoorLib3
import Derived.Deep.Cut
import Derived.Deep.CutRange
import Derived.Deep.DeepCutAuto
namespace Go.Proofs.YtlofhbeifgaoeaaDoor
open Go Go.RowKit
set_option linter.unusedSimpArgs false

def eqR (x y r h x' y' r' h' : Int) : Bool := decide (x = x' ∧ y = y' ∧ r = r' ∧ h = h')
theorem rect_eq_any (x y r h x' y' r' h' : Int) (w : World) : (binOp .eql 23 (.agg #[i6 x, i6 y, i6 r, i6 h]) (.agg #[i6 x', i6 y', i6 r', i6 h'])).run Tryd.prog w = .ok (.bool (eqR x y r h x' y' r' h')) w := by
  unfold eqR
  by_cases hx : x = x'
  · by_cases hy : y = y'
    · by_cases hr : r = r'
      · by_cases hh : h = h'
        · subst hx hy hr hh
          go_simp
        · subst hx hy hr
          go_simp
      · subst hx hy
        go_simp
    · subst hx
      go_simp
  · go_simp
theorem rect_eqb {x y r h x' y' r' h' : Int} {b : Bool} (hz : eqR x y r h x' y' r' h' = b) (w : World) : (binOp .eql 23 (.agg #[i6 x, i6 y, i6 r, i6 h]) (.agg #[i6 x', i6 y', i6 r', i6 h'])).run Tryd.prog w = .ok (.bool b) w := by
  rw [← hz]; exact rect_eq_any x y r h x' y' r' h' w
theorem andThen_not {r : Result Bool} {b : Bool} {w : World} (h : r.andThen (fun a w' => .ok (Value.bool a) w') = .ok (Value.bool b) w) : r.andThen (fun a w' => .ok (Value.bool !a) w') = .ok (Value.bool !b) w := by
  cases r <;> simp_all [Result.andThen]
theorem rect_neb {x y r h x' y' r' h' : Int} {b : Bool} (hz : eqR x y r h x' y' r' h' = b) (w : World) : (binOp .neq 23 (.agg #[i6 x, i6 y, i6 r, i6 h]) (.agg #[i6 x', i6 y', i6 r', i6 h'])).run Tryd.prog w = .ok (.bool (!b)) w := by
  have h0 := rect_eqb hz w
  simp [binOp] at h0 ⊢
  exact andThen_not h0

set_option maxHeartbeats 4000000 in
theorem holds_any (x y r h a b c d x' y' r' h' a' b' c' d' p q s t : Int) (w : World) (hs : RowAt 0 noneCells w) (n : Norm x y r h a b c d) (n' : Norm x' y' r' h' a' b' c' d')
    (nb : Betw (max a a') (max b b') (min (a + c) (a' + c')) (min (b + d) (b' + d')) p q s t) :
    Calls Tryd.prog 16 #[rectV x y r h, rectV x' y' r' h'] w fun e w' => e = .returned (.bool (eqR p q s t a' b' c' d')) ∧ Below w.heap.size w w' := by
  have HS := Lib.hid hs
  have HN := Lib.hid n
  have HN2 := Lib.hid n'
  have HB := Lib.hid nb
  have HE := Lib.hid (rfl : eqR p q s t a' b' c' d' = eqR p q s t a' b' c' d')
  have hrun := fun w => rect_eqb (x := p) (y := q) (r := s) (h := t) (x' := a') (y' := b') (r' := c') (h' := d') rfl w
  generalize eqR p q s t a' b' c' d' = eb at hrun ⊢
  clear hs n n' nb HE
  go_enter Tryd.func16, Tryd.ntmps16
  go_upto_region 1 with fail
  generalize hW : ((w.alloc (Obj.cells #[i6 x, i6 y, i6 r, i6 h] 23)).alloc (Obj.cells #[i6 x', i6 y', i6 r', i6 h'] 23)) = W1
  have J : Below w.heap.size w W1 ∧ W1.cell? ⟨w.heap.size, 0, none⟩ = some (i6 x) ∧ W1.cell? ⟨w.heap.size, 1, none⟩ = some (i6 y) ∧ W1.cell? ⟨w.heap.size, 2, none⟩ = some (i6 r) ∧ W1.cell? ⟨w.heap.size, 3, none⟩ = some (i6 h) ∧ W1.cell? ⟨w.heap.size + 1, 0, none⟩ = some (i6 x') ∧ W1.cell? ⟨w.heap.size + 1, 1, none⟩ = some (i6 y') ∧ W1.cell? ⟨w.heap.size + 1, 2, none⟩ = some (i6 r') ∧ W1.cell? ⟨w.heap.size + 1, 3, none⟩ = some (i6 h') := by
    rw [← hW]
    exact ⟨by (repeat' (first | with_reducible exact Below.refl _ _ | with_reducible assumption | with_reducible refine q_alloc ?_ _ | with_reducible refine q_drew ?_ | with_reducible refine q_drewN _ ?_ | with_reducible refine q_setCell ?_ ?_ _ | (left; simp; done) | (right; simp; done) | (right; dsimp only; omega) | (left; dsimp only; omega))), cell_old (cell_new rfl), cell_old (cell_new rfl), cell_old (cell_new rfl), cell_old (cell_new rfl), cell_new1 rfl, cell_new1 rfl, cell_new1 rfl, cell_new1 rfl⟩
  clear hW
  go_cut [4] from 5 (fun sv wx => sv = .bool eb ∧ Below w.heap.size w wx)
  case first =>
    go_region_held3 (fun w' => Below w.heap.size w w' ∧ w'.cell? ⟨w.heap.size, 0, none⟩ = some (i6 x) ∧ w'.cell? ⟨w.heap.size, 1, none⟩ = some (i6 y) ∧ w'.cell? ⟨w.heap.size, 2, none⟩ = some (i6 r) ∧ w'.cell? ⟨w.heap.size, 3, none⟩ = some (i6 h) ∧ w'.cell? ⟨w.heap.size + 1, 0, none⟩ = some (i6 x') ∧ w'.cell? ⟨w.heap.size + 1, 1, none⟩ = some (i6 y') ∧ w'.cell? ⟨w.heap.size + 1, 2, none⟩ = some (i6 r') ∧ w'.cell? ⟨w.heap.size + 1, 3, none⟩ = some (i6 h'))
      (first | exact J | exact ⟨J.1.drew, J.2⟩ | exact s_alloc _ J)
      (first
        | (go_at_call 20; refine (cross_any x y r h a b c d x' y' r' h' a' b' c' d' p q s t _ ?_ HN.out HN2.out HB.out).mono ?_; (first | exact HS.out.below J.1 | exact (HS.out.below J.1).drew); rintro e w5 ⟨rfl, hb⟩; (first | replace J := s_step J hb | replace J := s_step J (below_drew hb)); clear hb)
        | (go_at_call 30; refine (right_norm x' y' r' h' a' b' c' d' _ ?_ HN2.out).mono ?_; (first | exact HS.out.below J.1 | exact (HS.out.below J.1).drew); rintro e w5 ⟨rfl, hb⟩; (first | replace J := s_step J hb | replace J := s_step J (below_drew hb)); clear hb))
    all_goals (go_wp2_with fail; go_meet; exact ⟨rfl, J.1⟩)
  case rest =>
    obtain ⟨rfl, hq⟩ := hcut
    go_wp2_with fail
    go_returns
    exact ⟨rfl, hq⟩
end Go.Proofs.YtlofhbeifgaoeaaDoor
