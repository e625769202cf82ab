/- Layer 12: the calls as functions of rectangles; what Cross, Box, Minus and Holds have to do with each other. -/
import Derived.Test.YtlofhbeifgaoeaaDoorRect28
namespace Go.Proofs.YtlofhbeifgaoeaaDoor
open Go Go.RowKit
set_option linter.unusedSimpArgs false
set_option linter.unusedVariables false
abbrev rv (r : R4) : Value := .agg #[i6 r.1, i6 r.2.1, i6 r.2.2.1, i6 r.2.2.2]
def betwR (x0 y0 x1 y1 : Int) : R4 := if x0 < x1 ∧ y0 < y1 then (x0, y0, x1 - x0, y1 - y0) else (0, 0, 0, 0)
theorem betwR_is (x0 y0 x1 y1 : Int) : Betw x0 y0 x1 y1 (betwR x0 y0 x1 y1).1 (betwR x0 y0 x1 y1).2.1 (betwR x0 y0 x1 y1).2.2.1 (betwR x0 y0 x1 y1).2.2.2 := by
  unfold betwR
  split
  · rename_i g; exact Or.inl ⟨g.1, g.2, rfl, rfl, rfl, rfl⟩
  · rename_i g; exact Or.inr ⟨g, rfl, rfl, rfl, rfl⟩
def cutR (A B : R4) : R4 := betwR (max A.1 B.1) (max A.2.1 B.2.1) (min (A.1 + A.2.2.1) (B.1 + B.2.2.1)) (min (A.2.1 + A.2.2.2) (B.2.1 + B.2.2.2))
def crossR (a b : R4) : R4 := cutR (normR a) (normR b)
def lessR (A C : R4) : List R4 := minusR A.2.2.1 C.2.2.1 A [betwR A.1 A.2.1 (A.1 + A.2.2.1) C.2.1, betwR A.1 C.2.1 C.1 (C.2.1 + C.2.2.2), betwR (C.1 + C.2.2.1) C.2.1 (A.1 + A.2.2.1) (C.2.1 + C.2.2.2), betwR A.1 (C.2.1 + C.2.2.2) (A.1 + A.2.2.1) (A.2.1 + A.2.2.2)]
def minusL (a b : R4) : List R4 := lessR (normR a) (crossR a b)
theorem crossF (a b : R4) (w : World) (hs : RowAt 0 noneCells w) :
    Calls Tryd.prog 20 #[rv a, rv b] w fun e w' => e = .returned (rv (crossR a b)) ∧ Below w.heap.size w w' :=
  cross_any _ _ _ _ _ _ _ _ _ _ _ _ _ _ _ _ _ _ _ _ w hs (normR_norm a) (normR_norm b) (betwR_is _ _ _ _)
theorem areaF (a : R4) (w : World) (hs : RowAt 0 noneCells w) :
    Calls Tryd.prog 18 #[rv a] w fun e w' => e = .returned (i6 (areaR (normR a))) ∧ Below w.heap.size w w' :=
  area_any _ _ _ _ _ _ _ _ w hs (normR_norm a)
theorem minusF (a b : R4) (w : World) (hs : RowAt 0 noneCells w) :
    Calls Tryd.prog 23 #[rv a, rv b] w fun e w' => ∃ v, e = .returned v ∧ OwnR w' w.heap.size v (minusL a b) ∧ Below w.heap.size w w' :=
  minus_any _ _ _ _ _ _ _ _ _ _ _ _ _ _ _ _ _ _ _ _ _ _ _ _ _ _ _ _ _ _ _ _ _ _ _ _ w hs (normR_norm a) (normR_norm b) (betwR_is _ _ _ _) (betwR_is _ _ _ _) (betwR_is _ _ _ _) (betwR_is _ _ _ _) (betwR_is _ _ _ _)
theorem holdsF (a b : R4) (w : World) (hs : RowAt 0 noneCells w) :
    Calls Tryd.prog 16 #[rv a, rv b] w fun e w' => e = .returned (.bool (holdsR (normR a) (normR b))) ∧ Below w.heap.size w w' :=
  (holds_any _ _ _ _ _ _ _ _ _ _ _ _ _ _ _ _ _ _ _ _ w hs (normR_norm a) (normR_norm b) (betwR_is _ _ _ _)).mono fun _ _ h => ⟨h.1.trans (ret_bool (holds_is (okR_norm a) (okR_norm b) (betwR_is _ _ _ _))), h.2⟩
theorem boxF (v : Value) (rs : List R4) (w : World) (hs : RowAt 0 noneCells w) (h : IsRects w v rs) (hlen : rs.length ≤ 100000) :
    Calls Tryd.prog 25 #[v] w fun e w' => e = .returned (rv (boxR rs)) ∧ Below w.heap.size w w' := box_any v rs w hs h hlen
theorem rneq_self (X : R4) (w : World) : (binOp .neq 23 (rv X) (rv X)).run Tryd.prog w = .ok (.bool false) w := rect_neb (b := true) (by unfold eqR; simp) w
theorem reql_self (X : R4) (w : World) : (binOp .eql 23 (rv X) (rv X)).run Tryd.prog w = .ok (.bool true) w := by
  have := rect_eq_any X.1 X.2.1 X.2.2.1 X.2.2.2 X.1 X.2.1 X.2.2.1 X.2.2.2 w
  unfold eqR at this
  simpa using this
/-- Two, or one, in a new array. -/
theorem isR2 {w : World} {b : Nat} (r s : R4) (h : Blk w b [i6 r.1, i6 r.2.1, i6 r.2.2.1, i6 r.2.2.2, i6 s.1, i6 s.2.1, i6 s.2.2.1, i6 s.2.2.2]) : IsRects w (.slice (some ⟨b, 0, none⟩) 2 2) [r, s] :=
  Or.inr ⟨b, 0, 2, rfl, by simp, by simp, by simp [maxLen], h.lt, layR_of fun j v hj => h.cell j hj⟩
theorem isR1 {w : World} {b : Nat} (r : R4) (h : Blk w b [i6 r.1, i6 r.2.1, i6 r.2.2.1, i6 r.2.2.2]) : IsRects w (.slice (some ⟨b, 0, none⟩) 1 1) [r] :=
  Or.inr ⟨b, 0, 1, rfl, by simp, by simp, by simp [maxLen], h.lt, layR_of fun j v hj => h.cell j hj⟩
theorem normR_ok {r : R4} (h : OkR r) : normR r = r := norm_of h
theorem cut_comm (A B : R4) : cutR A B = cutR B A := by
  unfold cutR
  rw [Int.max_comm A.1, Int.max_comm A.2.1, Int.min_comm (A.1 + _), Int.min_comm (A.2.1 + _)]
theorem cross_comm (a b : R4) : crossR a b = crossR b a := cut_comm _ _
theorem okR_cross (a b : R4) : OkR (crossR a b) := by
  have h1 := (okR_norm a).bounds
  have h2 := (okR_norm b).bounds
  exact betw_ok (betwR_is _ _ _ _) (by omega) (by omega) (by omega) (by omega)
theorem box_comm (a b : R4) : boxR [a, b] = boxR [b, a] := by rw [box_two, box_two, join_comm (okR_norm a) (okR_norm b)]
theorem okR_box2 (a b : R4) : OkR (boxR [a, b]) := by rw [box_two]; exact okR_join (okR_norm a) (okR_norm b)
theorem areas_all (a b : R4) : areaR (normR (crossR a b)) + areas (minusL a b) = areaR (normR a) := by
  rw [normR_ok (okR_cross a b)]
  exact minus_area (normR_norm a) (normR_norm b) (betwR_is _ _ _ _) (betwR_is _ _ _ _) (betwR_is _ _ _ _) (betwR_is _ _ _ _) (betwR_is _ _ _ _)
theorem holds_all (a b : R4) : (minusL b a).length = 0 ↔ holdsR (normR a) (normR b) = true :=
  holds_minus (okR_norm b) (okR_norm a) (betwR_is _ _ _ _) (betwR_is _ _ _ _) (betwR_is _ _ _ _) (betwR_is _ _ _ _) (betwR_is _ _ _ _)
theorem minusL_ok (a b : R4) : ∀ r ∈ minusL a b, OkR r := fun r hr =>
  Or.inl ⟨minus_good (normR_norm a) (normR_norm b) (betwR_is _ _ _ _) (betwR_is _ _ _ _) (betwR_is _ _ _ _) (betwR_is _ _ _ _) (betwR_is _ _ _ _) r hr, rfl, rfl, rfl, rfl⟩
theorem minusL_len (a b : R4) : (minusL a b).length ≤ 4 := minusR_len _ _ _ _ _ _ _
theorem box_holds (a b : R4) (h : holdsR (normR a) (normR b) = true) : boxR [a, b] = boxR [a] := by
  rw [box_two, box_one, join_of_holds (okR_norm a) (okR_norm b) h]
theorem holds_box (a b : R4) : holdsR (normR (boxR [a, b])) (normR a) = true := by
  rw [normR_ok (okR_box2 a b), box_two]
  exact (holds_join (okR_norm a) (okR_norm b)).1
theorem holds_cross (a b : R4) : holdsR (normR a) (normR (crossR a b)) = true := by
  rw [normR_ok (okR_cross a b)]
  have h1 := (okR_norm a).bounds
  have h2 := (okR_norm b).bounds
  have h3 := betwR_is (max (normR a).1 (normR b).1) (max (normR a).2.1 (normR b).2.1) (min ((normR a).1 + (normR a).2.2.1) ((normR b).1 + (normR b).2.2.1)) (min ((normR a).2.1 + (normR a).2.2.2) ((normR b).2.1 + (normR b).2.2.2))
  unfold holdsR
  apply decide_eq_true
  show (crossR a b).2.2.1 = 0 ∨ _
  unfold crossR cutR
  rcases h3 with ⟨g1, g2, e1, e2, e3, e4⟩ | ⟨g1, e1, e2, e3, e4⟩
  · rw [e1, e2, e3, e4]; omega
  · exact Or.inl e3
theorem area_bound {r : R4} (h : OkR r) : 0 ≤ areaR r ∧ areaR r ≤ 4398046511104 := by
  have hb := h.bounds
  unfold areaR
  refine ⟨Int.mul_nonneg hb.1 hb.2.2.2.2.2.1, ?_⟩
  calc r.2.2.1 * r.2.2.2 ≤ 2097152 * 2097152 := Int.mul_le_mul hb.2.1 hb.2.2.2.2.2.2.1 hb.2.2.2.2.2.1 (by omega)
    _ = 4398046511104 := by decide
theorem areas_bound : ∀ (l : List R4), (∀ r ∈ l, OkR r) → 0 ≤ areas l ∧ areas l ≤ 4398046511104 * (l.length : Int)
  | [], _ => by simp [areas]
  | r :: l, h => by
    have h1 := area_bound (h r (by simp))
    have h2 := areas_bound l fun r hr => h r (by simp [hr])
    simp only [areas, List.length_cons]
    omega
end Go.Proofs.YtlofhbeifgaoeaaDoor
