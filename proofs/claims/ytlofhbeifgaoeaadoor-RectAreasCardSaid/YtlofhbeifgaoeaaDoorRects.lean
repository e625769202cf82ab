/- Slices of rectangles: laid in memory, owned by the call, come in as an argument. -/
import Derived.Test.YtlofhbeifgaoeaaDoorRect
import Derived.Carry
import Derived.ChangeSlices
import Derived.ProofKit
import Derived.Deep.Slices
import Derived.OwnWalk
import Derived.Lib.SmallJoins
namespace Go.Proofs.YtlofhbeifgaoeaaDoor
open Go Go.RowKit Go.WideShapes Go.ChangeShapes

abbrev R4 := Int × Int × Int × Int
def cellR (r : R4) : List Value := [i6 r.1, i6 r.2.1, i6 r.2.2.1, i6 r.2.2.2]
def cellsR (rs : List R4) : List Value := rs.flatMap cellR
theorem cellsR_len : ∀ rs : List R4, (cellsR rs).length = rs.length * 4
  | [] => rfl
  | r :: rs => by
    have := cellsR_len rs
    simp only [cellsR, List.flatMap_cons, List.length_append, List.length_cons, cellR] at this ⊢
    simp only [List.length_nil]
    omega
theorem cellsR_at : ∀ (rs : List R4) (k : Nat) (r : R4), rs[k]? = some r → (cellsR rs)[k * 4]? = some (i6 r.1) ∧ (cellsR rs)[k * 4 + 1]? = some (i6 r.2.1) ∧ (cellsR rs)[k * 4 + 2]? = some (i6 r.2.2.1) ∧ (cellsR rs)[k * 4 + 3]? = some (i6 r.2.2.2)
  | [], k, r, h => by simp at h
  | q :: rs, 0, r, h => by
    simp at h; subst h
    simp [cellsR, cellR]
  | q :: rs, k + 1, r, h => by
    have := cellsR_at rs k r (by simpa using h)
    simp only [cellsR, List.flatMap_cons, cellR] at this ⊢
    rw [show (k + 1) * 4 = k * 4 + 4 by omega]
    simpa using this

/-- Rectangles that lie one behind the other. -/
def LayR (w : World) (b off : Nat) (rs : List R4) : Prop :=
  ∀ k r, rs[k]? = some r → w.cell? ⟨b, off + k * 4, none⟩ = some (i6 r.1) ∧ w.cell? ⟨b, off + k * 4 + 1, none⟩ = some (i6 r.2.1) ∧ w.cell? ⟨b, off + k * 4 + 2, none⟩ = some (i6 r.2.2.1) ∧ w.cell? ⟨b, off + k * 4 + 3, none⟩ = some (i6 r.2.2.2)

theorem LayR.below {w w' : World} {b off : Nat} {rs : List R4} (h : LayR w b off rs) (hb : Below w.heap.size w w') : LayR w' b off rs := fun k r hk =>
  let ⟨h0, h1, h2, h3⟩ := h k r hk
  ⟨cell_below hb h0, cell_below hb h1, cell_below hb h2, cell_below hb h3⟩

/-- The value is a slice of these rectangles, in memory that is there. -/
def IsRects (w : World) (v : Value) (rs : List R4) : Prop :=
  (∃ a cap, v = .slice a 0 cap ∧ rs = []) ∨
  ∃ b off cap, v = .slice (some ⟨b, off, none⟩) rs.length cap ∧ 0 < rs.length ∧ rs.length ≤ cap ∧ cap ≤ maxLen ∧ b < w.heap.size ∧ LayR w b off rs

theorem IsRects.below {w w' : World} {v : Value} {rs : List R4} (h : IsRects w v rs) (hb : Below w.heap.size w w') : IsRects w' v rs := by
  rcases h with h | ⟨b, off, cap, h1, h2, h3, h4, h5, h6⟩
  · exact Or.inl h
  · exact Or.inr ⟨b, off, cap, h1, h2, h3, h4, Nat.lt_of_lt_of_le h5 hb.size, h6.below hb⟩

/-- The call's own slice of rectangles. -/
abbrev OwnR (w : World) (base : Nat) (v : Value) (rs : List R4) : Prop := w.ownsRow base 23 4 v rs.length (cellsR rs)

theorem ownR_is {w : World} {base : Nat} {v : Value} {rs : List R4} (h : OwnR w base v rs) : IsRects w v rs := by
  rcases Nat.eq_zero_or_pos rs.length with h0 | hp
  · have : rs = [] := List.eq_nil_of_length_eq_zero h0
    subst this
    rcases Joins.ownsRow_forms h with ⟨rfl, _⟩ | ⟨g, cap, rfl⟩
    · exact Or.inl ⟨_, _, rfl, rfl⟩
    · exact Or.inl ⟨_, _, rfl, rfl⟩
  · obtain ⟨g, cap, rfl⟩ := Joins.ownsRow_form h hp
    have hlt := h.lt g rfl
    have hc := h.2
    rcases hc with ⟨hx, _⟩ | ⟨g', cap', cur, hv, _, _, hn, hm, _⟩
    · simp at hx
    · simp only [Value.slice.injEq] at hv
      obtain ⟨_, _, rfl⟩ := hv
      refine Or.inr ⟨g, 0, cap, rfl, hp, hn, hm, hlt.2, fun k r hk => ?_⟩
      have hkl : k < rs.length := (List.getElem?_eq_some_iff.1 hk).1
      obtain ⟨e0, e1, e2, e3⟩ := cellsR_at rs k r hk
      refine ⟨?_, ?_, ?_, ?_⟩ <;> rw [Nat.zero_add]
      · exact (h.cellAt (k * 4) (by omega)).trans e0
      · exact (h.cellAt (k * 4 + 1) (by omega)).trans e1
      · exact (h.cellAt (k * 4 + 2) (by omega)).trans e2
      · exact (h.cellAt (k * 4 + 3) (by omega)).trans e3

/-- Four cells of an array are laid. -/
theorem layR_of {w : World} {g : Nat} {rs : List R4} (h : ∀ j v, (cellsR rs)[j]? = some v → w.cell? ⟨g, j, none⟩ = some v) : LayR w g 0 rs := fun k r hk => by
  obtain ⟨e0, e1, e2, e3⟩ := cellsR_at rs k r hk
  refine ⟨?_, ?_, ?_, ?_⟩ <;> rw [Nat.zero_add]
  · exact h _ _ e0
  · exact h _ _ e1
  · exact h _ _ e2
  · exact h _ _ e3

def nzR (r : R4) : Bool := !(zeroB r.1 r.2.1 r.2.2.1 r.2.2.2)
theorem cellsR_snoc (rs : List R4) (r : R4) : cellsR (rs ++ [r]) = cellsR rs ++ cellR r := by simp [cellsR]
theorem kept_yes {rs : List R4} {k : Nat} {r : R4} (h : rs[k]? = some r) (hz : nzR r = true) : (rs.take (k + 1)).filter nzR = (rs.take k).filter nzR ++ [r] := by
  rw [List.take_add_one, h]; simp [hz]
theorem kept_no {rs : List R4} {k : Nat} {r : R4} (h : rs[k]? = some r) (hz : nzR r = false) : (rs.take (k + 1)).filter nzR = (rs.take k).filter nzR := by
  rw [List.take_add_one, h]; simp [hz]
end Go.Proofs.YtlofhbeifgaoeaaDoor
