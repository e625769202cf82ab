/- Rows: what is behind their first elements. -/
import Derived.Test.YtgcedookbblibaaRow
namespace Go.Proofs.Ytgcedookbblibaa
open Go Go.RowKit
set_option linter.unusedSimpArgs false
set_option linter.unusedVariables false
section
variable {α : Type} {f : α → List Value} {s : Nat}
theorem range_drop {w : World} {b o : Nat} {cs : List Value} (h : w.rangeAt b o cs) (m : Nat) : w.rangeAt b (o + m) (cs.drop m) := fun j v hj => by
  rw [List.getElem?_drop] at hj
  rw [Nat.add_assoc]
  exact h (m + j) v hj
theorem Own.dropR {a w : World} {L : List (Nat × List Value)} {R : List (Nat × Nat × List Value)} (h : Own a w L R) (hf : ∀ x, (f x).length = s) (hs : 0 < s) (k b o : Nat) (l : List α) (hk : R[k]? = some (b, o, cellsR f l)) (m o' : Nat) (l' : List α) (ho : o + m * s = o') (hl : l.drop m = l') : Own a w L [(b, o', cellsR f l')] := by
  subst ho hl
  refine h.noR.push b _ _ (fun hne => ?_)
  have h0 := cellsR_ne hf hs hne
  have h1 : 0 < l.length := by
    rw [List.length_drop] at h0
    omega
  obtain ⟨h2, h3, h4⟩ := h.rng k b o _ hk (cellsR_some hf hs h1)
  exact ⟨h2, by rw [cellsR_drop hf]; exact range_drop h3 _, h4⟩
theorem row_sl {w : World} {base : Nat} {e : TypeId} {s n : Nat} {v : Value} {xs : List Value} (h : w.ownsRow base e s v n xs) : ∃ a c, v = .slice a n c := by
  rcases Joins.ownsRow_forms h with ⟨rfl, rfl⟩ | ⟨g, cap, rfl⟩
  · exact ⟨_, _, rfl⟩
  · exact ⟨_, _, rfl⟩
end
end Go.Proofs.Ytgcedookbblibaa
