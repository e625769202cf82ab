/- A field that is a slice of whole numbers, of a struct by value. -/
import Derived.Test.YtlaejolgjchfcaaInts
import Derived.Deep.Slices
namespace Go.Proofs.Ytlaejolgjchfcaa
open Go Go.RowKit Go.WideShapes Go.ChangeShapes
section
variable {H : Type} {enc : TypeId × Value → H} {P : Program}
theorem isInts_cell {t e : TypeId} {k : IntKind} {W : World} {n : Nat} {v : Value} {y : DataW H × List MemPlace} (ht : P.underlying t = some (.slice e)) (he : P.underlying e = some (.int k)) (hc : P.cellsOf e = 1)
    (h : DataW.trod enc P W 0 (fun _ => true) true n t [v] = some y) (hlt : ∀ x ∈ y.2, x.block < W.heap.size) :
    ∃ a cap us, v = .slice a us.length cap ∧ IsInts W k v us ∧ (a = none → cap = 0) := by
  have form : ∃ a len cap, v = .slice a len cap ∧ (a = none → cap = 0) := by
    rcases Deep.open_slice ht h with ⟨hcs, _⟩ | ⟨ad, len, cap, m, n', D, Pl, hcs, _⟩
    · have : v = .slice none 0 0 := by simpa using hcs
      exact ⟨_, _, _, this, fun _ => rfl⟩
    · have : v = .slice (some ad) len cap := by simpa using hcs
      exact ⟨_, _, _, this, fun h => by cases h⟩
  obtain ⟨a, len, cap, rfl, hno⟩ := form
  obtain ⟨us, h1, h2, _⟩ := isInts_of (d := y.1) (ps := y.2) ht he hc ⟨n, by simpa [Value.cells] using h⟩ hlt
  subst h2
  exact ⟨a, cap, us, rfl, h1, hno⟩
end
end Go.Proofs.Ytlaejolgjchfcaa
