/- Rows: fewer of them. -/
import Derived.Test.YtgcedookbblibaaRow2
namespace Go.Proofs.Ytgcedookbblibaa
open Go Go.RowKit
theorem Own.skip1 {a w : World} {L : List (Nat × List Value)} {x y : Nat × Nat × List Value} {R : List (Nat × Nat × List Value)} (h : Own a w L (x :: y :: R)) : Own a w L (x :: R) :=
  h.reR _ (fun k b o cs hk hne => by
    cases k with
    | zero => exact h.rng 0 b o cs hk hne
    | succ k => exact h.rng (k + 2) b o cs (by simpa using hk) hne)
theorem Own.tailR {a w : World} {L : List (Nat × List Value)} {x : Nat × Nat × List Value} {R : List (Nat × Nat × List Value)} (h : Own a w L (x :: R)) : Own a w L R :=
  h.reR _ (fun k b o cs hk hne => h.rng (k + 1) b o cs (by simpa using hk) hne)
section
variable {α : Type} {f : α → List Value} {s : Nat}
theorem Own.dropHead {a w : World} {L : List (Nat × List Value)} {R : List (Nat × Nat × List Value)} {b o : Nat} {l : List α} (h : Own a w L ((b, o, cellsR f l) :: R)) (hf : ∀ x, (f x).length = s) (hs : 0 < s) (m o' : Nat) (l' : List α) (ho : o + m * s = o') (hl : l.drop m = l') : Own a w L ((b, o', cellsR f l') :: R) :=
  (h.tailR).push b o' (cellsR f l') (fun hne => (h.dropR hf hs 0 b o l rfl m o' l' ho hl).rng 0 b o' _ rfl hne)
theorem Own.elemCell {a w : World} {L : List (Nat × List Value)} {R : List (Nat × Nat × List Value)} (h : Own a w L R) (hf : ∀ x, (f x).length = s) (hs : 0 < s) (k b o : Nat) (l : List α) (hk : R[k]? = some (b, o, cellsR f l)) {i : Nat} {x : α} (hx : l[i]? = some x) (j : Nat) {v : Value} (hj : (f x)[j]? = some v) : w.cell? ⟨b, o + i * s + j, none⟩ = some v := by
  have hil : 0 < l.length := by have := (List.getElem?_eq_some_iff.1 hx).1; omega
  have hjs : j < s := by rw [← hf x]; exact (List.getElem?_eq_some_iff.1 hj).1
  have := (h.rng k b o _ hk (cellsR_some hf hs hil)).2.1 (i * s + j) v ((cellsR_at hf l i x hx j hjs).trans hj)
  rwa [← Nat.add_assoc] at this
end
end Go.Proofs.Ytgcedookbblibaa
