/- An argument that is a slice of whole numbers: what a walk wants of it; nothing of any program. -/
import Derived.Test.YtgcedookbblibaaLib
import Derived.Carry
import Derived.ChangeSlices
import Derived.ProofKit
namespace Go.Proofs.Ytgcedookbblibaa
open Go Go.RowKit Go.WideShapes Go.ChangeShapes

/-- The value is a slice whose elements are the numbers us, in old memory. -/
def IsInts (w : World) (k : IntKind) (v : Value) (us : List Int) : Prop :=
  (∃ a cap, v = .slice a 0 cap ∧ us = []) ∨
  ∃ b off cap, v = .slice (some ⟨b, off, none⟩) us.length cap ∧ 0 < us.length ∧ us.length ≤ cap ∧ cap ≤ maxLen ∧ b < w.heap.size ∧ ∀ j, j < us.length → w.cell? ⟨b, off + j, none⟩ = some (.int k (us.getD j 0))

section
variable {H : Type} {enc : TypeId × Value → H} {P : Program}

theorem isInts_of {t e : TypeId} {k : IntKind} {W : World} {a : Option Addr} {len cap : Nat} {d : DataW H} {ps : List MemPlace} (ht : P.underlying t = some (.slice e)) (he : P.underlying e = some (.int k)) (hc : P.cellsOf e = 1)
    (h : DataW.Trod enc P W 0 (fun _ => true) true t (.slice a len cap) d ps) (hlt : ∀ x ∈ ps, x.block < W.heap.size) :
    ∃ us, IsInts W k (.slice a len cap) us ∧ us.length = len ∧ ∀ n ∈ us, (Lit.int k n).wf = true := by
  obtain ⟨fuel, hf⟩ := h
  rcases open_ints ht he hc hf with ⟨hcs, hx⟩ | ⟨ad, len', cap', zs, hcs, _, hl, hm, hz, hx, hcell, hwz⟩
  · simp [Value.cells] at hcs
    obtain ⟨rfl, rfl, rfl⟩ := hcs
    exact ⟨[], Or.inl ⟨_, _, rfl, rfl⟩, rfl, by simp⟩
  · simp [Value.cells] at hcs
    obtain ⟨rfl, rfl, rfl⟩ := hcs
    simp only [Prod.mk.injEq] at hx
    obtain ⟨rfl, rfl⟩ := hx
    simp only [if_true] at hz
    have hlen : (zs.take len).length = len := by simp; omega
    refine ⟨zs.take len, ?_, hlen, fun n hn => hwz n (List.mem_of_mem_take hn)⟩
    by_cases hl0 : len = 0
    · subst hl0
      exact Or.inl ⟨_, _, rfl, by simp⟩
    · obtain ⟨b, off, spot⟩ := ad
      have hspot : spot = none := by simpa [Addr.add] using World.cell?_spot (hcell 0 (by omega))
      subst hspot
      have hbW : b < W.heap.size := hlt (.cell b off) (MemPlace.mem_row.2 ⟨0, by omega, by simp⟩)
      refine Or.inr ⟨b, off, cap, by rw [hlen], by omega, by omega, hm, hbW, fun j hj => ?_⟩
      have hj' : j < len := by omega
      have := hcell j (by omega)
      rw [show (⟨b, off, none⟩ : Addr).add j = ⟨b, off + j, none⟩ by simp [Addr.add]] at this
      rw [this]
      simp [List.getD, List.getElem?_take, hj']

theorem isInts_len {w : World} {k : IntKind} {v : Value} {us : List Int} (h : IsInts w k v us) : us.length ≤ maxLen := by
  rcases h with ⟨_, _, _, rfl⟩ | ⟨_, _, _, _, _, h1, h2, _⟩
  · simp
  · omega

theorem trod_below {t : TypeId} (hl : laidOutB P = true) (hr : P.readableRec t = true) (hrow : t < P.types.size) {W W' : World} {v : Value} {d : DataW H} {ps : List MemPlace} {sp : Nat → Bool}
    (h : DataW.Trod enc P W 0 (fun _ => true) true t v d ps) (hb : Below W.heap.size W W') (hlt : ∀ x ∈ ps, x.block < W.heap.size) (hsp : ∀ x ∈ ps, sp x.block = true) :
    DataW.Trod enc P W' 0 sp true t v d ps :=
  WideElems.Trod_stays hl hr hrow h (fun x hx => hb.same (hlt x hx)) hsp
end
end Go.Proofs.Ytgcedookbblibaa
