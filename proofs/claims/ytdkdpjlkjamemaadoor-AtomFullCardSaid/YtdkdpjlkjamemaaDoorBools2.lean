/- An argument that is a slice of bools. -/
import Derived.Test.YtdkdpjlkjamemaaDoorStrs2
import Derived.Test.YtdkdpjlkjamemaaDoorInts
import Derived.Deep.Slices
namespace Go.Proofs.YtdkdpjlkjamemaaDoor
open Go Go.RowKit Go.WideShapes Go.ChangeShapes

/-- The value is a slice whose elements are these bools, in old memory. -/
def IsBools (w : World) (v : Value) (ss : List Bool) : Prop :=
  (∃ a cap, v = .slice a 0 cap ∧ ss = []) ∨
  ∃ b off cap, v = .slice (some ⟨b, off, none⟩) ss.length cap ∧ 0 < ss.length ∧ ss.length ≤ cap ∧ cap ≤ maxLen ∧ b < w.heap.size ∧ ∀ k s, ss[k]? = some s → w.cell? ⟨b, off + k, none⟩ = some (.bool s)
theorem isBools_pos {w : World} {a : Option Addr} {n cap : Nat} {ss : List Bool} (h : IsBools w (.slice a n cap) ss) (hp : 0 < ss.length) : ∃ b off, a = some ⟨b, off, none⟩ ∧ ss.length ≤ cap ∧ cap ≤ maxLen ∧ b < w.heap.size ∧ ∀ k s, ss[k]? = some s → w.cell? ⟨b, off + k, none⟩ = some (.bool s) := by
  rcases h with ⟨_, _, _, h⟩ | ⟨b, off, cap', h1, h2, h3, h4, h5, h6⟩
  · subst h; simp at hp
  · cases h1; exact ⟨b, off, rfl, h3, h4, h5, h6⟩
theorem isBools_len {w : World} {v : Value} {ss : List Bool} (h : IsBools w v ss) : ss.length ≤ maxLen := by
  rcases h with ⟨_, _, _, rfl⟩ | ⟨_, _, _, _, _, h1, h2, _⟩
  · simp
  · omega
section
variable {H : Type} {enc : TypeId × Value → H} {P : Program}
theorem isBools_of {t e : TypeId} {W : World} {a : Option Addr} {len cap : Nat} {d : DataW H} {ps : List MemPlace} (ht : P.underlying t = some (.slice e)) (he : P.underlying e = some .bool) (hc : P.cellsOf e = 1)
    (h : DataW.Trod enc P W 0 (fun _ => true) true t (.slice a len cap) d ps) (hlt : ∀ x ∈ ps, x.block < W.heap.size) :
    ∃ ss : List Bool, IsBools W (.slice a len cap) ss ∧ ss.length = len := by
  obtain ⟨fuel, hf0⟩ := h
  rcases Deep.open_slice ht hf0 with ⟨hcs, hx⟩ | ⟨ad, len', cap', m, n, D, Pl, hcs, hb, hl, hm, hmm, hx, hel⟩
  · simp [Value.cells] at hcs
    obtain ⟨rfl, rfl, rfl⟩ := hcs
    exact ⟨[], Or.inl ⟨_, _, rfl, rfl⟩, rfl⟩
  · simp [Value.cells] at hcs
    obtain ⟨rfl, rfl, rfl⟩ := hcs
    simp only [if_true] at hmm
    have hmm' := hmm.symm
    subst hmm'
    simp only [Prod.mk.injEq] at hx
    obtain ⟨rfl, rfl⟩ := hx
    obtain ⟨b, off, spot⟩ := ad
    have each : ∀ i, i < len → ∃ q : Bool, W.cell? ((⟨b, off, spot⟩ : Addr).add i) = some (.bool q) := by
      intro i hil
      obtain ⟨cs', h1, h2⟩ := hel i (by omega)
      rw [hc] at h1
      obtain ⟨_, hlen, hcell⟩ := World.cells?_some h1
      obtain ⟨s, rfl, _⟩ := DataW.trod_bool he h2
      refine ⟨s, ?_⟩
      have := hcell 0 (by omega)
      rw [Deep.add_add] at this
      simpa using this
    obtain ⟨q, hq⟩ := Deep.choose_lt each
    by_cases hl0 : len = 0
    · subst hl0
      exact ⟨[], Or.inl ⟨_, _, rfl, rfl⟩, rfl⟩
    · have hspot : spot = none := by
        have := World.cell?_spot (hq 0 (by omega))
        simpa [Addr.add] using this
      subst hspot
      have hbW : b < W.heap.size := hlt (.cell b off) (by
        rw [hc]
        exact List.mem_append_left _ (MemPlace.mem_row.2 ⟨0, by omega, by simp⟩))
      refine ⟨(List.range len).map q, Or.inr ⟨b, off, cap, by simp, by simp; omega, by simp; omega, hm, hbW, ?_⟩, by simp⟩
      intro k r hk
      have hkl : k < len := by have := (List.getElem?_eq_some_iff.1 hk).1; simpa using this
      have hkr : q k = r := by simpa [List.getElem?_map, List.getElem?_range hkl] using hk
      subst hkr
      have e0 := hq k hkl
      rw [addr_add] at e0
      exact e0
end
end Go.Proofs.YtdkdpjlkjamemaaDoor
