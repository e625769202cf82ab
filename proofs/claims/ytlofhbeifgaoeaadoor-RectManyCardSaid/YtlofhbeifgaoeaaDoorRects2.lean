/- An argument that is a slice of rectangles. -/
import Derived.Test.YtlofhbeifgaoeaaDoorRects
import Derived.Deep.Slices
namespace Go.Proofs.YtlofhbeifgaoeaaDoor
open Go Go.RowKit Go.WideShapes Go.ChangeShapes

section
variable {H : Type} {enc : TypeId × Value → H} {P : Program}
theorem addr_add (b off j : Nat) : (⟨b, off, none⟩ : Addr).add j = ⟨b, off + j, none⟩ := by unfold Addr.add; split <;> simp_all
/-- An argument that is a slice of rectangles. -/
theorem isRects_of {t e f : TypeId} {W : World} {a : Option Addr} {len cap : Nat} {d : DataW H} {ps : List MemPlace} {fs : Array Field} (ht : P.underlying t = some (.slice e)) (he : P.underlying e = some (.struct fs))
    (hf : fs.toList.map (fun x => (x.offset, x.type)) = [(0, f), (1, f), (2, f), (3, f)]) (hi : P.underlying f = some (.int .i64)) (hc : P.cellsOf e = 4) (hc1 : P.cellsOf f = 1)
    (h : DataW.Trod enc P W 0 (fun _ => true) true t (.slice a len cap) d ps) (hlt : ∀ x ∈ ps, x.block < W.heap.size) :
    ∃ rs : List R4, IsRects W (.slice a len cap) rs ∧ rs.length = len ∧ len ≤ maxLen := by
  obtain ⟨fuel, hf0⟩ := h
  rcases Deep.open_slice ht hf0 with ⟨hcs, hx⟩ | ⟨ad, len', cap', m, n, D, Pl, hcs, hb, hl, hm, hmm, hx, hel⟩
  · simp [Value.cells] at hcs
    obtain ⟨rfl, rfl, rfl⟩ := hcs
    exact ⟨[], Or.inl ⟨_, _, rfl, rfl⟩, rfl, by simp⟩
  · simp [Value.cells] at hcs
    obtain ⟨rfl, rfl, rfl⟩ := hcs
    simp only [if_true] at hmm
    have hmm' := hmm.symm
    subst hmm'
    simp only [Prod.mk.injEq] at hx
    obtain ⟨rfl, rfl⟩ := hx
    obtain ⟨b, off, spot⟩ := ad
    have each : ∀ i, i < len → ∃ q : R4, W.cell? ((⟨b, off, spot⟩ : Addr).add (i * 4)) = some (i6 q.1) ∧ W.cell? ((⟨b, off, spot⟩ : Addr).add (i * 4 + 1)) = some (i6 q.2.1) ∧ W.cell? ((⟨b, off, spot⟩ : Addr).add (i * 4 + 2)) = some (i6 q.2.2.1) ∧ W.cell? ((⟨b, off, spot⟩ : Addr).add (i * 4 + 3)) = some (i6 q.2.2.2) := by
      intro i hil
      obtain ⟨cs', h1, h2⟩ := hel i (by omega)
      rw [hc] at h1
      obtain ⟨_, hlen, hcell⟩ := World.cells?_some h1
      obtain ⟨xs, k, hk, hxy, _, hxl, hff⟩ := DataW.trod_struct he h2
      have hfl : fs.toList.length = 4 := by have := congrArg List.length hf; simpa using this
      match cs', hlen with
      | [v0, v1, v2, v3], _ =>
        have one : ∀ (j : Nat) (v : Value), j < 4 → [v0, v1, v2, v3][j]? = some v → ∃ z, v = i6 z := by
          intro j v hj hv
          have hfj : ∃ fl, fs.toList[j]? = some fl ∧ fl.offset = j ∧ fl.type = f := by
            have e1 : (fs.toList.map (fun x => (x.offset, x.type)))[j]? = some (j, f) := by
              rw [hf]
              match j, hj with
              | 0, _ => rfl
              | 1, _ => rfl
              | 2, _ => rfl
              | 3, _ => rfl
            rw [List.getElem?_map] at e1
            obtain ⟨fl, hfl, he⟩ := Option.map_eq_some_iff.1 e1
            simp only [Prod.mk.injEq] at he
            exact ⟨fl, hfl, he.1, he.2⟩
          obtain ⟨fl, g1, g2, g3⟩ := hfj
          have g4 := hff j fl (by simpa using g1)
          rw [g2, g3, hc1] at g4
          have hd : ([v0, v1, v2, v3].drop j).take 1 = [v] := by
            match j, hj, hv with
            | 0, _, hv => simp at hv; subst hv; rfl
            | 1, _, hv => simp at hv; subst hv; rfl
            | 2, _, hv => simp at hv; subst hv; rfl
            | 3, _, hv => simp at hv; subst hv; rfl
          rw [hd] at g4
          have hxj : ∃ y, xs[j]? = some y := ⟨_, List.getElem?_eq_getElem (by rw [hxl]; simp at hfl ⊢; omega)⟩
          obtain ⟨y, hy⟩ := hxj
          rw [hy] at g4
          obtain ⟨z, hz, _, _⟩ := DataW.trod_int hi g4
          exact ⟨z, by simpa using hz⟩
        obtain ⟨z0, rfl⟩ := one 0 v0 (by omega) rfl
        obtain ⟨z1, rfl⟩ := one 1 v1 (by omega) rfl
        obtain ⟨z2, rfl⟩ := one 2 v2 (by omega) rfl
        obtain ⟨z3, rfl⟩ := one 3 v3 (by omega) rfl
        refine ⟨(z0, z1, z2, z3), ?_, ?_, ?_, ?_⟩
        · have := hcell 0 (by omega); rw [Deep.add_add] at this; simpa using this
        · have := hcell 1 (by omega); rw [Deep.add_add] at this; simpa using this
        · have := hcell 2 (by omega); rw [Deep.add_add] at this; simpa using this
        · have := hcell 3 (by omega); rw [Deep.add_add] at this; simpa using this
    obtain ⟨q, hq⟩ := Deep.choose_lt each
    by_cases hl0 : len = 0
    · subst hl0
      exact ⟨[], Or.inl ⟨_, _, rfl, rfl⟩, rfl, by simp⟩
    · have hspot : spot = none := by
        have := World.cell?_spot (hq 0 (by omega)).1
        simpa [Addr.add] using this
      subst hspot
      have hbW : b < W.heap.size := hlt (.cell b off) (by
        rw [hc]
        exact List.mem_append_left _ (MemPlace.mem_row.2 ⟨0, by omega, by simp⟩))
      refine ⟨(List.range len).map q, Or.inr ⟨b, off, cap, by simp, by simp; omega, by simp; omega, hm, hbW, ?_⟩, by simp, by omega⟩
      intro k r hk
      have hkl : k < len := by have := (List.getElem?_eq_some_iff.1 hk).1; simpa using this
      have hkr : q k = r := by simpa [List.getElem?_map, List.getElem?_range hkl] using hk
      subst hkr
      obtain ⟨e0, e1, e2, e3⟩ := hq k hkl
      rw [addr_add] at e0 e1 e2 e3
      exact ⟨e0, by rw [Nat.add_assoc]; exact e1, by rw [Nat.add_assoc]; exact e2, by rw [Nat.add_assoc]; exact e3⟩
end
end Go.Proofs.YtlofhbeifgaoeaaDoor
