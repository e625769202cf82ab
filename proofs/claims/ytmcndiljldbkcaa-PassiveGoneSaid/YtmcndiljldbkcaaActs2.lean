/- Layer 38: an argument of acts: the ids of each lie there too. -/
import Derived.Test.YtmcndiljldbkcaaActs
import Derived.Test.YtmcndiljldbkcaaInts
namespace Go.Proofs.Ytmcndiljldbkcaa
open Go Go.RowKit Go.WideShapes Go.ChangeShapes
set_option linter.unusedSimpArgs false
set_option linter.unusedVariables false
def IdsAt (w : World) (x : Ac) (is : List Int) : Prop := IsInts w .u32 (.slice x.ia x.il x.ic) is ∧ is.length = x.il ∧ ∀ u ∈ is, 0 ≤ u ∧ u < 4294967296
section
variable {H : Type} {enc : TypeId × Value → H}
theorem act_ids {W : World} {fuel : Nat} {x : Ac} {y : DataW H × List MemPlace} (h : DataW.trod enc Try.prog W 0 (fun _ => true) true fuel 53 (acL x) = some y) (hlt : ∀ p ∈ y.2, p.block < W.heap.size) : ∃ is, IdsAt W x is := by
  obtain ⟨xs, n, _, rfl, hlen, hxl, hf⟩ := DataW.trod_struct Try.underlying53 h
  match xs, hxl with
  | [z0, z1, (d, ps)], _ =>
    have k2 : DataW.trod enc Try.prog W 0 (fun _ => true) true n 31 (List.take (Try.prog.cellsOf 31) (List.drop 10 (acL x))) = some (d, ps) := hf 2 _ rfl
    rw [act_c3] at k2
    have k2' : DataW.trod enc Try.prog W 0 (fun _ => true) true n 31 (Value.slice x.ia x.il x.ic).cells.toList = some (d, ps) := k2
    obtain ⟨us, h1, h2, h3⟩ := isInts_of (k := .u32) (e := 33) (by kernel_rfl) (by kernel_rfl) act_c4 (⟨n, k2'⟩ : DataW.Trod enc Try.prog W 0 (fun _ => true) true 31 (.slice x.ia x.il x.ic) d ps) (fun p hp => hlt p (by simp [hp]))
    refine ⟨us, h1, h2, fun u hu => ?_⟩
    have h4 := h3 u hu
    simp [Lit.wf, IntKind.min, IntKind.max, IntKind.bits, IntKind.signed] at h4
    omega
theorem isActs2_of {W : World} {a : Option Addr} {len cap : Nat} {d : DataW H} {ps : List MemPlace}
    (h : DataW.Trod enc Try.prog W 0 (fun _ => true) true 22 (.slice a len cap) d ps) (hlt : ∀ x ∈ ps, x.block < W.heap.size) :
    ∃ xs : List Ac, IsAct W (.slice a len cap) xs ∧ xs.length = len ∧ ∀ x ∈ xs, ∃ is, IdsAt W x is := by
  obtain ⟨fuel, hf0⟩ := h
  rcases Deep.open_slice (e := 53) (by kernel_rfl) hf0 with ⟨hcs, hx⟩ | ⟨ad, len', cap', m, n, D, Pl, hcs, hb, hl, hm, hmm, hx, hel⟩
  · simp [Value.cells] at hcs
    obtain ⟨rfl, rfl, rfl⟩ := hcs
    exact ⟨[], ⟨none, 0, rfl, fun h => by simp at h⟩, rfl, by simp⟩
  · simp [Value.cells] at hcs
    obtain ⟨rfl, rfl, rfl⟩ := hcs
    simp only [if_true] at hmm
    have hmm' := hmm.symm
    subst hmm'
    simp only [Prod.mk.injEq] at hx
    obtain ⟨rfl, rfl⟩ := hx
    obtain ⟨b, off, spot⟩ := ad
    have each : ∀ i, i < len → ∃ q : Ac, (∀ j, j < 11 → W.cell? (((⟨b, off, spot⟩ : Addr).add (i * 11)).add j) = (acL q)[j]?) ∧ ∃ is, IdsAt W q is := by
      intro i hil
      obtain ⟨cs', h1, h2⟩ := hel i (by omega)
      rw [act_c0] at h1
      obtain ⟨_, hlen, hcell⟩ := World.cells?_some h1
      obtain ⟨x, rfl⟩ := act_cells h2
      exact ⟨x, hcell, act_ids h2 (fun p hp => hlt p (List.mem_append_right _ (List.mem_flatMap.2 ⟨i, List.mem_range.2 (by omega), hp⟩)))⟩
    obtain ⟨q, hq⟩ := Deep.choose_lt each
    by_cases hl0 : len = 0
    · subst hl0
      exact ⟨[], ⟨_, _, rfl, fun h => by simp at h⟩, rfl, by simp⟩
    · have hspot : spot = none := by
        have h0 := (hq 0 (by omega)).1 0 (by omega)
        have := World.cell?_spot (h0.trans (show (acL (q 0))[0]? = some (i6 (q 0).kd) from rfl))
        simpa [Addr.add] using this
      subst hspot
      have hbW : b < W.heap.size := hlt (.cell b off) (by
        rw [act_c0]
        exact List.mem_append_left _ (MemPlace.mem_row.2 ⟨0, by omega, by simp⟩))
      refine ⟨(List.range len).map q, ⟨_, cap, by simp, fun _ => ⟨b, off, rfl, hbW, fun k x hk j u hj => ?_⟩⟩, by simp, fun x hx => ?_⟩
      rotate_left
      · obtain ⟨k, hk, rfl⟩ := List.mem_map.1 hx
        exact (hq k (List.mem_range.1 hk)).2
      have hkl : k < len := by have := (List.getElem?_eq_some_iff.1 hk).1; simpa using this
      have hkr : q k = x := by simpa [List.getElem?_map, List.getElem?_range hkl] using hk
      have hj11 : j < 11 := by have := (List.getElem?_eq_some_iff.1 hj).1; rwa [acL_len] at this
      have := (hq k hkl).1 j hj11
      rw [hkr, hj] at this
      rw [Deep.add_add, show (⟨b, off, none⟩ : Addr).add (k * 11 + j) = ⟨b, off + (k * 11 + j), none⟩ by unfold Addr.add; split <;> simp_all] at this
      rw [Nat.add_assoc]
      exact this
end
end Go.Proofs.Ytmcndiljldbkcaa
